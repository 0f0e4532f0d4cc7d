/- A processor as a whole: 83 cells that are never opened; a flat one. -/
import Derived.Test.YtmmnnafjikilpaaVmCalls
import Derived.Laws.CopyRow
import Derived.Deep.MidRow
namespace Go.Proofs.Ytmmnnafjikilpaa
open Go.ChangeShapes Go.WideShapes Go.ChangeAt Go.RowKit Go.Maps
set_option linter.unusedVariables false
set_option maxRecDepth 20000

structure WfC (cs : Array Value) : Prop where
  s : cs.size = 83
  o : ∀ v ∈ cs.toList, v.oneCell' = true

theorem WfC.set {cs : Array Value} (h : WfC cs) (k : Nat) {v : Value} (hv : v.oneCell' = true) : WfC (cs.setIfInBounds k v) where
  s := by simp [h.s]
  o := fun x hx => by
    rw [Array.toList_setIfInBounds] at hx
    rcases List.mem_or_eq_of_mem_set hx with f | f
    · exact h.o x f
    · rw [f]; exact hv

def cpuZ : Array Value := #[.int .u32 0, .int .u32 0, .int .u32 0, .int .u32 0, .int .u32 0, .int .u32 0, .int .u32 0, .int .u32 0, .int .u32 0, .int .u32 0, .int .u16 0, .bool false, .int .u32 0, .int .u32 0, .int .i64 0, .bool false, .int .i64 0, .bool false, .bool false, .int .u16 0, .bool false, .int .u32 0, .int .u32 0, .int .i64 0, .bool false, .int .i64 0, .bool false, .bool false, .int .u16 0, .bool false, .int .u32 0, .int .u32 0, .int .i64 0, .bool false, .int .i64 0, .bool false, .bool false, .int .u16 0, .bool false, .int .u32 0, .int .u32 0, .int .i64 0, .bool false, .int .i64 0, .bool false, .bool false, .int .u16 0, .bool false, .int .u32 0, .int .u32 0, .int .i64 0, .bool false, .int .i64 0, .bool false, .bool false, .int .u16 0, .bool false, .int .u32 0, .int .u32 0, .int .i64 0, .bool false, .int .i64 0, .bool false, .bool false, .int .u32 0, .int .u32 0, .int .u32 0, .int .u32 0, .int .u16 0, .int .u32 0, .int .u16 0, .int .u16 0, .bool false, .int .u32 0, .int .u32 0, .int .i64 0, .bool false, .int .i64 0, .bool false, .bool false, .bool false, .bool false, .bool false]

structure VlP (T : TypeId) (n : Nat) (Z : Array Value) : Prop where
  t : T = 38
  s : n = 83
  z : Z = cpuZ
  agg : ∀ w, (isAgg T).run Try.prog w = .ok true w
  size : ∀ w, (sizeOf T).run Try.prog w = .ok n w
  zero : ∀ w, (zeroValue T).run Try.prog w = .ok (.agg Z) w
  wf : WfC Z
  z64 : Z[64]? = some (.int .u32 0)
  z66 : Z[66]? = some (.int .u32 0)

theorem vlP : ∃ T n Z, VlP T n Z :=
  ⟨_, _, _, rfl, rfl, rfl, fun w => by kernel_rfl, fun w => by kernel_rfl, fun w => by kernel_rfl, ⟨by kernel_rfl, by
    have : cpuZ.toList.all (fun v => v.oneCell') = true := by kernel_rfl
    exact fun v hv => List.all_eq_true.1 this v hv⟩, by kernel_rfl, by kernel_rfl⟩

theorem VlP.ops {T : TypeId} {n : Nat} {Z : Array Value} (h : VlP T n Z) :
    (∀ x, Op.load 38 x = Op.load T x) ∧ (∀ x y, Op.store 38 x y = Op.store T x y) ∧ Op.alloc 38 = Op.alloc T ∧ ∀ x, Op.box 38 x = Op.box T x := by
  rw [h.t]
  exact ⟨fun _ => rfl, fun _ _ => rfl, rfl, fun _ => rfl⟩

def PAt (w : World) (q : Nat) (cs : Array Value) : Prop := w.heap[q]? = some (.cells cs 38 (0, 0)) ∧ WfC cs
theorem PAt.lt {w : World} {q : Nat} {cs : Array Value} (h : PAt w q cs) : q < w.heap.size := (Array.getElem?_eq_some_iff.1 h.1).1
theorem PAt.kp {S : Nat → Prop} {w w' : World} {q : Nat} {cs : Array Value} (h : PAt w q cs) (k : Kp S w w') (hS : ¬ S q) : PAt w' q cs := ⟨(k.block q h.lt hS).trans h.1, h.2⟩
theorem PAt.cell {w : World} {q : Nat} {cs : Array Value} (h : PAt w q cs) {k : Nat} {v : Value} (hv : cs[k]? = some v) : w.cell? ⟨q, k, none⟩ = some v := by rw [cell_at h.1]; exact hv
theorem PAt.some {w : World} {q : Nat} {cs : Array Value} (h : PAt w q cs) {k : Nat} (hk : k < 83) : ∃ v, w.cell? ⟨q, k, none⟩ = Option.some v := by
  have : k < cs.size := by rw [h.2.s]; exact hk
  exact ⟨cs[k], h.cell (Array.getElem?_eq_getElem this)⟩
theorem PAt.fz {w : World} {q : Nat} {cs : Array Value} (h : PAt w q cs) (j : Nat) : w.frozen? ⟨q, j, none⟩ = false := frozen_at h.1
theorem PAt.set {w : World} {q : Nat} {cs : Array Value} (h : PAt w q cs) (k : Nat) {v : Value} (hv : v.oneCell' = true) : PAt (w.setCell ⟨q, k, none⟩ v) q (cs.setIfInBounds k v) := ⟨heap_setCell_at h.1 _, h.2.set k hv⟩

section
variable {T : TypeId} {n : Nat} {Z : Array Value}

theorem VlP.get (h : VlP T n Z) {w : World} {q : Nat} {cs : Array Value} (hq : PAt w q cs) : (loadCellsFrom ⟨q, 0, none⟩ 0 n #[]).run Try.prog w = .ok cs w := by
  have e := run_loadCells_list (P := Try.prog) w ⟨q, 0, none⟩ cs.toList (fun j v hv => by
    rw [Addr.add_mid, Nat.zero_add]
    exact hq.cell (by rw [← Array.getElem?_toList]; exact hv))
  rw [h.s]
  have : cs.toList.length = 83 := hq.2.s
  rw [this] at e
  exact e

theorem put_cpu {w : World} {q : Nat} {c cs : Array Value} {T : TypeId} (h : w.heap[q]? = some (.cells c T (0, 0))) (hc : c.size = 83) (wf : WfC cs) : (storeCells ⟨q, 0, none⟩ cs.toList).run Try.prog w = .ok () (w.setRow q cs) := by
  have e := run_storeCells_at Try.prog q 0 T cs.toList 0 c w h (by simp [hc, wf.s]) wf.o
  rw [e]
  have e2 : (List.take (0 + 0) c.toList ++ cs.toList ++ List.drop (0 + 0 + cs.toList.length) c.toList).toArray = cs := by
    have h1 : List.drop (0 + 0 + cs.toList.length) c.toList = [] := List.drop_eq_nil_of_le (by simp [hc, wf.s])
    rw [h1]
    simp
  rw [e2]

theorem setRow_alloc (W : World) (c A : Array Value) (T : TypeId) : (W.alloc (.cells c T)).setRow W.heap.size A = W.alloc (.cells A T) := by
  unfold World.setRow World.alloc
  congr 1
  apply Array.ext_getElem?
  intro i
  rw [Array.getElem?_modify]
  by_cases h : W.heap.size = i
  · subst h; simp
  · simp only [h, if_false]
    by_cases h2 : i < W.heap.size
    · rw [Array.getElem?_push_lt h2, Array.getElem?_push_lt h2]
    · rw [Array.getElem?_eq_none (by simp; omega), Array.getElem?_eq_none (by simp; omega)]

/-- A new processor is laid. -/
theorem VlP.new (h : VlP T n Z) {cs : Array Value} (wf : WfC cs) (W : World) : (storeCells ⟨W.heap.size, 0, none⟩ cs.toList).run Try.prog (W.alloc (.cells Z T)) = .ok () (W.alloc (.cells cs T)) := by
  rw [← setRow_alloc W Z cs T]
  exact put_cpu (MapKept.heap_alloc W (.cells Z T)).1 (by rw [h.wf.s]) wf
theorem VlP.at (h : VlP T n Z) {cs : Array Value} (wf : WfC cs) (W : World) : PAt (W.alloc (.cells cs T)) W.heap.size cs := by
  rw [h.t]; exact ⟨(MapKept.heap_alloc W _).1, wf⟩
theorem VlP.put {w : World} {q : Nat} {c cs : Array Value} (hq : PAt w q c) (wf : WfC cs) : (storeCells ⟨q, 0, none⟩ cs.toList).run Try.prog w = .ok () (w.setRow q cs) := put_cpu hq.1 hq.2.s wf
theorem PAt.put {w : World} {q : Nat} {c cs : Array Value} (hq : PAt w q c) (wf : WfC cs) : PAt (w.setRow q cs) q cs := ⟨setRow_heap w q _ _ _ _ hq.1, wf⟩
end

/-- A segment register within the cells. -/
structure SgC (cs : Array Value) (o : Nat) (r : SgR) : Prop where
  a0 : cs[o]? = some (.int .u16 r.sel)
  a1 : cs[o + 1]? = some (.bool r.nl)
  a2 : cs[o + 2]? = some (.int .u32 r.b)
  a3 : cs[o + 3]? = some (.int .u32 r.l)
  a4 : cs[o + 4]? = some (.int .i64 r.t)
  a5 : cs[o + 5]? = some (.bool r.s)
  a6 : cs[o + 6]? = some (.int .i64 r.d)
  a7 : cs[o + 7]? = some (.bool r.p)
  a8 : cs[o + 8]? = some (.bool r.g)

/-- The cells of a processor. -/
structure CpC (cs : Array Value) (c : Cp) : Prop where
  sg : ∀ i, i < 6 → SgC cs (10 + i * 9) (c.seg i)
  z : cs[64]? = some (.int .u32 c.cr0)
  t : cs[66]? = some (.int .u32 c.cr3)

theorem PAt.cp {w : World} {q : Nat} {cs : Array Value} {c : Cp} (h : PAt w q cs) (hc : CpC cs c) (ok : c.Ok) : CpAt w q c where
  sg := fun i hi => by
    have s := hc.sg i hi
    exact ⟨h.cell s.a0, h.cell s.a1, h.cell s.a2, h.cell s.a3, h.cell s.a4, h.cell s.a5, h.cell s.a6, h.cell s.a7, h.cell s.a8⟩
  z := h.cell hc.z
  t := h.cell hc.t
  ok := ok

def set9 (cs : Array Value) (o : Nat) (r : SgR) : Array Value :=
  ((((((((cs.setIfInBounds o (.int .u16 r.sel)).setIfInBounds (o + 1) (.bool r.nl)).setIfInBounds (o + 2) (.int .u32 r.b)).setIfInBounds (o + 3) (.int .u32 r.l)).setIfInBounds (o + 4) (.int .i64 r.t)).setIfInBounds (o + 5) (.bool r.s)).setIfInBounds (o + 6) (.int .i64 r.d)).setIfInBounds (o + 7) (.bool r.p)).setIfInBounds (o + 8) (.bool r.g)

theorem set9_wf {cs : Array Value} (h : WfC cs) (o : Nat) (r : SgR) : WfC (set9 cs o r) :=
  ((((((((h.set _ rfl).set _ rfl).set _ rfl).set _ rfl).set _ rfl).set _ rfl).set _ rfl).set _ rfl).set _ rfl
theorem set9_ne {cs : Array Value} {o k : Nat} (r : SgR) (h : k < o ∨ o + 9 ≤ k) : (set9 cs o r)[k]? = cs[k]? := by
  unfold set9
  rw [Array.getElem?_setIfInBounds_ne (by omega), Array.getElem?_setIfInBounds_ne (by omega), Array.getElem?_setIfInBounds_ne (by omega), Array.getElem?_setIfInBounds_ne (by omega), Array.getElem?_setIfInBounds_ne (by omega), Array.getElem?_setIfInBounds_ne (by omega), Array.getElem?_setIfInBounds_ne (by omega), Array.getElem?_setIfInBounds_ne (by omega), Array.getElem?_setIfInBounds_ne (by omega)]
theorem set9_at {cs : Array Value} {o : Nat} (r : SgR) (h : o + 9 ≤ cs.size) : SgC (set9 cs o r) o r := by
  unfold set9
  constructor <;> simp [Array.getElem?_setIfInBounds] <;> omega
theorem SgC.ne {cs : Array Value} {o p : Nat} {r q : SgR} (h : SgC cs o q) (hp : o + 9 ≤ p ∨ p + 9 ≤ o) : SgC (set9 cs p r) o q := by
  obtain ⟨a0, a1, a2, a3, a4, a5, a6, a7, a8⟩ := h
  constructor
  all_goals rw [set9_ne r (by omega)]; assumption

/-- Nine stores. -/
def setW9 (w : World) (X o : Nat) (r : SgR) : World :=
  ((((((((w.setCell ⟨X, o, none⟩ (.int .u16 r.sel)).setCell ⟨X, o + 1, none⟩ (.bool r.nl)).setCell ⟨X, o + 2, none⟩ (.int .u32 r.b)).setCell ⟨X, o + 3, none⟩ (.int .u32 r.l)).setCell ⟨X, o + 4, none⟩ (.int .i64 r.t)).setCell ⟨X, o + 5, none⟩ (.bool r.s)).setCell ⟨X, o + 6, none⟩ (.int .i64 r.d)).setCell ⟨X, o + 7, none⟩ (.bool r.p)).setCell ⟨X, o + 8, none⟩ (.bool r.g)
theorem PAt.set9 {w : World} {X : Nat} {cs : Array Value} (h : PAt w X cs) (o : Nat) (r : SgR) : PAt (setW9 w X o r) X (set9 cs o r) :=
  ((((((((h.set o rfl).set (o + 1) rfl).set (o + 2) rfl).set (o + 3) rfl).set (o + 4) rfl).set (o + 5) rfl).set (o + 6) rfl).set (o + 7) rfl).set (o + 8) rfl
theorem kp_setW9 (w : World) (X o : Nat) (r : SgR) : Kp (fun j => j = X) w (setW9 w X o r) := by
  have k : ∀ (W : World) (o : Nat) (v : Value), Kp (fun j => j = X) W (W.setCell ⟨X, o, none⟩ v) := fun W o v => Kp.setCell (S := fun j => j = X) W (p := ⟨X, o, none⟩) rfl v
  exact ((((((((k _ _ _).trans (k _ _ _)).trans (k _ _ _)).trans (k _ _ _)).trans (k _ _ _)).trans (k _ _ _)).trans (k _ _ _)).trans (k _ _ _)).trans (k _ _ _)
end Go.Proofs.Ytmmnnafjikilpaa
