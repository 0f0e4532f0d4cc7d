/- Texts on vmem, joined: VmCpu, VmFlat, VmOps, VmCode, VmAll, VmAwake, VmOpen. -/
import Derived.Test.YtmmnnafjikilpaaGreatVi
import Derived.Laws.CopyRow
import Derived.Deep.MidRow
import Derived.Test.YtmmnnafjikilpaaGreatVe
import Derived.Test.YtmmnnafjikilpaaGreatVg
import Derived.OpenShut
/- A processor as a whole: 83 cells that are never opened; a flat one. -/
namespace Go.Proofs.YtmmnnafjikilpaaGreat
open Go.ChangeShapes Go.WideShapes Go.ChangeAt Go.RowKit Go.Maps
set_option linter.unusedVariables false
set_option maxRecDepth 20000

structure WfC (cs : Array Value) : Prop where
  s : cs.size = 83
  o : ∀ v ∈ cs.toList, v.oneCell' = true

theorem WfC.set {cs : Array Value} (h : WfC cs) (k : Nat) {v : Value} (hv : v.oneCell' = true) : WfC (cs.setIfInBounds k v) where
  s := by simp [h.s]
  o := fun x hx => by
    rw [Array.toList_setIfInBounds] at hx
    rcases List.mem_or_eq_of_mem_set hx with f | f
    · exact h.o x f
    · rw [f]; exact hv

def cpuZ : Array Value := #[.int .u32 0, .int .u32 0, .int .u32 0, .int .u32 0, .int .u32 0, .int .u32 0, .int .u32 0, .int .u32 0, .int .u32 0, .int .u32 0, .int .u16 0, .bool false, .int .u32 0, .int .u32 0, .int .i64 0, .bool false, .int .i64 0, .bool false, .bool false, .int .u16 0, .bool false, .int .u32 0, .int .u32 0, .int .i64 0, .bool false, .int .i64 0, .bool false, .bool false, .int .u16 0, .bool false, .int .u32 0, .int .u32 0, .int .i64 0, .bool false, .int .i64 0, .bool false, .bool false, .int .u16 0, .bool false, .int .u32 0, .int .u32 0, .int .i64 0, .bool false, .int .i64 0, .bool false, .bool false, .int .u16 0, .bool false, .int .u32 0, .int .u32 0, .int .i64 0, .bool false, .int .i64 0, .bool false, .bool false, .int .u16 0, .bool false, .int .u32 0, .int .u32 0, .int .i64 0, .bool false, .int .i64 0, .bool false, .bool false, .int .u32 0, .int .u32 0, .int .u32 0, .int .u32 0, .int .u16 0, .int .u32 0, .int .u16 0, .int .u16 0, .bool false, .int .u32 0, .int .u32 0, .int .i64 0, .bool false, .int .i64 0, .bool false, .bool false, .bool false, .bool false, .bool false]

structure VlP (T : TypeId) (n : Nat) (Z : Array Value) : Prop where
  t : T = 35
  s : n = 83
  z : Z = cpuZ
  agg : ∀ w, (isAgg T).run Tryz.prog w = .ok true w
  size : ∀ w, (sizeOf T).run Tryz.prog w = .ok n w
  zero : ∀ w, (zeroValue T).run Tryz.prog w = .ok (.agg Z) w
  wf : WfC Z
  z64 : Z[64]? = some (.int .u32 0)
  z66 : Z[66]? = some (.int .u32 0)

theorem vlP : ∃ T n Z, VlP T n Z :=
  ⟨_, _, _, rfl, rfl, rfl, fun w => by kernel_rfl, fun w => by kernel_rfl, fun w => by kernel_rfl, ⟨by kernel_rfl, by
    have : cpuZ.toList.all (fun v => v.oneCell') = true := by kernel_rfl
    exact fun v hv => List.all_eq_true.1 this v hv⟩, by kernel_rfl, by kernel_rfl⟩

theorem VlP.ops {T : TypeId} {n : Nat} {Z : Array Value} (h : VlP T n Z) :
    (∀ x, Op.load 35 x = Op.load T x) ∧ (∀ x y, Op.store 35 x y = Op.store T x y) ∧ Op.alloc 35 = Op.alloc T ∧ ∀ x, Op.box 35 x = Op.box T x := by
  rw [h.t]
  exact ⟨fun _ => rfl, fun _ _ => rfl, rfl, fun _ => rfl⟩

def PAt (w : World) (q : Nat) (cs : Array Value) : Prop := w.heap[q]? = some (.cells cs 35 (0, 0)) ∧ WfC cs
theorem PAt.lt {w : World} {q : Nat} {cs : Array Value} (h : PAt w q cs) : q < w.heap.size := (Array.getElem?_eq_some_iff.1 h.1).1
theorem PAt.kp {S : Nat → Prop} {w w' : World} {q : Nat} {cs : Array Value} (h : PAt w q cs) (k : Kp S w w') (hS : ¬ S q) : PAt w' q cs := ⟨(k.block q h.lt hS).trans h.1, h.2⟩
theorem PAt.cell {w : World} {q : Nat} {cs : Array Value} (h : PAt w q cs) {k : Nat} {v : Value} (hv : cs[k]? = some v) : w.cell? ⟨q, k, none⟩ = some v := by rw [cell_at h.1]; exact hv
theorem PAt.some {w : World} {q : Nat} {cs : Array Value} (h : PAt w q cs) {k : Nat} (hk : k < 83) : ∃ v, w.cell? ⟨q, k, none⟩ = Option.some v := by
  have : k < cs.size := by rw [h.2.s]; exact hk
  exact ⟨cs[k], h.cell (Array.getElem?_eq_getElem this)⟩
theorem PAt.fz {w : World} {q : Nat} {cs : Array Value} (h : PAt w q cs) (j : Nat) : w.frozen? ⟨q, j, none⟩ = false := frozen_at h.1
theorem PAt.set {w : World} {q : Nat} {cs : Array Value} (h : PAt w q cs) (k : Nat) {v : Value} (hv : v.oneCell' = true) : PAt (w.setCell ⟨q, k, none⟩ v) q (cs.setIfInBounds k v) := ⟨heap_setCell_at h.1 _, h.2.set k hv⟩

section
variable {T : TypeId} {n : Nat} {Z : Array Value}

theorem VlP.get (h : VlP T n Z) {w : World} {q : Nat} {cs : Array Value} (hq : PAt w q cs) : (loadCellsFrom ⟨q, 0, none⟩ 0 n #[]).run Tryz.prog w = .ok cs w := by
  have e := run_loadCells_list (P := Tryz.prog) w ⟨q, 0, none⟩ cs.toList (fun j v hv => by
    rw [Addr.add_mid, Nat.zero_add]
    exact hq.cell (by rw [← Array.getElem?_toList]; exact hv))
  rw [h.s]
  have : cs.toList.length = 83 := hq.2.s
  rw [this] at e
  exact e

theorem put_cpu {w : World} {q : Nat} {c cs : Array Value} {T : TypeId} (h : w.heap[q]? = some (.cells c T (0, 0))) (hc : c.size = 83) (wf : WfC cs) : (storeCells ⟨q, 0, none⟩ cs.toList).run Tryz.prog w = .ok () (w.setRow q cs) := by
  have e := run_storeCells_at Tryz.prog q 0 T cs.toList 0 c w h (by simp [hc, wf.s]) wf.o
  rw [e]
  have e2 : (List.take (0 + 0) c.toList ++ cs.toList ++ List.drop (0 + 0 + cs.toList.length) c.toList).toArray = cs := by
    have h1 : List.drop (0 + 0 + cs.toList.length) c.toList = [] := List.drop_eq_nil_of_le (by simp [hc, wf.s])
    rw [h1]
    simp
  rw [e2]

theorem setRow_alloc (W : World) (c A : Array Value) (T : TypeId) : (W.alloc (.cells c T)).setRow W.heap.size A = W.alloc (.cells A T) := by
  unfold World.setRow World.alloc
  congr 1
  apply Array.ext_getElem?
  intro i
  rw [Array.getElem?_modify]
  by_cases h : W.heap.size = i
  · subst h; simp
  · simp only [h, if_false]
    by_cases h2 : i < W.heap.size
    · rw [Array.getElem?_push_lt h2, Array.getElem?_push_lt h2]
    · rw [Array.getElem?_eq_none (by simp; omega), Array.getElem?_eq_none (by simp; omega)]

/-- A new processor is laid. -/
theorem VlP.new (h : VlP T n Z) {cs : Array Value} (wf : WfC cs) (W : World) : (storeCells ⟨W.heap.size, 0, none⟩ cs.toList).run Tryz.prog (W.alloc (.cells Z T)) = .ok () (W.alloc (.cells cs T)) := by
  rw [← setRow_alloc W Z cs T]
  exact put_cpu (MapKept.heap_alloc W (.cells Z T)).1 (by rw [h.wf.s]) wf
theorem VlP.at (h : VlP T n Z) {cs : Array Value} (wf : WfC cs) (W : World) : PAt (W.alloc (.cells cs T)) W.heap.size cs := by
  rw [h.t]; exact ⟨(MapKept.heap_alloc W _).1, wf⟩
theorem VlP.put {w : World} {q : Nat} {c cs : Array Value} (hq : PAt w q c) (wf : WfC cs) : (storeCells ⟨q, 0, none⟩ cs.toList).run Tryz.prog w = .ok () (w.setRow q cs) := put_cpu hq.1 hq.2.s wf
theorem PAt.put {w : World} {q : Nat} {c cs : Array Value} (hq : PAt w q c) (wf : WfC cs) : PAt (w.setRow q cs) q cs := ⟨setRow_heap w q _ _ _ _ hq.1, wf⟩
end

/-- A segment register within the cells. -/
structure SgC (cs : Array Value) (o : Nat) (r : SgR) : Prop where
  a0 : cs[o]? = some (.int .u16 r.sel)
  a1 : cs[o + 1]? = some (.bool r.nl)
  a2 : cs[o + 2]? = some (.int .u32 r.b)
  a3 : cs[o + 3]? = some (.int .u32 r.l)
  a4 : cs[o + 4]? = some (.int .i64 r.t)
  a5 : cs[o + 5]? = some (.bool r.s)
  a6 : cs[o + 6]? = some (.int .i64 r.d)
  a7 : cs[o + 7]? = some (.bool r.p)
  a8 : cs[o + 8]? = some (.bool r.g)

/-- The cells of a processor. -/
structure CpC (cs : Array Value) (c : Cp) : Prop where
  sg : ∀ i, i < 6 → SgC cs (10 + i * 9) (c.seg i)
  z : cs[64]? = some (.int .u32 c.cr0)
  t : cs[66]? = some (.int .u32 c.cr3)

theorem PAt.cp {w : World} {q : Nat} {cs : Array Value} {c : Cp} (h : PAt w q cs) (hc : CpC cs c) (ok : c.Ok) : CpAt w q c where
  sg := fun i hi => by
    have s := hc.sg i hi
    exact ⟨h.cell s.a0, h.cell s.a1, h.cell s.a2, h.cell s.a3, h.cell s.a4, h.cell s.a5, h.cell s.a6, h.cell s.a7, h.cell s.a8⟩
  z := h.cell hc.z
  t := h.cell hc.t
  ok := ok

def set9 (cs : Array Value) (o : Nat) (r : SgR) : Array Value :=
  ((((((((cs.setIfInBounds o (.int .u16 r.sel)).setIfInBounds (o + 1) (.bool r.nl)).setIfInBounds (o + 2) (.int .u32 r.b)).setIfInBounds (o + 3) (.int .u32 r.l)).setIfInBounds (o + 4) (.int .i64 r.t)).setIfInBounds (o + 5) (.bool r.s)).setIfInBounds (o + 6) (.int .i64 r.d)).setIfInBounds (o + 7) (.bool r.p)).setIfInBounds (o + 8) (.bool r.g)

theorem set9_wf {cs : Array Value} (h : WfC cs) (o : Nat) (r : SgR) : WfC (set9 cs o r) :=
  ((((((((h.set _ rfl).set _ rfl).set _ rfl).set _ rfl).set _ rfl).set _ rfl).set _ rfl).set _ rfl).set _ rfl
theorem set9_ne {cs : Array Value} {o k : Nat} (r : SgR) (h : k < o ∨ o + 9 ≤ k) : (set9 cs o r)[k]? = cs[k]? := by
  unfold set9
  rw [Array.getElem?_setIfInBounds_ne (by omega), Array.getElem?_setIfInBounds_ne (by omega), Array.getElem?_setIfInBounds_ne (by omega), Array.getElem?_setIfInBounds_ne (by omega), Array.getElem?_setIfInBounds_ne (by omega), Array.getElem?_setIfInBounds_ne (by omega), Array.getElem?_setIfInBounds_ne (by omega), Array.getElem?_setIfInBounds_ne (by omega), Array.getElem?_setIfInBounds_ne (by omega)]
theorem set9_at {cs : Array Value} {o : Nat} (r : SgR) (h : o + 9 ≤ cs.size) : SgC (set9 cs o r) o r := by
  unfold set9
  constructor <;> simp [Array.getElem?_setIfInBounds] <;> omega
theorem SgC.ne {cs : Array Value} {o p : Nat} {r q : SgR} (h : SgC cs o q) (hp : o + 9 ≤ p ∨ p + 9 ≤ o) : SgC (set9 cs p r) o q := by
  obtain ⟨a0, a1, a2, a3, a4, a5, a6, a7, a8⟩ := h
  constructor
  all_goals rw [set9_ne r (by omega)]; assumption

/-- Nine stores. -/
def setW9 (w : World) (X o : Nat) (r : SgR) : World :=
  ((((((((w.setCell ⟨X, o, none⟩ (.int .u16 r.sel)).setCell ⟨X, o + 1, none⟩ (.bool r.nl)).setCell ⟨X, o + 2, none⟩ (.int .u32 r.b)).setCell ⟨X, o + 3, none⟩ (.int .u32 r.l)).setCell ⟨X, o + 4, none⟩ (.int .i64 r.t)).setCell ⟨X, o + 5, none⟩ (.bool r.s)).setCell ⟨X, o + 6, none⟩ (.int .i64 r.d)).setCell ⟨X, o + 7, none⟩ (.bool r.p)).setCell ⟨X, o + 8, none⟩ (.bool r.g)
theorem PAt.set9 {w : World} {X : Nat} {cs : Array Value} (h : PAt w X cs) (o : Nat) (r : SgR) : PAt (setW9 w X o r) X (set9 cs o r) :=
  ((((((((h.set o rfl).set (o + 1) rfl).set (o + 2) rfl).set (o + 3) rfl).set (o + 4) rfl).set (o + 5) rfl).set (o + 6) rfl).set (o + 7) rfl).set (o + 8) rfl
theorem kp_setW9 (w : World) (X o : Nat) (r : SgR) : Kp (fun j => j = X) w (setW9 w X o r) := by
  have k : ∀ (W : World) (o : Nat) (v : Value), Kp (fun j => j = X) W (W.setCell ⟨X, o, none⟩ v) := fun W o v => Kp.setCell (S := fun j => j = X) W (p := ⟨X, o, none⟩) rfl v
  exact ((((((((k _ _ _).trans (k _ _ _)).trans (k _ _ _)).trans (k _ _ _)).trans (k _ _ _)).trans (k _ _ _)).trans (k _ _ _)).trans (k _ _ _)).trans (k _ _ _)
end Go.Proofs.YtmmnnafjikilpaaGreat

/- A flat processor. -/
namespace Go.Proofs.YtmmnnafjikilpaaGreat
open Go.ChangeShapes Go.WideShapes Go.ChangeAt Go.RowKit Go.Maps
set_option linter.unusedVariables false
set_option maxRecDepth 20000

def datS (s d : Int) : SgR := ⟨IntKind.u16.wrap (16 + s), false, 0, 4294967295, 2, false, d, true, true⟩
def codS (s d : Int) : SgR := ⟨IntKind.u16.wrap (8 + s), false, 0, 4294967295, 10, false, d, true, true⟩
def flatP (s d cr0 cr3 : Int) : Cp := ⟨fun i => if i = 1 then codS s d else datS s d, cr0, cr3⟩

theorem SgC.past {cs : Array Value} {o k : Nat} {r : SgR} {v : Value} (h : SgC cs o r) (hk : k < o ∨ o + 9 ≤ k) : SgC (cs.setIfInBounds k v) o r := by
  obtain ⟨b0, b1, b2, b3, b4, b5, b6, b7, b8⟩ := h
  constructor
  all_goals rw [Array.getElem?_setIfInBounds_ne (by omega)]; assumption

theorem flat_cells {cs : Array Value} {s d : Int} (wf : WfC cs) (hsg : ∀ j, j < 6 → SgC cs (10 + j * 9) (datS s d)) (h66 : cs[66]? = some (.int .u32 0)) : CpC (((set9 cs 19 (codS s d)).setIfInBounds 64 (.int .u32 1)).setIfInBounds 9 (.int .u32 2)) (flatP s d 1 0) := by
  have sz : (set9 cs 19 (codS s d)).size = 83 := (set9_wf wf _ _).s
  refine ⟨fun i hi => ?_, ?_, ?_⟩
  · by_cases e : i = 1
    · subst e
      have h1 : SgC (set9 cs 19 (codS s d)) (10 + 1 * 9) (codS s d) := set9_at (o := 19) _ (by rw [wf.s]; omega)
      have h2 : (flatP s d 1 0).seg 1 = codS s d := rfl
      rw [h2]
      exact (h1.past (.inr (by omega))).past (.inl (by omega))
    · have h2 : (flatP s d 1 0).seg i = datS s d := by unfold flatP; simp only [e, if_false]
      rw [h2]
      have h1 : SgC (set9 cs 19 (codS s d)) (10 + i * 9) (datS s d) := (hsg i hi).ne (by omega)
      exact (h1.past (.inr (by omega))).past (.inl (by omega))
  · have h1 : ((set9 cs 19 (codS s d)).setIfInBounds 64 (.int .u32 1))[64]? = some (.int .u32 1) := Array.getElem?_setIfInBounds_self_of_lt (by rw [sz]; omega)
    rw [Array.getElem?_setIfInBounds_ne (by omega)]
    exact h1
  · rw [Array.getElem?_setIfInBounds_ne (by omega), Array.getElem?_setIfInBounds_ne (by omega), set9_ne _ (by omega)]
    exact h66

def FlQ (w : World) (X : Nat) (s d : Int) (k : Nat) (s7 : Value) (wr : World) : Prop :=
  ∃ (i : Nat) (cs : Array Value), s7 = .int .i64 i ∧ i ≤ 6 ∧ 6 - i ≤ k ∧ PAt wr X cs ∧ (∀ j, j < i → SgC cs (10 + j * 9) (datS s d)) ∧ cs[64]? = some (.int .u32 0) ∧ cs[66]? = some (.int .u32 0) ∧ Kp (fun j => j = X) w wr

set_option maxHeartbeats 2000000 in
theorem flat_any (w : World) (r : Int) (r0 : -9223372036854775808 ≤ r) (r1 : r ≤ 9223372036854775807) : Calls Tryz.prog 10 #[.int .i64 r] w fun e w' => ∃ cs, e = .returned (.agg cs) ∧ WfC cs ∧ CpC cs (flatP (IntKind.u16.wrap (r.tmod 4)) (r.tmod 4) 1 0) ∧ Kp noB w w' := by
  obtain ⟨T, n, Z, h⟩ := vlP
  obtain ⟨vl, vs, va, vb⟩ := h.ops
  have g1 := h.agg; have g2 := h.size; have g3 := h.zero
  obtain ⟨d, hd⟩ : ∃ d, d = r.tmod 4 := ⟨_, rfl⟩
  obtain ⟨s, hs⟩ : ∃ s, s = IntKind.u16.wrap d := ⟨_, rfl⟩
  rw [← hd, ← hs]
  obtain ⟨W0, hW0⟩ : ∃ W, W = ((((w.alloc (.cells Z T)).alloc (.cells Z T)).alloc (.cells #[.int .u32 0, .int .u32 4294967295, .int .i64 10, .bool false, .int .i64 d, .bool true, .bool true] 28)).alloc (.cells #[.int .u32 0, .int .u32 4294967295, .int .i64 2, .bool false, .int .i64 d, .bool true, .bool true] 28)) := ⟨_, rfl⟩
  obtain ⟨A, hA⟩ : ∃ A, w.heap.size = A := ⟨_, rfl⟩
  have kA := Kp.alloc noB w (.cells Z T)
  have kB := Kp.alloc noB (w.alloc (.cells Z T)) (.cells Z T)
  have kC := Kp.alloc noB ((w.alloc (.cells Z T)).alloc (.cells Z T)) (.cells #[.int .u32 0, .int .u32 4294967295, .int .i64 10, .bool false, .int .i64 d, .bool true, .bool true] 28)
  have kD := Kp.alloc noB (((w.alloc (.cells Z T)).alloc (.cells Z T)).alloc (.cells #[.int .u32 0, .int .u32 4294967295, .int .i64 10, .bool false, .int .i64 d, .bool true, .bool true] 28)) (.cells #[.int .u32 0, .int .u32 4294967295, .int .i64 2, .bool false, .int .i64 d, .bool true, .bool true] 28)
  have k0 : Kp noB w W0 := by rw [hW0]; exact ((kA.trans kB).trans kC).trans kD
  have pA : PAt W0 A Z := by rw [hW0, ← hA]; exact (((h.at h.wf w).kp kB (fun f => f)).kp kC (fun f => f)).kp kD (fun f => f)
  have pX : PAt W0 (A + 1) Z := by
    have := h.at h.wf (w.alloc (.cells Z T))
    rw [show (w.alloc (.cells Z T)).heap.size = A + 1 by simp [hA]] at this
    rw [hW0]
    exact (this.kp kC (fun f => f)).kp kD (fun f => f)
  have rC : W0.heap[A + 2]? = some (.cells #[.int .u32 0, .int .u32 4294967295, .int .i64 10, .bool false, .int .i64 d, .bool true, .bool true] 28 (0, 0)) := by
    have := (MapKept.heap_alloc ((w.alloc (.cells Z T)).alloc (.cells Z T)) (.cells #[.int .u32 0, .int .u32 4294967295, .int .i64 10, .bool false, .int .i64 d, .bool true, .bool true] 28)).1
    rw [show ((w.alloc (.cells Z T)).alloc (.cells Z T)).heap.size = A + 2 by simp [hA]] at this
    rw [hW0]
    exact (kD.block _ (by simp [hA]) (fun f => f)).trans this
  have rD : W0.heap[A + 3]? = some (.cells #[.int .u32 0, .int .u32 4294967295, .int .i64 2, .bool false, .int .i64 d, .bool true, .bool true] 28 (0, 0)) := by
    have := (MapKept.heap_alloc (((w.alloc (.cells Z T)).alloc (.cells Z T)).alloc (.cells #[.int .u32 0, .int .u32 4294967295, .int .i64 10, .bool false, .int .i64 d, .bool true, .bool true] 28)) (.cells #[.int .u32 0, .int .u32 4294967295, .int .i64 2, .bool false, .int .i64 d, .bool true, .bool true] 28)).1
    rw [show (((w.alloc (.cells Z T)).alloc (.cells Z T)).alloc (.cells #[.int .u32 0, .int .u32 4294967295, .int .i64 10, .bool false, .int .i64 d, .bool true, .bool true] 28)).heap.size = A + 3 by simp [hA]] at this
    rw [hW0]
    exact this
  have HD : Hid (∀ W, Kp (fun j => j = A + 1) W0 W → W.cell? ⟨A + 3, 0, none⟩ = some (.int .u32 0) ∧ W.cell? ⟨A + 3, 1, none⟩ = some (.int .u32 4294967295) ∧ W.cell? ⟨A + 3, 2, none⟩ = some (.int .i64 2) ∧ W.cell? ⟨A + 3, 3, none⟩ = some (.bool false) ∧ W.cell? ⟨A + 3, 4, none⟩ = some (.int .i64 d) ∧ W.cell? ⟨A + 3, 5, none⟩ = some (.bool true) ∧ W.cell? ⟨A + 3, 6, none⟩ = some (.bool true)) := fun W k => by
    have r := (k.block (A + 3) (Array.getElem?_eq_some_iff.1 rD).1 (by omega)).trans rD
    refine ⟨?_, ?_, ?_, ?_, ?_, ?_, ?_⟩ <;> (rw [cell_at r]; rfl)
  have HCd : Hid (∀ W, Kp (fun j => j = A + 1) W0 W → W.cell? ⟨A + 2, 0, none⟩ = some (.int .u32 0) ∧ W.cell? ⟨A + 2, 1, none⟩ = some (.int .u32 4294967295) ∧ W.cell? ⟨A + 2, 2, none⟩ = some (.int .i64 10) ∧ W.cell? ⟨A + 2, 3, none⟩ = some (.bool false) ∧ W.cell? ⟨A + 2, 4, none⟩ = some (.int .i64 d) ∧ W.cell? ⟨A + 2, 5, none⟩ = some (.bool true) ∧ W.cell? ⟨A + 2, 6, none⟩ = some (.bool true)) := fun W k => by
    have r := (k.block (A + 2) (Array.getElem?_eq_some_iff.1 rC).1 (by omega)).trans rC
    refine ⟨?_, ?_, ?_, ?_, ?_, ?_, ?_⟩ <;> (rw [cell_at r]; rfl)
  have HV : Hid (VlP T n Z) := h
  have HSo : Hid (∀ (W : World) (cs : Array Value), PAt W (A + 1) cs → ∀ k, k < 83 → ∃ v, W.cell? ⟨A + 1, k, none⟩ = some v) := fun W cs p k hk => p.some hk
  clear kA kB kC kD rC rD
  go_enter Tryz.func10, Tryz.ntmps10
  simp only [vl, vs, va, vb] at *
  go_wp2_with fail
  simp only [← hd, ← hs]
  rw [← hW0]
  have HSs : Hid (s = IntKind.u16.wrap d) := hs
  have HAw : Hid (w.heap.size = A) := hA
  clear hW0 hA hd hs
  go_loopg [7] 6 (FlQ W0 (A + 1) s d)
  case atStart => exact ⟨0, Z, rfl, by omega, by omega, pX, fun j hj => absurd hj (by omega), HV.out.z64, HV.out.z66, Kp.refl _ _⟩
  case round =>
    obtain ⟨i, cs, rfl, hi, hik, pr, hsg, h64, h66, kk⟩ := hrel
    by_cases hlt : i < 6
    · have hz : (i : Int) < 6 := by omega
      have hz' : (0 : Int) ≤ i ∧ (i : Int) < 6 := by omega
      obtain ⟨e0, e1, e2, e3, e4, e5, e6⟩ := HD.out wr kk
      have P9 := pr.set9 (10 + i * 9) (datS s d)
      have k9 := kk.trans (kp_setW9 wr (A + 1) (10 + i * 9) (datS s d))
      have f9 := pr.fz
      obtain ⟨u0, t0⟩ := HSo.out wr cs pr (10 + i * 9) (by omega)
      obtain ⟨u1, t1⟩ := HSo.out wr cs pr (10 + i * 9 + 1) (by omega)
      obtain ⟨u2, t2⟩ := HSo.out wr cs pr (10 + i * 9 + 2) (by omega)
      obtain ⟨u3, t3⟩ := HSo.out wr cs pr (10 + i * 9 + 3) (by omega)
      obtain ⟨u4, t4⟩ := HSo.out wr cs pr (10 + i * 9 + 4) (by omega)
      obtain ⟨u5, t5⟩ := HSo.out wr cs pr (10 + i * 9 + 5) (by omega)
      obtain ⟨u6, t6⟩ := HSo.out wr cs pr (10 + i * 9 + 6) (by omega)
      obtain ⟨u7, t7⟩ := HSo.out wr cs pr (10 + i * 9 + 7) (by omega)
      obtain ⟨u8, t8⟩ := HSo.out wr cs pr (10 + i * 9 + 8) (by omega)
      obtain ⟨j, hj⟩ : ∃ j, j = i + 1 := ⟨_, rfl⟩
      have HJ : Hid (j = i + 1) := hj
      have HK : Hid (6 - i ≤ gk) := hik
      have HSG : Hid (∀ m, m < i + 1 → SgC (set9 cs (10 + i * 9) (datS s d)) (10 + m * 9) (datS s d)) := fun m hm => by
        by_cases e : m = i
        · subst e; exact set9_at _ (by rw [pr.2.s]; omega)
        · exact (hsg m (by omega)).ne (by omega)
      have H64 : Hid ((set9 cs (10 + i * 9) (datS s d))[64]? = some (.int .u32 0)) := by rw [set9_ne _ (by omega)]; exact h64
      have H66 : Hid ((set9 cs (10 + i * 9) (datS s d))[66]? = some (.int .u32 0)) := by rw [set9_ne _ (by omega)]; exact h66
      have HP9 : Hid _ := P9
      have HK9 : Hid _ := k9
      clear hik hj hsg h64 h66 P9 k9 pr
      go_wp2_with fail
      go_roundg (6 - j)
      case measure => have := HJ.out; have := HK.out; omega
      case rel =>
        exact ⟨j, set9 cs (10 + i * 9) (datS s d), by rw [HJ.out]; rfl, by have := HJ.out; omega, Nat.le_refl _, HP9.out, fun m hm => HSG.out m (by rw [HJ.out] at hm; exact hm), H64.out, H66.out, HK9.out⟩
    · obtain rfl : i = 6 := by omega
      clear hi hik hlt
      obtain ⟨e0, e1, e2, e3, e4, e5, e6⟩ := HCd.out wr kk
      have P9 := pr.set9 19 (codS s d)
      have k9 := kk.trans (kp_setW9 wr (A + 1) 19 (codS s d))
      have f9 := pr.fz
      obtain ⟨u0, t0⟩ := HSo.out wr cs pr 19 (by omega)
      obtain ⟨u1, t1⟩ := HSo.out wr cs pr 20 (by omega)
      obtain ⟨u2, t2⟩ := HSo.out wr cs pr 21 (by omega)
      obtain ⟨u3, t3⟩ := HSo.out wr cs pr 22 (by omega)
      obtain ⟨u4, t4⟩ := HSo.out wr cs pr 23 (by omega)
      obtain ⟨u5, t5⟩ := HSo.out wr cs pr 24 (by omega)
      obtain ⟨u6, t6⟩ := HSo.out wr cs pr 25 (by omega)
      obtain ⟨u7, t7⟩ := HSo.out wr cs pr 26 (by omega)
      obtain ⟨u8, t8⟩ := HSo.out wr cs pr 27 (by omega)
      obtain ⟨u9, t9⟩ := HSo.out wr cs pr 64 (by omega)
      obtain ⟨v9, x9⟩ := HSo.out wr cs pr 9 (by omega)
      have PF := (P9.set 64 (v := .int .u32 1) rfl).set 9 (v := .int .u32 2) rfl
      have kF := (k9.trans (Kp.setCell (S := fun j => j = A + 1) _ (p := ⟨A + 1, 64, none⟩) rfl (.int .u32 1))).trans (Kp.setCell (S := fun j => j = A + 1) _ (p := ⟨A + 1, 9, none⟩) rfl (.int .u32 2))
      have hF := flat_cells pr.2 hsg h66
      have HL : Hid (∀ W cs, PAt W (A + 1) cs → (loadCellsFrom ⟨A + 1, 0, none⟩ 0 n #[]).run Tryz.prog W = .ok cs W) := fun W cs p => HV.out.get p
      have pA2 := pA.kp kF (by omega)
      have kG : Kp noB w _ := (k0.trans (Kp.refl _ _)).over kF (fun j hj e => absurd hj (by have := HAw.out; omega))
      obtain ⟨cF, hcF⟩ : ∃ c, c = (((set9 cs 19 (codS s d)).setIfInBounds 64 (.int .u32 1)).setIfInBounds 9 (.int .u32 2)) := ⟨_, rfl⟩
      have hWF : WfC cF := by rw [hcF]; exact PF.2
      rw [← hcF] at hF PF
      obtain ⟨WF, hWFe⟩ : ∃ W, W = ((setW9 wr (A + 1) 19 (codS s d)).setCell ⟨A + 1, 64, none⟩ (.int .u32 1)).setCell ⟨A + 1, 9, none⟩ (.int .u32 2) := ⟨_, rfl⟩
      rw [← hWFe] at PF kF pA2 kG
      clear hcF P9 k9 pA pX HD HCd HSo hsg h64 h66 pr kk
      unfold setW9 codS at hWFe
      simp only at hWFe
      have hld := HL.out WF cF PF
      have hst := VlP.put pA2 hWF
      have hld2 := HV.out.get (pA2.put hWF)
      have hsz : cF.size = n := by rw [hWF.s, HV.out.s]
      have kH : Kp noB w (WF.setRow A cF) := kG.over (Kp.setRow (S := fun j => j = A) WF rfl cF) (fun j hj e => absurd hj (by have := HAw.out; omega))
      go_upto_region 12 with fail
      rw [← hWFe]
      clear hWFe
      go_wp2
      refine bodyPost_ret (v := .agg cF) ?_ rfl ⟨cF, rfl, hWF, hF, kH⟩
      simp [results, Tryz.results10, go_sem, ← HV.out.t, g1, g2, hld2]
end Go.Proofs.YtmmnnafjikilpaaGreat

/- New, Flush, Drop; what is asked of none. -/
namespace Go.Proofs.YtmmnnafjikilpaaGreat
open Go.ChangeShapes Go.WideShapes Go.ChangeAt Go.RowKit Go.Maps
set_option linter.unusedVariables false
set_option maxRecDepth 20000

theorem vNew_no (w : World) (x : Addr) (p : Int) (p0 : -9223372036854775808 ≤ p) (p1 : p ≤ 9223372036854775807) (h : p < 0 ∨ 64 < p) : Calls Tryz.prog 6 #[.pointer (some x), .int .i64 p] w fun e w' => e = .returned (.tuple #[.pointer none, .int .i64 100]) ∧ w' = w := by
  have cN := tlNew_no w x p p0 p1 h
  go_enter Tryz.func6, Tryz.ntmps6
  go_wp2_with (go_at_call 19; refine cN.mono ?_; rintro e w' ⟨rfl, hw⟩; replace hw := hw.symm; subst hw)
  go_ret2
  exact ⟨rfl, rfl⟩

theorem vNew_ok (w : World) (B p : Nat) (h : p ≤ 64) (M : Mem) (hr : RamAt w B M) (hc : M.closed = false) : Calls Tryz.prog 6 #[.pointer (some ⟨B + 3, 0, none⟩), .int .i64 p] w fun e w' => ∃ V, e = .returned (.tuple #[.pointer (some ⟨V, 0, none⟩), .int .i64 0]) ∧ w.heap.size < V ∧ VmAt w' V w.heap.size B p 0 M ∧ Kp noB w w' := by
  have cN := tlNew_ok w B p h
  have hl := hr.lt
  go_enter Tryz.func6, Tryz.ntmps6
  go_wp2_with (go_at_call 19; refine cN.mono ?_; rintro e w1 ⟨rfl, t1, k1⟩)
  go_ret2
  have kA := Kp.alloc noB w1 (.cells #[.pointer (some ⟨B + 3, 0, none⟩), .pointer (some ⟨w.heap.size + 1, 0, none⟩)] 71)
  have t1l := t1.lt
  refine ⟨w1.heap.size, rfl, by omega, ⟨(MapKept.heap_alloc w1 _).1, ⟨_, t1.kp kA (fun _ _ f => f)⟩, (hr.kp k1 (fun _ _ f => f)).kp kA (fun _ _ f => f), hc, fun j hj f => ?_, fun f => ?_⟩, k1.trans kA⟩
  · have := f.2; rcases hj with e | e <;> omega
  · rcases f with f | f
    · have := f.2; have := k1.size; omega
    · rcases f with e | e <;> omega

theorem vFlush_ok (w : World) (V K B pl tn : Nat) (M : Mem) (h : VmAt w V K B pl tn M) : Calls Tryz.prog 30 #[.pointer (some ⟨V, 0, none⟩)] w fun e w' => e = .returned (.tuple #[]) ∧ VmP w V K B pl tn M 2 w' := by
  obtain ⟨D, t⟩ := h.tl
  have cF := tlFlush_ok w K B pl tn D t
  have c1 := h.c1
  go_enter Tryz.func30, Tryz.ntmps30
  go_wp2_with (go_at_call 56; refine cF.mono ?_; rintro e w1 ⟨rfl, t1, k1⟩)
  have k2 := k1.mono (T := modVm K B M.n) (fun _ _ f => .inr f)
  go_end0
  exact ⟨rfl, ⟨tn, by omega, h.to k2 t1 (h.ram.kp k1 (fun j hj f => h.apT j f hj)) rfl rfl⟩, k2⟩

theorem vDrop_ok (w : World) (V K B pl tn : Nat) (M : Mem) (h : VmAt w V K B pl tn M) (l : Int) (l0 : 0 ≤ l) (l1 : l < 4294967296) : Calls Tryz.prog 31 #[.pointer (some ⟨V, 0, none⟩), .int .u32 l] w fun e w' => e = .returned (.tuple #[]) ∧ VmP w V K B pl tn M 2 w' := by
  obtain ⟨D, t⟩ := h.tl
  have cF := tlDrop_ok w K B pl tn D t l l0 l1
  have cF' := tlDrop_ok w.drew K B pl tn D (t.kp (Kp.refl noB w).drew (fun _ _ f => f)) l l0 l1
  have c1 := h.c1
  go_enter Tryz.func31, Tryz.ntmps31
  go_wp2_with (go_at_call 57; refine cF.mono ?_; rintro e w1 ⟨rfl, ⟨D1, t1, _⟩, k1⟩)
  have k2 := k1.mono (T := modVm K B M.n) (fun _ _ f => .inr (.inl f))
  go_end0
  exact ⟨rfl, ⟨tn, by omega, h.to k2 t1 (h.ram.kp k1 (fun j hj f => h.apT j (.inl f) hj)) rfl rfl⟩, k2⟩

/-! ### what is asked of none -/
end Go.Proofs.YtmmnnafjikilpaaGreat

/- Code: with a fault, and without one. -/
namespace Go.Proofs.YtmmnnafjikilpaaGreat
open Go.ChangeShapes Go.WideShapes Go.ChangeAt Go.RowKit Go.Maps
set_option linter.unusedVariables false
set_option maxRecDepth 20000

def cdeW (w : World) (pm pc : Option Addr) (off : Int) : World := ((((((w.alloc (.cells #[.pointer pm] 42)).alloc (.cells #[.pointer pc] 56)).alloc (.cells #[.int .u32 off] 24)).alloc (.cells #[.int .u8 0] 5)).alloc (.cells #[.int .u32 0] 24)).alloc (.cells #[.int .i64 0, .int .i64 0, .int .u32 0] 54))
theorem code_start (w : World) (pm pc : Option Addr) (off : Int) {X : Nat} (hX : w.heap.size = X) : (cdeW w pm pc off).heap.size = X + 6 ∧ Kp noB w (cdeW w pm pc off) ∧ (cdeW w pm pc off).cell? ⟨X, 0, none⟩ = some (.pointer pm) ∧ (cdeW w pm pc off).cell? ⟨X + 1, 0, none⟩ = some (.pointer pc) ∧ (cdeW w pm pc off).cell? ⟨X + 2, 0, none⟩ = some (.int .u32 off) ∧ RowB8 (cdeW w pm pc off) (X + 3) 0 ∧ RowV (cdeW w pm pc off) (X + 4) 0 ∧ RowT (cdeW w pm pc off) (X + 5) ⟨0, 0, 0⟩ := by
  unfold cdeW
  refine ⟨by simp [hX], (((((Kp.alloc noB w _).trans (Kp.alloc noB _ _)).trans (Kp.alloc noB _ _)).trans (Kp.alloc noB _ _)).trans (Kp.alloc noB _ _)).trans (Kp.alloc noB _ _), ?_, ?_, ?_, ?_, ?_, ?_⟩
  · rw [← hX]; simp [go_sem]
  · rw [← hX]; simp [go_sem]
  · rw [← hX]; simp [go_sem]
  · have := (MapKept.heap_alloc (((w.alloc (.cells #[.pointer pm] 42)).alloc (.cells #[.pointer pc] 56)).alloc (.cells #[.int .u32 off] 24)) (.cells #[.int .u8 0] 5)).1
    rw [show (((w.alloc (.cells #[.pointer pm] 42)).alloc (.cells #[.pointer pc] 56)).alloc (.cells #[.int .u32 off] 24)).heap.size = X + 3 by simp [hX]] at this
    exact (RowB8.kp (v := 0) this (Kp.alloc noB _ _) (fun f => f)).kp (Kp.alloc noB _ _) (fun f => f)
  · have := (MapKept.heap_alloc ((((w.alloc (.cells #[.pointer pm] 42)).alloc (.cells #[.pointer pc] 56)).alloc (.cells #[.int .u32 off] 24)).alloc (.cells #[.int .u8 0] 5)) (.cells #[.int .u32 0] 24)).1
    rw [show ((((w.alloc (.cells #[.pointer pm] 42)).alloc (.cells #[.pointer pc] 56)).alloc (.cells #[.int .u32 off] 24)).alloc (.cells #[.int .u8 0] 5)).heap.size = X + 4 by simp [hX]] at this
    exact RowV.kp (v := 0) this (Kp.alloc noB _ _) (fun f => f)
  · have := (MapKept.heap_alloc (((((w.alloc (.cells #[.pointer pm] 42)).alloc (.cells #[.pointer pc] 56)).alloc (.cells #[.int .u32 off] 24)).alloc (.cells #[.int .u8 0] 5)).alloc (.cells #[.int .u32 0] 24)) (.cells #[.int .i64 0, .int .i64 0, .int .u32 0] 54)).1
    rw [show (((((w.alloc (.cells #[.pointer pm] 42)).alloc (.cells #[.pointer pc] 56)).alloc (.cells #[.int .u32 off] 24)).alloc (.cells #[.int .u8 0] 5)).alloc (.cells #[.int .u32 0] 24)).heap.size = X + 5 by simp [hX]] at this
    exact this

def outW (W : World) (X : Nat) (y z : Int) (f : Ft) : World := setFt ((W.setCell ⟨X + 3, 0, none⟩ (.int .u8 y)).setCell ⟨X + 4, 0, none⟩ (.int .u32 z)) (X + 5) f
theorem out_rows {W : World} {X : Nat} {y z : Int} {f : Ft} (a : RowB8 W (X + 3) y) (b : RowV W (X + 4) z) (c : RowT W (X + 5) f) : RowB8 (outW W X y z f) (X + 3) y ∧ RowV (outW W X y z f) (X + 4) z ∧ RowT (outW W X y z f) (X + 5) f ∧ Kp (fun j => X ≤ j) W (outW W X y z f) := by
  have k1 := Kp.setCell (S := fun j => j = X + 3) W (p := ⟨X + 3, 0, none⟩) rfl (.int .u8 y)
  have k2 := Kp.setCell (S := fun j => j = X + 4) (W.setCell ⟨X + 3, 0, none⟩ (.int .u8 y)) (p := ⟨X + 4, 0, none⟩) rfl (.int .u32 z)
  have k3 := kp_setFt ((W.setCell ⟨X + 3, 0, none⟩ (.int .u8 y)).setCell ⟨X + 4, 0, none⟩ (.int .u32 z)) (X + 5) f
  refine ⟨((a.set y).kp k2 (by omega)).kp k3 (by omega), ((b.kp k1 (by omega)).set z).kp k3 (by omega), ((c.kp k1 (by omega)).kp k2 (by omega)).set f, ?_⟩
  exact ((k1.mono (fun j _ e => by omega)).trans (k2.mono (fun j _ e => by omega))).trans (k3.mono (fun j _ e => by omega))

theorem cde_no (w : World) (pm pc : Option Addr) (off : Int) (f : Ft) (S : Nat → Prop) (P : World → Prop) (hS : ∀ j, S j → j < w.heap.size) (hP : ∀ W W', P W → Kp (fun j => w.heap.size ≤ j) W W' → P W')
    (H : Hid (∀ W, Kp noB w W → Calls Tryz.prog 54 #[.pointer pm, .pointer pc, .int .u32 off] W fun e w' => e = .panicked (pan f) ∧ Kp S W w' ∧ P w')) :
    Calls Tryz.prog 28 #[.pointer pm, .pointer pc, .int .u32 off] w fun e w' => e = .returned (.tuple #[.int .u8 0, .int .u32 0, f.val]) ∧ Kp S w w' ∧ P w' := by
  have hmf := hmf
  obtain ⟨X, hX⟩ : ∃ X, w.heap.size = X := ⟨_, rfl⟩
  obtain ⟨W0, hW0⟩ : ∃ W, W = cdeW w pm pc off := ⟨_, rfl⟩
  have HX : Hid (w.heap.size = X) := hX
  obtain ⟨hs0, k0, b0, b1, b2, rY, rZ, rF⟩ := code_start w pm pc off hX
  rw [← hW0] at hs0 k0 b0 b1 b2 rY rZ rF
  unfold cdeW at hW0
  have hSn : ∀ j, X ≤ j → ¬ S j := fun j hj f => by have := hS j f; omega
  have HC : Hid _ := faultOf_no W0 53 #[.pointer (some ⟨X, 0, none⟩), .pointer (some ⟨X + 1, 0, none⟩), .pointer (some ⟨X + 2, 0, none⟩), .pointer (some ⟨X + 3, 0, none⟩), .pointer (some ⟨X + 4, 0, none⟩)] f S (fun w' => P w' ∧ RowT w' (X + 5) ⟨0, 0, 0⟩ ∧ RowB8 w' (X + 3) 0 ∧ RowV w' (X + 4) 0) (fun j hj => by have := hS j hj; omega) (fun W W' ⟨p, a, b, c⟩ k => ⟨hP W W' p (k.mono (fun j _ hj => by omega)), a.kp k (by omega), b.kp k (by omega), c.kp k (by omega)⟩) (fun W => rfl)
    (fun W kq => (code1_no W X (X + 3) (X + 4) (.pointer pm) (.pointer pc) off f S P (cell_kp b0 kq (fun f => f)) (cell_kp b1 kq (fun f => f)) (cell_kp b2 kq (fun f => f)) (fun W' kr => H.out W' ((k0.trans kq).trans kr))).mono (fun e w' ⟨h1, h2, h3⟩ => ⟨h1, h2, h3, (rF.kp kq (fun f => f)).kp h2 (hSn _ (by omega)), (rY.kp kq (fun f => f)).kp h2 (hSn _ (by omega)), (rZ.kp kq (fun f => f)).kp h2 (hSn _ (by omega))⟩))
  rw [Ft.val_is] at HC
  go_enter Tryz.func28, Tryz.ntmps28
  go_wp2_with fail
  rw [← hW0]
  refine Calls.mono HC.out ?_
  rintro e w2 ⟨rfl, k2, p2, r2, y2, z2⟩
  clear HC rY rZ rF hW0 b0 b1 b2
  have c0 := r2.c0; have c1 := r2.c1; have c2 := r2.c2
  have f0 := r2.fz 0; have f1 := r2.fz 1; have f2 := r2.fz 2
  have yc := y2.c; have zc := z2.c; have yf := y2.fz; have zf := z2.fz
  have rE := r2.set f
  have kE := kp_setFt w2 (X + 5) f
  obtain ⟨W3, hW3⟩ : ∃ W, W = setFt w2 (X + 5) f := ⟨_, rfl⟩
  rw [← hW3] at rE kE
  unfold setFt at hW3
  go_upto_region 2 with fail
  rw [← hW3]
  clear hW3 c0 c1 c2 f0 f1 f2 yc zc yf zf
  replace y2 := y2.kp kE (by omega)
  replace z2 := z2.kp kE (by omega)
  have yc := y2.c; have zc := z2.c; have yf := y2.fz; have zf := z2.fz
  have c0 := rE.c0; have c1 := rE.c1; have c2 := rE.c2
  have f0 := rE.fz 0; have f1 := rE.fz 1; have f2 := rE.fz 2
  have p3 := hP _ _ p2 (kE.mono (fun j _ e => by have := HX.out; omega))
  have k3 : Kp S w W3 := ((k0.mono (fun _ _ f => f.elim)).trans k2).over kE (fun j hj e => absurd hj (by have := HX.out; omega))
  clear kE r2 p2 k2
  go_region
  obtain ⟨qy, qz, qt, kO⟩ := out_rows y2 z2 rE
  obtain ⟨W4, hW4⟩ : ∃ W, W = outW W3 X 0 0 f := ⟨_, rfl⟩
  rw [← hW4] at qy qz qt kO
  unfold outW setFt at hW4
  rw [← hW4]
  clear hW4 y2 z2 rE yc zc yf zf c0 c1 c2 f0 f1 f2
  have yc := qy.c; have zc := qz.c
  have c0 := qt.c0; have c1 := qt.c1; have c2 := qt.c2
  go_wp2
  refine bodyPost_ret (v := .tuple #[.int .u8 0, .int .u32 0, .agg #[.int .i64 f.vec, .int .i64 f.code, .int .u32 f.cr2]]) ?_ rfl ⟨rfl, ?_, ?_⟩
  · simp [results, Tryz.results28, go_sem, yc, zc, c0, c1, c2]
  · exact (k3.over kO (fun j hj e => absurd hj (by have := HX.out; omega))).drew
  · exact hP _ _ (hP _ _ p3 (kO.mono (fun j _ e => by have := HX.out; omega))) (Kp.refl (fun j => w.heap.size ≤ j) _).drew

theorem cde_ok (w : World) (V K B pl tn : Nat) (pc : Option Addr) (off : Int) (q : Qy) (hq : q.s.Ok) (hq1 : q.s.n = 1) (hm : ∀ j, modVm K B q.m.n j → j < w.heap.size) (hV : V < w.heap.size)
    (H : Hid (∀ W, Kp noB w W → Calls Tryz.prog 54 #[.pointer (some ⟨V, 0, none⟩), .pointer pc, .int .u32 off] W fun e w' => e = .returned q.s.val ∧ VmP W V K B pl tn q.m 2 w')) :
    Calls Tryz.prog 28 #[.pointer (some ⟨V, 0, none⟩), .pointer pc, .int .u32 off] w fun e w' => e = .returned (.tuple #[.int .u8 (q.m.rdS q.s), .int .u32 q.s.a, noFt.val]) ∧ VmP w V K B pl tn q.m 2 w' := by
  have hmf := hmf
  obtain ⟨X, hX⟩ : ∃ X, w.heap.size = X := ⟨_, rfl⟩
  obtain ⟨W0, hW0⟩ : ∃ W, W = cdeW w (some ⟨V, 0, none⟩) pc off := ⟨_, rfl⟩
  have HX : Hid (w.heap.size = X) := hX
  obtain ⟨hs0, k0, b0, b1, b2, rY, rZ, rF⟩ := code_start w (some ⟨V, 0, none⟩) pc off hX
  rw [← hW0] at hs0 k0 b0 b1 b2 rY rZ rF
  unfold cdeW at hW0
  have HIn : Hid (∀ j, inVm V K B q.m.n j → j < X) := fun j hj => by
    rcases hj with e | e
    · omega
    · have := hm _ e; omega
  have HC : Hid _ := faultOf_ok W0 53 #[.pointer (some ⟨X, 0, none⟩), .pointer (some ⟨X + 1, 0, none⟩), .pointer (some ⟨X + 2, 0, none⟩), .pointer (some ⟨X + 3, 0, none⟩), .pointer (some ⟨X + 4, 0, none⟩)] (fun j => modVm K B q.m.n j ∨ j = X + 3 ∨ j = X + 4) (fun w' => (∃ tn', tn' ≤ tn + 2 ∧ VmAt w' V K B pl tn' q.m) ∧ RowB8 w' (X + 3) (q.m.rdS q.s) ∧ RowV w' (X + 4) q.s.a) (fun j hj => by
      rcases hj with f | f | f
      · have := hm j f; omega
      · omega
      · omega) (fun W W' ⟨⟨tn', a, b⟩, c, d⟩ k => ⟨⟨tn', a, b.kp k (fun j hj => by have := HIn.out j hj; omega)⟩, c.kp k (by omega), d.kp k (by omega)⟩) (fun W => rfl)
    (fun W kq => code1_ok W X V K B pl tn (.pointer pc) off 0 0 (rY.kp kq (fun f => f)) (rZ.kp kq (fun f => f)) q hq hq1 (cell_kp b0 kq (fun f => f)) (cell_kp b1 kq (fun f => f)) (cell_kp b2 kq (fun f => f)) (fun j hj => by have := hm j hj; omega) (by omega) (fun W' kr => H.out W' ((k0.trans kq).trans kr)))
  have e0 : noFt.val = .agg #[.int .i64 (-1), .int .i64 (-1), .int .u32 0] := rfl
  rw [e0] at HC
  have HM : Hid (∀ j, modVm K B q.m.n j → j < X) := fun j hj => by have := hm j hj; omega
  generalize q.m.rdS q.s = rv at *
  generalize q.s.a = sa at *
  go_enter Tryz.func28, Tryz.ntmps28
  go_wp2_with fail
  rw [← hW0]
  refine Calls.mono HC.out ?_
  rintro e w2 ⟨rfl, k2, ⟨tn2, ht2, v2⟩, y2, z2⟩
  have r2 : RowT w2 (X + 5) ⟨0, 0, 0⟩ := rF.kp k2 (fun f => by
      rcases f with f | f | f
      · have := HM.out _ f; omega
      · omega
      · omega)
  clear HC rY rZ rF hW0 b0 b1 b2
  have c0 := r2.c0; have c1 := r2.c1; have c2 := r2.c2
  have f0 := r2.fz 0; have f1 := r2.fz 1; have f2 := r2.fz 2
  have yc := y2.c; have zc := z2.c; have yf := y2.fz; have zf := z2.fz
  have rE := r2.set (⟨-1, -1, 0⟩ : Ft)
  have kE := kp_setFt w2 (X + 5) (⟨-1, -1, 0⟩ : Ft)
  obtain ⟨W3, hW3⟩ : ∃ W, W = setFt w2 (X + 5) (⟨-1, -1, 0⟩ : Ft) := ⟨_, rfl⟩
  rw [← hW3] at rE kE
  unfold setFt at hW3
  simp only at hW3
  go_upto_region 2 with fail
  rw [← hW3]
  clear hW3 c0 c1 c2 f0 f1 f2 yc zc yf zf
  replace y2 := y2.kp kE (by omega)
  replace z2 := z2.kp kE (by omega)
  have yc := y2.c; have zc := z2.c; have yf := y2.fz; have zf := z2.fz
  have c0 := rE.c0; have c1 := rE.c1; have c2 := rE.c2
  simp only at c0 c1 c2
  have f0 := rE.fz 0; have f1 := rE.fz 1; have f2 := rE.fz 2
  have v3 := v2.kp kE (fun j hj e => by have := HIn.out j hj; omega)
  have k3 : Kp (modVm K B q.m.n) w W3 := ((k0.mono (fun _ _ f => f.elim)).over k2 (fun j hj f => by
      rcases f with f | f | f
      · exact f
      · have := HX.out; omega
      · have := HX.out; omega)).over kE (fun j hj e => absurd hj (by have := HX.out; omega))
  clear kE r2 v2 k2
  go_region
  obtain ⟨qy, qz, qt, kO⟩ := out_rows y2 z2 rE
  obtain ⟨W4, hW4⟩ : ∃ W, W = outW W3 X rv sa ⟨-1, -1, 0⟩ := ⟨_, rfl⟩
  rw [← hW4] at qy qz qt kO
  unfold outW setFt at hW4
  simp only at hW4
  rw [← hW4]
  clear hW4 y2 z2 rE yc zc yf zf c0 c1 c2 f0 f1 f2
  have yc := qy.c; have zc := qz.c
  have c0 := qt.c0; have c1 := qt.c1; have c2 := qt.c2
  simp only at c0 c1 c2
  go_wp2
  refine bodyPost_ret (v := .tuple #[.int .u8 rv, .int .u32 sa, .agg #[.int .i64 (-1), .int .i64 (-1), .int .u32 0]]) ?_ rfl ⟨rfl, ⟨tn2, ht2, ?_⟩, ?_⟩
  · simp [results, Tryz.results28, go_sem, yc, zc, c0, c1, c2]
  · exact (v3.kp kO (fun j hj e => by have := HIn.out j hj; omega)).kp0 (Kp.refl noB _).drew
  · exact (k3.over kO (fun j hj e => absurd hj (by have := HX.out; omega))).drew
end Go.Proofs.YtmmnnafjikilpaaGreat

/- vmem's calls, whatever they are given: what is answered, and memory behind it. -/
namespace Go.Proofs.YtmmnnafjikilpaaGreat
open Go.ChangeShapes Go.WideShapes Go.ChangeAt Go.RowKit Go.Maps
set_option linter.unusedVariables false
set_option maxRecDepth 20000

theorem RdB.find {M : Mem} (h : RdB M) (c l : Int) (wr us wp : Bool) : RdB (fMem M c l wr us wp) := by
  unfold fMem
  split
  · exact (h.mark _ _).mark _ _
  · exact h

theorem plF_bd {M : Mem} (h : RdB M) (c l : Int) (wr us wp : Bool) (l0 : 0 ≤ l) : 0 ≤ plF M c l wr us wp ∧ plF M c l wr us wp < 4294967296 := by
  unfold plF fFr
  have := fTwo_bd h c l
  omega

theorem findQ_s {M : Mem} (h : RdB M) (pg : Bool) (c l : Int) (n : Nat) (wr us wp : Bool) (l0 : 0 ≤ l) (l1 : l < 4294967296) (hn : n = 1 ∨ n = 2 ∨ n = 4) (hf : (findQ M pg c l n wr us wp).f = none) : (findQ M pg c l n wr us wp).s.Ok ∧ (findQ M pg c l n wr us wp).s.n = n := by
  have b1 := plF_bd h c l wr us wp l0
  have b2 := plF_bd (h.find c l wr us wp) c (nxt l n) wr us wp (by unfold nxt; omega)
  have ha : 1 ≤ ahd l n ∧ ahd l n ≤ n := by unfold ahd; omega
  unfold findQ at hf ⊢
  split at hf
  · rename_i e; rw [if_pos e]
    exact ⟨⟨l0, l1, by show (0 : Int) ≤ 0; omega, by show (0 : Int) < 4294967296; omega, by show 1 ≤ n; omega, Nat.le_refl _, hn⟩, rfl⟩
  · rename_i e; rw [if_neg e]
    split at hf
    · simp at hf
    · rename_i e2; rw [if_neg e2]
      split at hf
      · rename_i e3; rw [if_pos e3]
        exact ⟨⟨b1.1, b1.2, by show (0 : Int) ≤ 0; omega, by show (0 : Int) < 4294967296; omega, ha.1, ha.2, hn⟩, rfl⟩
      · rename_i e3; rw [if_neg e3]
        split at hf
        · simp at hf
        · rename_i e4; rw [if_neg e4]
          exact ⟨⟨b1.1, b1.2, b2.1, b2.2, ha.1, ha.2, hn⟩, rfl⟩

theorem linB_bd (b off : Int) : 0 ≤ linB b off ∧ linB b off < 4294967296 := by unfold linB; omega
theorem okS_n {z : Int} (h : okS z = true) : z.toNat = 1 ∨ z.toNat = 2 ∨ z.toNat = 4 := by
  have : z = 1 ∨ z = 2 ∨ z = 4 := of_decide_eq_true h
  omega

theorem segQ_s {M : Mem} (h : RdB M) (c : Cp) (k off z : Int) (wr : Bool) (hf : (segQ M c k off z wr).f = none) : (segQ M c k off z wr).s.Ok ∧ (segQ M c k off z wr).s.n = z.toNat := by
  unfold segQ at hf ⊢
  split at hf
  · simp at hf
  · rename_i e; rw [if_neg e]
    split at hf
    · simp at hf
    · rename_i e2; rw [if_neg e2]
      have hz : okS z = true := by cases hz : okS z <;> simp_all
      exact findQ_s h _ _ _ _ _ _ _ (linB_bd _ _).1 (linB_bd _ _).2 (okS_n hz) hf
theorem sysQ_s {M : Mem} (h : RdB M) (c : Cp) (l z : Int) (wr : Bool) (l0 : 0 ≤ l) (l1 : l < 4294967296) (hf : (sysQ M c l z wr).f = none) : (sysQ M c l z wr).s.Ok ∧ (sysQ M c l z wr).s.n = z.toNat := by
  unfold sysQ at hf ⊢
  split at hf
  · simp at hf
  · rename_i e; rw [if_neg e]
    have hz : okS z = true := by cases hz : okS z <;> simp_all
    exact findQ_s h _ _ _ _ _ _ _ l0 l1 (okS_n hz) hf
theorem codQ_s {M : Mem} (h : RdB M) (c : Cp) (off : Int) (hf : (codQ M c off).f = none) : (codQ M c off).s.Ok ∧ (codQ M c off).s.n = 1 := by
  unfold codQ at hf ⊢
  split at hf
  · simp at hf
  · rename_i e; rw [if_neg e]
    exact findQ_s h _ _ _ _ _ _ _ (linB_bd _ _).1 (linB_bd _ _).2 (.inl rfl) hf

theorem segQ_n (M : Mem) (c : Cp) (k off z : Int) (wr : Bool) : (segQ M c k off z wr).m.n = M.n := by
  unfold segQ
  split
  · rfl
  split
  · rfl
  · exact findQ_n _ _ _ _ _ _ _ _
theorem sysQ_n (M : Mem) (c : Cp) (l z : Int) (wr : Bool) : (sysQ M c l z wr).m.n = M.n := by
  unfold sysQ
  split
  · rfl
  · exact findQ_n _ _ _ _ _ _ _ _
theorem codQ_n (M : Mem) (c : Cp) (off : Int) : (codQ M c off).m.n = M.n := by
  unfold codQ
  split
  · rfl
  · exact findQ_n _ _ _ _ _ _ _ _

theorem VmAt.in_all {w : World} {V K B pl tn : Nat} {M : Mem} (h : VmAt w V K B pl tn M) {j : Nat} (hj : inVm V K B M.n j) : j < w.heap.size := by
  rcases hj with e | e
  · rw [e]; exact h.lt
  · exact h.in_lt e

theorem load_any (w : World) (V K B pl tn C : Nat) (M : Mem) (h : VmAt w V K B pl tn M) (c : Cp) (hc : CpAt w C c) (hC : ¬ modVm K B M.n C) (k off z : Int) (o0 : 0 ≤ off) (o1 : off < 4294967296) (htn : tn < 18446744073709551613) :
    Calls Tryz.prog 12 #[.pointer (some ⟨V, 0, none⟩), .pointer (some ⟨C, 0, none⟩), .int .i64 k, .int .u32 off, .int .i64 z] w fun e w' => e = .returned (.tuple #[.int .u32 (segQ M c k off z false).val, (segQ M c k off z false).ft.val]) ∧ VmP w V K B pl tn (segQ M c k off z false).m 2 w' := by
  have hn := segQ_n M c k off z false
  have hs := segQ_s h.ram.rdB c k off z false
  have H : Hid (∀ W, Kp noB w W → Calls Tryz.prog 37 #[.pointer (some ⟨V, 0, none⟩), .pointer (some ⟨C, 0, none⟩), .int .i64 k, .int .u32 off, .int .i64 z, .bool false] W fun e w' => e = QE (segQ M c k off z false) ∧ VmP W V K B pl tn (segQ M c k off z false).m 2 w') := fun W kw => inSeg_any W V K B pl tn C M (h.kp0 kw) c (hc.kp0 kw) hC k off z false o0 o1 htn
  obtain ⟨q, hq⟩ : ∃ q, q = (segQ M c k off z false) := ⟨_, rfl⟩
  rw [← hq] at hn hs H ⊢
  have hm : ∀ j, modVm K B q.m.n j → j < w.heap.size := fun j hj => h.in_lt (by rw [← hn]; exact hj)
  have hI : ∀ j, inVm V K B q.m.n j → j < w.heap.size := fun j hj => h.in_all (by rw [← hn]; exact hj)
  clear hq
  cases hf : q.f with
  | some f =>
    have e1 : q.ft = f := by unfold Qy.ft; rw [hf]
    unfold QE at H
    rw [hf] at H
    rw [e1]
    rw [show q.val = 0 by unfold Qy.val; rw [hf]]
    refine (load_no w (some ⟨V, 0, none⟩) (some ⟨C, 0, none⟩) k off z f (modVm K B q.m.n) (fun w' => ∃ tn', tn' ≤ tn + 2 ∧ VmAt w' V K B pl tn' q.m) hm (fun W W' ⟨t, a, b⟩ k => ⟨t, a, b.kp k (fun j hj e => by have := hI j hj; omega)⟩) (fun W kw => (H.out W kw).mono (fun e w' ⟨a, b, c⟩ => ⟨a, c, b⟩))).mono ?_
    rintro e w' ⟨rfl, k, p⟩
    exact ⟨rfl, p, k⟩
  | none =>
    have e1 : q.ft = noFt := by unfold Qy.ft; rw [hf]
    unfold QE at H
    rw [hf] at H
    rw [e1]
    rw [show q.val = q.m.rdS q.s by unfold Qy.val; rw [hf]]
    exact load_ok w V K B pl tn (some ⟨C, 0, none⟩) k off z q (hs hf).1 hm h.lt H

theorem store_any (w : World) (V K B pl tn C : Nat) (M : Mem) (h : VmAt w V K B pl tn M) (c : Cp) (hc : CpAt w C c) (hC : ¬ modVm K B M.n C) (k off z v : Int) (o0 : 0 ≤ off) (o1 : off < 4294967296) (v0 : 0 ≤ v) (v1 : v < 4294967296) (htn : tn < 18446744073709551613) :
    Calls Tryz.prog 11 #[.pointer (some ⟨V, 0, none⟩), .pointer (some ⟨C, 0, none⟩), .int .i64 k, .int .u32 off, .int .i64 z, .int .u32 v] w fun e w' => e = .returned ((segQ M c k off z true).ft.val) ∧ VmP w V K B pl tn ((segQ M c k off z true).put v) 2 w' := by
  have hn := segQ_n M c k off z true
  have hs := segQ_s h.ram.rdB c k off z true
  have H : Hid (∀ W, Kp noB w W → Calls Tryz.prog 37 #[.pointer (some ⟨V, 0, none⟩), .pointer (some ⟨C, 0, none⟩), .int .i64 k, .int .u32 off, .int .i64 z, .bool true] W fun e w' => e = QE (segQ M c k off z true) ∧ VmP W V K B pl tn (segQ M c k off z true).m 2 w') := fun W kw => inSeg_any W V K B pl tn C M (h.kp0 kw) c (hc.kp0 kw) hC k off z true o0 o1 htn
  obtain ⟨q, hq⟩ : ∃ q, q = (segQ M c k off z true) := ⟨_, rfl⟩
  rw [← hq] at hn hs H ⊢
  have hm : ∀ j, modVm K B q.m.n j → j < w.heap.size := fun j hj => h.in_lt (by rw [← hn]; exact hj)
  have hI : ∀ j, inVm V K B q.m.n j → j < w.heap.size := fun j hj => h.in_all (by rw [← hn]; exact hj)
  clear hq
  cases hf : q.f with
  | some f =>
    have e1 : q.ft = f := by unfold Qy.ft; rw [hf]
    unfold QE at H
    rw [hf] at H
    rw [e1]
    rw [show q.put v = q.m by unfold Qy.put; rw [hf]]
    refine (store_no w (some ⟨V, 0, none⟩) (some ⟨C, 0, none⟩) k off z v f (modVm K B q.m.n) (fun w' => ∃ tn', tn' ≤ tn + 2 ∧ VmAt w' V K B pl tn' q.m) hm (fun W W' ⟨t, a, b⟩ k => ⟨t, a, b.kp k (fun j hj e => by have := hI j hj; omega)⟩) (fun W kw => (H.out W kw).mono (fun e w' ⟨a, b, c⟩ => ⟨a, c, b⟩))).mono ?_
    rintro e w' ⟨rfl, k, p⟩
    exact ⟨rfl, p, k⟩
  | none =>
    have e1 : q.ft = noFt := by unfold Qy.ft; rw [hf]
    unfold QE at H
    rw [hf] at H
    rw [e1]
    rw [show q.put v = q.m.wrS q.s v by unfold Qy.put; rw [hf]]
    exact store_ok w V K B pl tn (some ⟨C, 0, none⟩) k off z v v0 v1 q (hs hf).1 hm h.lt H

theorem check_any (w : World) (V K B pl tn C : Nat) (M : Mem) (h : VmAt w V K B pl tn M) (c : Cp) (hc : CpAt w C c) (hC : ¬ modVm K B M.n C) (k off z : Int) (o0 : 0 ≤ off) (o1 : off < 4294967296) (htn : tn < 18446744073709551613) :
    Calls Tryz.prog 22 #[.pointer (some ⟨V, 0, none⟩), .pointer (some ⟨C, 0, none⟩), .int .i64 k, .int .u32 off, .int .i64 z] w fun e w' => e = .returned ((segQ M c k off z true).ft.val) ∧ VmP w V K B pl tn (segQ M c k off z true).m 2 w' := by
  have hn := segQ_n M c k off z true
  have hs := segQ_s h.ram.rdB c k off z true
  have H : Hid (∀ W, Kp noB w W → Calls Tryz.prog 37 #[.pointer (some ⟨V, 0, none⟩), .pointer (some ⟨C, 0, none⟩), .int .i64 k, .int .u32 off, .int .i64 z, .bool true] W fun e w' => e = QE (segQ M c k off z true) ∧ VmP W V K B pl tn (segQ M c k off z true).m 2 w') := fun W kw => inSeg_any W V K B pl tn C M (h.kp0 kw) c (hc.kp0 kw) hC k off z true o0 o1 htn
  obtain ⟨q, hq⟩ : ∃ q, q = (segQ M c k off z true) := ⟨_, rfl⟩
  rw [← hq] at hn hs H ⊢
  have hm : ∀ j, modVm K B q.m.n j → j < w.heap.size := fun j hj => h.in_lt (by rw [← hn]; exact hj)
  have hI : ∀ j, inVm V K B q.m.n j → j < w.heap.size := fun j hj => h.in_all (by rw [← hn]; exact hj)
  clear hq
  cases hf : q.f with
  | some f =>
    have e1 : q.ft = f := by unfold Qy.ft; rw [hf]
    unfold QE at H
    rw [hf] at H
    rw [e1]
    refine (check_no w (some ⟨V, 0, none⟩) (some ⟨C, 0, none⟩) k off z f (modVm K B q.m.n) (fun w' => ∃ tn', tn' ≤ tn + 2 ∧ VmAt w' V K B pl tn' q.m) hm (fun W W' ⟨t, a, b⟩ k => ⟨t, a, b.kp k (fun j hj e => by have := hI j hj; omega)⟩) (fun W kw => (H.out W kw).mono (fun e w' ⟨a, b, c⟩ => ⟨a, c, b⟩))).mono ?_
    rintro e w' ⟨rfl, k, p⟩
    exact ⟨rfl, p, k⟩
  | none =>
    have e1 : q.ft = noFt := by unfold Qy.ft; rw [hf]
    unfold QE at H
    rw [hf] at H
    rw [e1]
    exact check_ok w V K B pl tn (some ⟨C, 0, none⟩) k off z q (hs hf).1 hm h.lt H

theorem sys_any (w : World) (V K B pl tn C : Nat) (M : Mem) (h : VmAt w V K B pl tn M) (c : Cp) (hc : CpAt w C c) (hC : ¬ modVm K B M.n C) (off z : Int) (o0 : 0 ≤ off) (o1 : off < 4294967296) (htn : tn < 18446744073709551613) :
    Calls Tryz.prog 24 #[.pointer (some ⟨V, 0, none⟩), .pointer (some ⟨C, 0, none⟩), .int .u32 off, .int .i64 z] w fun e w' => e = .returned (.tuple #[.int .u32 (sysQ M c off z false).val, (sysQ M c off z false).ft.val]) ∧ VmP w V K B pl tn (sysQ M c off z false).m 2 w' := by
  have hn := sysQ_n M c off z false
  have hs := sysQ_s h.ram.rdB c off z false o0 o1
  have H : Hid (∀ W, Kp noB w W → Calls Tryz.prog 48 #[.pointer (some ⟨V, 0, none⟩), .pointer (some ⟨C, 0, none⟩), .int .u32 off, .int .i64 z, .bool false] W fun e w' => e = QE (sysQ M c off z false) ∧ VmP W V K B pl tn (sysQ M c off z false).m 2 w') := fun W kw => ofPro_any W V K B pl tn C M (h.kp0 kw) c (hc.kp0 kw) hC off z false o0 o1 htn
  obtain ⟨q, hq⟩ : ∃ q, q = (sysQ M c off z false) := ⟨_, rfl⟩
  rw [← hq] at hn hs H ⊢
  have hm : ∀ j, modVm K B q.m.n j → j < w.heap.size := fun j hj => h.in_lt (by rw [← hn]; exact hj)
  have hI : ∀ j, inVm V K B q.m.n j → j < w.heap.size := fun j hj => h.in_all (by rw [← hn]; exact hj)
  clear hq
  cases hf : q.f with
  | some f =>
    have e1 : q.ft = f := by unfold Qy.ft; rw [hf]
    unfold QE at H
    rw [hf] at H
    rw [e1]
    rw [show q.val = 0 by unfold Qy.val; rw [hf]]
    refine (sys_no w (some ⟨V, 0, none⟩) (some ⟨C, 0, none⟩) off z f (modVm K B q.m.n) (fun w' => ∃ tn', tn' ≤ tn + 2 ∧ VmAt w' V K B pl tn' q.m) hm (fun W W' ⟨t, a, b⟩ k => ⟨t, a, b.kp k (fun j hj e => by have := hI j hj; omega)⟩) (fun W kw => (H.out W kw).mono (fun e w' ⟨a, b, c⟩ => ⟨a, c, b⟩))).mono ?_
    rintro e w' ⟨rfl, k, p⟩
    exact ⟨rfl, p, k⟩
  | none =>
    have e1 : q.ft = noFt := by unfold Qy.ft; rw [hf]
    unfold QE at H
    rw [hf] at H
    rw [e1]
    rw [show q.val = q.m.rdS q.s by unfold Qy.val; rw [hf]]
    exact sys_ok w V K B pl tn (some ⟨C, 0, none⟩) off z q (hs hf).1 hm h.lt H

theorem setSys_any (w : World) (V K B pl tn C : Nat) (M : Mem) (h : VmAt w V K B pl tn M) (c : Cp) (hc : CpAt w C c) (hC : ¬ modVm K B M.n C) (off z v : Int) (o0 : 0 ≤ off) (o1 : off < 4294967296) (v0 : 0 ≤ v) (v1 : v < 4294967296) (htn : tn < 18446744073709551613) :
    Calls Tryz.prog 26 #[.pointer (some ⟨V, 0, none⟩), .pointer (some ⟨C, 0, none⟩), .int .u32 off, .int .i64 z, .int .u32 v] w fun e w' => e = .returned ((sysQ M c off z true).ft.val) ∧ VmP w V K B pl tn ((sysQ M c off z true).put v) 2 w' := by
  have hn := sysQ_n M c off z true
  have hs := sysQ_s h.ram.rdB c off z true o0 o1
  have H : Hid (∀ W, Kp noB w W → Calls Tryz.prog 48 #[.pointer (some ⟨V, 0, none⟩), .pointer (some ⟨C, 0, none⟩), .int .u32 off, .int .i64 z, .bool true] W fun e w' => e = QE (sysQ M c off z true) ∧ VmP W V K B pl tn (sysQ M c off z true).m 2 w') := fun W kw => ofPro_any W V K B pl tn C M (h.kp0 kw) c (hc.kp0 kw) hC off z true o0 o1 htn
  obtain ⟨q, hq⟩ : ∃ q, q = (sysQ M c off z true) := ⟨_, rfl⟩
  rw [← hq] at hn hs H ⊢
  have hm : ∀ j, modVm K B q.m.n j → j < w.heap.size := fun j hj => h.in_lt (by rw [← hn]; exact hj)
  have hI : ∀ j, inVm V K B q.m.n j → j < w.heap.size := fun j hj => h.in_all (by rw [← hn]; exact hj)
  clear hq
  cases hf : q.f with
  | some f =>
    have e1 : q.ft = f := by unfold Qy.ft; rw [hf]
    unfold QE at H
    rw [hf] at H
    rw [e1]
    rw [show q.put v = q.m by unfold Qy.put; rw [hf]]
    refine (setSys_no w (some ⟨V, 0, none⟩) (some ⟨C, 0, none⟩) off z v f (modVm K B q.m.n) (fun w' => ∃ tn', tn' ≤ tn + 2 ∧ VmAt w' V K B pl tn' q.m) hm (fun W W' ⟨t, a, b⟩ k => ⟨t, a, b.kp k (fun j hj e => by have := hI j hj; omega)⟩) (fun W kw => (H.out W kw).mono (fun e w' ⟨a, b, c⟩ => ⟨a, c, b⟩))).mono ?_
    rintro e w' ⟨rfl, k, p⟩
    exact ⟨rfl, p, k⟩
  | none =>
    have e1 : q.ft = noFt := by unfold Qy.ft; rw [hf]
    unfold QE at H
    rw [hf] at H
    rw [e1]
    rw [show q.put v = q.m.wrS q.s v by unfold Qy.put; rw [hf]]
    exact setSys_ok w V K B pl tn (some ⟨C, 0, none⟩) off z v v0 v1 q (hs hf).1 hm h.lt H

theorem cde_any (w : World) (V K B pl tn C : Nat) (M : Mem) (h : VmAt w V K B pl tn M) (c : Cp) (hc : CpAt w C c) (hC : ¬ modVm K B M.n C) (off : Int) (o0 : 0 ≤ off) (o1 : off < 4294967296) (htn : tn < 18446744073709551613) :
    Calls Tryz.prog 28 #[.pointer (some ⟨V, 0, none⟩), .pointer (some ⟨C, 0, none⟩), .int .u32 off] w fun e w' => e = .returned (.tuple #[.int .u8 (codQ M c off).val, .int .u32 (codQ M c off).place, (codQ M c off).ft.val]) ∧ VmP w V K B pl tn (codQ M c off).m 2 w' := by
  have hn := codQ_n M c off
  have hs := codQ_s h.ram.rdB c off
  have H : Hid (∀ W, Kp noB w W → Calls Tryz.prog 54 #[.pointer (some ⟨V, 0, none⟩), .pointer (some ⟨C, 0, none⟩), .int .u32 off] W fun e w' => e = QE (codQ M c off) ∧ VmP W V K B pl tn (codQ M c off).m 2 w') := fun W kw => ofCod_any W V K B pl tn C M (h.kp0 kw) c (hc.kp0 kw) hC off o0 o1 htn
  obtain ⟨q, hq⟩ : ∃ q, q = (codQ M c off) := ⟨_, rfl⟩
  rw [← hq] at hn hs H ⊢
  have hm : ∀ j, modVm K B q.m.n j → j < w.heap.size := fun j hj => h.in_lt (by rw [← hn]; exact hj)
  have hI : ∀ j, inVm V K B q.m.n j → j < w.heap.size := fun j hj => h.in_all (by rw [← hn]; exact hj)
  clear hq
  cases hf : q.f with
  | some f =>
    have e1 : q.ft = f := by unfold Qy.ft; rw [hf]
    unfold QE at H
    rw [hf] at H
    rw [e1]
    rw [show q.val = 0 by unfold Qy.val; rw [hf], show q.place = 0 by unfold Qy.place; rw [hf]]
    refine (cde_no w (some ⟨V, 0, none⟩) (some ⟨C, 0, none⟩) off f (modVm K B q.m.n) (fun w' => ∃ tn', tn' ≤ tn + 2 ∧ VmAt w' V K B pl tn' q.m) hm (fun W W' ⟨t, a, b⟩ k => ⟨t, a, b.kp k (fun j hj e => by have := hI j hj; omega)⟩) (fun W kw => (H.out W kw).mono (fun e w' ⟨a, b, c⟩ => ⟨a, c, b⟩))).mono ?_
    rintro e w' ⟨rfl, k, p⟩
    exact ⟨rfl, p, k⟩
  | none =>
    have e1 : q.ft = noFt := by unfold Qy.ft; rw [hf]
    unfold QE at H
    rw [hf] at H
    rw [e1]
    rw [show q.val = q.m.rdS q.s by unfold Qy.val; rw [hf], show q.place = q.s.a by unfold Qy.place; rw [hf]]
    exact cde_ok w V K B pl tn (some ⟨C, 0, none⟩) off q (hs hf).1 (hs hf).2 hm h.lt H

end Go.Proofs.YtmmnnafjikilpaaGreat

/- awake: the calls at the head of all statements on vmem answer as the document fixes. -/
namespace Go.Proofs.YtmmnnafjikilpaaGreat
open Go.ChangeShapes Go.WideShapes Go.ChangeAt Go.RowKit Go.Maps
set_option linter.unusedVariables false
set_option maxRecDepth 20000

def limC : Cp := ⟨fun i => if i = 1 then codS 0 0 else if i = 3 then { datS 0 0 with l := 7 } else datS 0 0, 1, 0⟩
theorem lim_cells {cs : Array Value} (wf : WfC cs) (h : CpC cs (flatP 0 0 1 0)) : CpC (cs.setIfInBounds 40 (.int .u32 7)) limC := by
  refine ⟨fun i hi => ?_, ?_, ?_⟩
  · by_cases e : i = 3
    · subst e
      obtain ⟨b0, b1, b2, b3, b4, b5, b6, b7, b8⟩ := h.sg 3 (by decide)
      have e3 : (cs.setIfInBounds 40 (.int .u32 7))[10 + 3 * 9 + 3]? = some (.int .u32 7) := Array.getElem?_setIfInBounds_self_of_lt (by rw [wf.s]; omega)
      constructor
      case a3 => exact e3
      all_goals rw [Array.getElem?_setIfInBounds_ne (by omega)]; assumption
    · have h2 : limC.seg i = (flatP 0 0 1 0).seg i := by unfold limC flatP; simp only [e, if_false]
      rw [h2]
      exact (h.sg i hi).past (by omega)
  · rw [Array.getElem?_setIfInBounds_ne (by omega)]; exact h.z
  · rw [Array.getElem?_setIfInBounds_ne (by omega)]; exact h.t

theorem datS_ok (s d : Int) : (datS s d).Ok := by
  have := IntKind.wrap_u16 (16 + s)
  unfold datS
  constructor <;> simp only <;> omega
theorem codS_ok (s d : Int) : (codS s d).Ok := by
  have := IntKind.wrap_u16 (8 + s)
  unfold codS
  constructor <;> simp only <;> omega
theorem limC_ok : limC.Ok := by
  refine ⟨fun i _ => ?_, by decide, by decide, by decide, by decide⟩
  unfold limC
  simp only
  split
  · exact codS_ok _ _
  · have := datS_ok 0 0
    split
    · exact ⟨this.s0, this.s1, this.b0, this.b1, by decide, by decide, this.t0, this.t1⟩
    · exact this

def mA : Mem := memOf (fun _ => 0) (fun _ => 0) (fun _ => 0) 0 0
def mB : Mem := (segQ mA limC 3 4 4 true).put 16909060
theorem ft_of {f : Ft} {a b c : Int} (h : f.vec = a ∧ f.code = b ∧ f.cr2 = c) : f.val = .agg #[.int .i64 a, .int .i64 b, .int .u32 c] := by
  obtain ⟨rfl, rfl, rfl⟩ := h; rfl
theorem mA_n : mA.n = 16 ∧ mA.closed = false := memOf_same _ _ _ 0 0
theorem aw1 : (segQ mA limC 3 4 4 true).ft.vec = -1 ∧ (segQ mA limC 3 4 4 true).ft.code = -1 ∧ (segQ mA limC 3 4 4 true).ft.cr2 = 0 := by decide +kernel
theorem mB_n : mB.n = 16 ∧ mB.closed = false := by decide +kernel
theorem aw2 : (segQ mB limC 3 4 4 false).ft.vec = -1 ∧ (segQ mB limC 3 4 4 false).ft.code = -1 ∧ (segQ mB limC 3 4 4 false).ft.cr2 = 0 := by decide +kernel
theorem aw2v : (segQ mB limC 3 4 4 false).val = 16909060 := by decide +kernel
theorem aw3 : (segQ mB limC 3 5 4 false).ft.vec = 13 ∧ (segQ mB limC 3 5 4 false).ft.code = 0 ∧ (segQ mB limC 3 5 4 false).ft.cr2 = 0 := by decide +kernel
theorem aw4 : (segQ mB limC 2 4294967295 2 false).ft.vec = 12 ∧ (segQ mB limC 2 4294967295 2 false).ft.code = 0 ∧ (segQ mB limC 2 4294967295 2 false).ft.cr2 = 0 := by decide +kernel
theorem aw2m : (segQ mB limC 3 4 4 false).m = mB := by
  unfold segQ
  split
  · rfl
  split
  · rfl
  · unfold findQ
    split
    · rfl
    · rename_i h; exact absurd (show limC.pg = false by decide +kernel) h
theorem aw3m : (segQ mB limC 3 5 4 false).m = mB := by
  unfold segQ
  split
  · rfl
  split
  · rfl
  · unfold findQ
    split
    · rfl
    · rename_i h; exact absurd (show limC.pg = false by decide +kernel) h
theorem aw4m : (segQ mB limC 2 4294967295 2 false).m = mB := by
  unfold segQ
  split
  · rfl
  split
  · rfl
  · unfold findQ
    split
    · rfl
    · rename_i h; exact absurd (show limC.pg = false by decide +kernel) h

set_option maxHeartbeats 4000000 in
theorem vmAwake_any (w : World) : Calls Tryz.prog 4 #[] w fun e w' => e = .returned (.bool true) ∧ Kp noB w w' := by
  obtain ⟨T, n, Z, h⟩ := vlP
  obtain ⟨vl, vs, va, vb⟩ := h.ops
  have g1 := h.agg; have g2 := h.size; have g3 := h.zero
  have cB := both_any w none none 0 0 0 0 (fun _ => 0) (fun _ => 0) (fun _ => 0) (by omega) (by omega) (fun i hi => absurd hi (by omega)) (fun i hi => absurd hi (by omega))
  have e0 : memOf (fun _ => 0) (fun _ => 0) (fun _ => 0) 0 0 = mA := rfl
  rw [e0] at cB
  have HV : Hid (VlP T n Z) := h
  clear e0 h
  go_enter Tryz.func4, Tryz.ntmps4
  simp only [vl, vs, va, vb] at *
  go_wp2_with fail
  refine cB.mono ?_; rintro e w1 ⟨B, R, rfl, hb1, hout, k1⟩
  have hr1 := hb1.ram
  have HO : Hid (∀ j, inRam B 16 j → w.heap.size ≤ j) := fun j hj => hout j (.inl hj)
  clear cB hout hb1
  have cN := vNew_ok w1 B 4 (by omega) mA hr1 mA_n.2
  go_wp2_with fail
  refine cN.mono ?_; rintro e w2 ⟨V, rfl, hV, v2, k2⟩
  have HK : Hid (w.heap.size ≤ w1.heap.size) := k1.size
  replace k2 := k1.trans k2
  obtain ⟨K, hK⟩ : ∃ K, K = w1.heap.size := ⟨_, rfl⟩
  rw [← hK] at v2 hV HK
  have HI : Hid (∀ j, modVm K B 16 j → w.heap.size ≤ j) := fun j hj => by
    have := HK.out
    rcases hj with f | f
    · exact HO.out j f
    · rcases f with e | e <;> omega
  clear cN hr1 k1 hK HO HK
  have cL := flat_any w2 0 (by decide) (by decide)
  go_wp2_with fail
  refine cL.mono ?_; rintro e w3 ⟨cs, rfl, wf, hcp, k3⟩
  replace hcp : CpC cs (flatP 0 0 1 0) := hcp
  have v3 := v2.kp0 k3
  replace k3 := k2.trans k3
  clear cL k2 v2
  have hst := HV.out.new wf w3
  have hsz : cs.size = n := by rw [wf.s, HV.out.s]
  have pA := HV.out.at wf w3
  have hc40 : (w3.alloc (.cells cs T)).cell? ⟨w3.heap.size, 40, none⟩ = some (.int .u32 4294967295) := pA.cell (hcp.sg 3 (by decide)).a3
  have hf40 : (w3.alloc (.cells cs T)).frozen? ⟨w3.heap.size, 40, none⟩ = false := pA.fz 40
  have pB := (HV.out.at (wf.set 40 (v := .int .u32 7) rfl) w3).cp (lim_cells wf hcp) limC_ok
  have nC : ¬ modVm K B 16 w3.heap.size := fun f => by
    have := v3.in_lt (j := w3.heap.size) (by rw [mA_n.1]; exact f)
    omega
  have kB := Kp.alloc noB w3 (.cells (cs.setIfInBounds 40 (.int .u32 7)) T)
  have v5 := v3.kp0 kB
  have k5 : Kp noB w _ := k3.trans kB
  go_wp2_with fail
  obtain ⟨C, hC⟩ : ∃ C, C = w3.heap.size := ⟨_, rfl⟩
  obtain ⟨W5, hW5⟩ : ∃ W, W = w3.alloc (.cells (cs.setIfInBounds 40 (.int .u32 7)) T) := ⟨_, rfl⟩
  rw [← hC] at pB nC ⊢
  rw [← hW5] at pB kB v5 k5 ⊢
  clear v3 pA kB hcp k3 hst hc40 hf40 hsz wf hW5 hC
  have cS := store_any W5 V K B 4 0 C mA v5 limC pB (by rw [mA_n.1]; exact nC) 3 4 4 16909060 (by decide) (by decide) (by decide) (by decide) (by decide)
  rw [ft_of aw1] at cS
  replace cS : Calls Tryz.prog 11 _ W5 (fun e w' => e = _ ∧ VmP W5 V K B 4 0 mB 2 w') := cS
  refine cS.mono ?_; rintro e w6 ⟨rfl, ⟨tn6, ht6, v6⟩, k6⟩
  rw [mB_n.1] at k6
  have pC := pB.kp k6 nC
  replace k6 := k5.over k6 (fun j hj f => by have := HI.out j f; omega)
  have n6 : ¬ modVm K B 16 w6.heap.size := fun f => by have := v6.in_lt (j := w6.heap.size) (by rw [mB_n.1]; exact f); omega
  have kA := Kp.alloc noB w6 (.cells #[.int .i64 (-1), .int .i64 (-1), .int .u32 0] 54)
  have r6 : RowT (w6.alloc (.cells #[.int .i64 (-1), .int .i64 (-1), .int .u32 0] 54)) w6.heap.size ⟨-1, -1, 0⟩ := (MapKept.heap_alloc w6 _).1
  replace v6 := v6.kp0 kA
  replace pC := pC.kp0 kA
  replace k6 := k6.trans kA
  clear cS v5 k5 pB kA
  have cS := load_any (w6.alloc (.cells #[.int .i64 (-1), .int .i64 (-1), .int .u32 0] 54)) V K B 4 tn6 C mB v6 limC pC (by rw [mB_n.1]; exact nC) 3 4 4 (by decide) (by decide) (by omega)
  rw [ft_of aw2, aw2v, aw2m] at cS
  go_wp2_with fail
  refine cS.mono ?_; rintro e w7 ⟨rfl, ⟨tn7, ht7, v7⟩, k7⟩
  rw [mB_n.1] at k7
  have pD := pC.kp k7 nC
  replace r6 := r6.kp k7 n6
  replace k7 := k6.over k7 (fun j hj f => by have := HI.out j f; omega)
  have n7 : ¬ modVm K B 16 w7.heap.size := fun f => by have := v7.in_lt (j := w7.heap.size) (by rw [mB_n.1]; exact f); omega
  have kA := Kp.alloc noB w7 (.cells #[.int .i64 (-1), .int .i64 (-1), .int .u32 0] 54)
  have r7 : RowT (w7.alloc (.cells #[.int .i64 (-1), .int .i64 (-1), .int .u32 0] 54)) w7.heap.size ⟨-1, -1, 0⟩ := (MapKept.heap_alloc w7 _).1
  replace v7 := v7.kp0 kA
  replace pD := pD.kp0 kA
  replace k7 := k7.trans kA
  replace r6 := r6.kp kA (fun f => f)
  clear cS v6 k6 pC kA
  have cS := load_any (w7.alloc (.cells #[.int .i64 (-1), .int .i64 (-1), .int .u32 0] 54)) V K B 4 tn7 C mB v7 limC pD (by rw [mB_n.1]; exact nC) 3 5 4 (by decide) (by decide) (by omega)
  rw [ft_of aw3, aw3m] at cS
  go_wp2_with fail
  refine cS.mono ?_; rintro e w8 ⟨rfl, ⟨tn8, ht8, v8⟩, k8⟩
  rw [mB_n.1] at k8
  have pE := pD.kp k8 nC
  replace r6 := r6.kp k8 n6
  replace r7 := r7.kp k8 n7
  replace k8 := k7.over k8 (fun j hj f => by have := HI.out j f; omega)
  have n8 : ¬ modVm K B 16 w8.heap.size := fun f => by have := v8.in_lt (j := w8.heap.size) (by rw [mB_n.1]; exact f); omega
  have kA := Kp.alloc noB w8 (.cells #[.int .i64 13, .int .i64 0, .int .u32 0] 54)
  have r8 : RowT (w8.alloc (.cells #[.int .i64 13, .int .i64 0, .int .u32 0] 54)) w8.heap.size ⟨13, 0, 0⟩ := (MapKept.heap_alloc w8 _).1
  replace v8 := v8.kp0 kA
  replace pE := pE.kp0 kA
  replace k8 := k8.trans kA
  replace r6 := r6.kp kA (fun f => f)
  replace r7 := r7.kp kA (fun f => f)
  clear cS v7 k7 pD kA
  have cS := load_any (w8.alloc (.cells #[.int .i64 13, .int .i64 0, .int .u32 0] 54)) V K B 4 tn8 C mB v8 limC pE (by rw [mB_n.1]; exact nC) 2 4294967295 2 (by decide) (by decide) (by omega)
  rw [ft_of aw4, aw4m] at cS
  go_wp2_with fail
  refine cS.mono ?_; rintro e w9 ⟨rfl, ⟨tn9, ht9, v9⟩, k9⟩
  rw [mB_n.1] at k9
  replace r6 := r6.kp k9 n6
  replace r7 := r7.kp k9 n7
  replace r8 := r8.kp k9 n8
  replace k9 := k8.over k9 (fun j hj f => by have := HI.out j f; omega)
  clear cS v8 k8 pE v9 n6 n7 n8 nC HI
  have kA := Kp.alloc noB w9 (.cells #[.int .i64 12, .int .i64 0, .int .u32 0] 54)
  have kB := Kp.alloc noB (w9.alloc (.cells #[.int .i64 12, .int .i64 0, .int .u32 0] 54)) (.cells #[.int .i64 (-1), .int .i64 (-1), .int .u32 0] 54)
  replace r6 := (r6.kp kA (fun f => f)).kp kB (fun f => f)
  replace r7 := (r7.kp kA (fun f => f)).kp kB (fun f => f)
  replace r8 := (r8.kp kA (fun f => f)).kp kB (fun f => f)
  replace k9 := (k9.trans kA).trans kB
  have a0 := r6.c0; have a1 := r6.c1; have a2 := r6.c2
  have b0 := r7.c0; have b1 := r7.c1; have b2 := r7.c2
  have c0 := r8.c0; have c1 := r8.c1; have c2 := r8.c2
  simp only at a0 a1 a2 b0 b1 b2 c0 c1 c2
  clear r6 r7 r8 kA kB
  go_wp2_with fail
  go_ret
  exact ⟨rfl, k9⟩
end Go.Proofs.YtmmnnafjikilpaaGreat

/- What comes into the statements on vmem, as it is read: a processor, a call. -/
namespace Go.Proofs.YtmmnnafjikilpaaGreat
open Go.ChangeShapes Go.WideShapes Go.ChangeAt Go.RowKit
set_option linter.unusedVariables false
set_option maxRecDepth 20000

theorem ok_int {P : Program} {w : World} {r : Reach} {b : Nat} {t : TypeId} {k : IntKind} {v : Value} (ht : P.underlying t = some (.int k)) (h : Cell.okWide P w r b t v) : ∃ n, v = .int k n ∧ k.has n := by
  unfold Cell.okWide Cell.ok at h
  rw [ht] at h
  cases v <;> simp at h
  rename_i k' n
  exact ⟨n, by rw [h.1], h.2⟩
theorem ok_bool {P : Program} {w : World} {r : Reach} {b : Nat} {t : TypeId} {v : Value} (ht : P.underlying t = some .bool) (h : Cell.okWide P w r b t v) : ∃ x, v = .bool x := by
  unfold Cell.okWide Cell.ok at h
  rw [ht] at h
  cases v <;> simp at h
  exact ⟨_, rfl⟩

def sgT : List TypeId := [26, 4, 24, 24, 3, 4, 3, 4, 4]
def cpuT : List TypeId := List.replicate 10 24 ++ (sgT ++ sgT ++ sgT ++ sgT ++ sgT ++ sgT) ++ [24, 24, 24, 24, 26, 24, 26] ++ sgT ++ [4, 4, 4]
theorem cpu_types : Tryz.prog.cellTypes Tryz.prog.depth 35 = some cpuT := by kernel_rfl
theorem cpuT_len : cpuT.length = 83 := by kernel_rfl
theorem cpu_size : Tryz.prog.cellsOf 35 = 83 := by kernel_rfl
theorem cpuT_all : ∀ u ∈ cpuT, u = 24 ∨ u = 26 ∨ u = 3 ∨ u = 4 := by decide

def numC (cs : Array Value) (k : Nat) : Int := match cs[k]? with | some (.int _ n) => n | _ => 0
def booC (cs : Array Value) (k : Nat) : Bool := match cs[k]? with | some (.bool b) => b | _ => false
def segC (cs : Array Value) (o : Nat) : SgR := ⟨numC cs o, booC cs (o + 1), numC cs (o + 2), numC cs (o + 3), numC cs (o + 4), booC cs (o + 5), numC cs (o + 6), booC cs (o + 7), booC cs (o + 8)⟩
def cpC (cs : Array Value) : Cp := ⟨fun i => segC cs (10 + i * 9), numC cs 64, numC cs 66⟩

section
variable {W : World} {b : Nat} {cs : Array Value}
theorem at_int (h : Row.okWide Tryz.prog W .any b 35 cs) (hs : cs.size = 83) {i : Nat} {k : IntKind} {t : TypeId} (hi : i < 83) (ht : cpuT[i]? = some t) (hk : Tryz.prog.underlying t = some (.int k)) : cs[i]? = some (.int k (numC cs i)) ∧ k.has (numC cs i) := by
  obtain ⟨ts, e, _, hc⟩ := h
  rw [cpu_types] at e
  obtain rfl := Option.some.inj e
  have hv := Array.getElem?_eq_getElem (xs := cs) (i := i) (by omega)
  obtain ⟨u, hu, ho⟩ := hc i _ hv
  rw [cpuT_len, Nat.mod_eq_of_lt hi, ht] at hu
  obtain rfl := Option.some.inj hu
  obtain ⟨n, en, hn⟩ := ok_int hk ho
  rw [en] at hv
  have : numC cs i = n := by unfold numC; rw [hv]
  rw [this]
  exact ⟨hv, hn⟩
theorem at_bool (h : Row.okWide Tryz.prog W .any b 35 cs) (hs : cs.size = 83) {i : Nat} (hi : i < 83) (ht : cpuT[i]? = some 4) : cs[i]? = some (.bool (booC cs i)) := by
  obtain ⟨ts, e, _, hc⟩ := h
  rw [cpu_types] at e
  obtain rfl := Option.some.inj e
  have hv := Array.getElem?_eq_getElem (xs := cs) (i := i) (by omega)
  obtain ⟨u, hu, ho⟩ := hc i _ hv
  rw [cpuT_len, Nat.mod_eq_of_lt hi, ht] at hu
  obtain rfl := Option.some.inj hu
  obtain ⟨x, ex⟩ := ok_bool Tryz.underlying4 ho
  rw [ex] at hv
  have : booC cs i = x := by unfold booC; rw [hv]
  rw [this]
  exact hv
theorem has32 {n : Int} (h : IntKind.u32.has n) : 0 ≤ n ∧ n < 4294967296 := by
  simp [IntKind.has, IntKind.min, IntKind.max, IntKind.signed, IntKind.bits] at h; omega
theorem has16 {n : Int} (h : IntKind.u16.has n) : 0 ≤ n ∧ n < 65536 := by
  simp [IntKind.has, IntKind.min, IntKind.max, IntKind.signed, IntKind.bits] at h; omega
theorem has64 {n : Int} (h : IntKind.i64.has n) : -9223372036854775808 ≤ n ∧ n < 9223372036854775808 := by
  simp [IntKind.has, IntKind.min, IntKind.max, IntKind.signed, IntKind.bits] at h; omega

theorem cpu_in (h : Row.okWide Tryz.prog W .any b 35 cs) (hs : cs.size = 83) : WfC cs ∧ CpC cs (cpC cs) ∧ (cpC cs).Ok := by
  have hd : ∀ j, j < 6 → cpuT[10 + j * 9]? = some 26 ∧ cpuT[10 + j * 9 + 1]? = some 4 ∧ cpuT[10 + j * 9 + 2]? = some 24 ∧ cpuT[10 + j * 9 + 3]? = some 24 ∧ cpuT[10 + j * 9 + 4]? = some 3 ∧ cpuT[10 + j * 9 + 5]? = some 4 ∧ cpuT[10 + j * 9 + 6]? = some 3 ∧ cpuT[10 + j * 9 + 7]? = some 4 ∧ cpuT[10 + j * 9 + 8]? = some 4 := by decide
  refine ⟨⟨hs, fun v hv => ?_⟩, ⟨fun j hj => ?_, ?_, ?_⟩, ⟨fun j hj => ?_, ?_, ?_, ?_, ?_⟩⟩
  · obtain ⟨ts, e, _, hc⟩ := h
    rw [cpu_types] at e
    obtain rfl := Option.some.inj e
    obtain ⟨i, hi, rfl⟩ := List.getElem_of_mem hv
    obtain ⟨u, hu, ho⟩ := hc i cs.toList[i] (by rw [← Array.getElem?_toList]; exact List.getElem?_eq_getElem hi)
    rcases cpuT_all u (List.mem_of_getElem? hu) with rfl | rfl | rfl | rfl
    · obtain ⟨n, en, _⟩ := ok_int Tryz.underlying24 ho; rw [en]; rfl
    · obtain ⟨n, en, _⟩ := ok_int Tryz.underlying26 ho; rw [en]; rfl
    · obtain ⟨n, en, _⟩ := ok_int Tryz.underlying3 ho; rw [en]; rfl
    · obtain ⟨n, en⟩ := ok_bool Tryz.underlying4 ho; rw [en]; rfl
  · obtain ⟨t0, t1, t2, t3, t4, t5, t6, t7, t8⟩ := hd j hj
    exact ⟨(at_int h hs (by omega) t0 Tryz.underlying26).1, at_bool h hs (by omega) t1, (at_int h hs (by omega) t2 Tryz.underlying24).1, (at_int h hs (by omega) t3 Tryz.underlying24).1, (at_int h hs (by omega) t4 Tryz.underlying3).1, at_bool h hs (by omega) t5, (at_int h hs (by omega) t6 Tryz.underlying3).1, at_bool h hs (by omega) t7, at_bool h hs (by omega) t8⟩
  · exact (at_int h hs (i := 64) (by omega) (t := 24) (by decide) Tryz.underlying24).1
  · exact (at_int h hs (i := 66) (by omega) (t := 24) (by decide) Tryz.underlying24).1
  · obtain ⟨t0, t1, t2, t3, t4, t5, t6, t7, t8⟩ := hd j hj
    have q0 := has16 (at_int h hs (by omega) t0 Tryz.underlying26).2
    have q2 := has32 (at_int h hs (by omega) t2 Tryz.underlying24).2
    have q3 := has32 (at_int h hs (by omega) t3 Tryz.underlying24).2
    have q4 := has64 (at_int h hs (by omega) t4 Tryz.underlying3).2
    exact ⟨q0.1, q0.2, q2.1, q2.2, q3.1, q3.2, q4.1, q4.2⟩
  · exact (has32 (at_int h hs (i := 64) (by omega) (t := 24) (by decide) Tryz.underlying24).2).1
  · exact (has32 (at_int h hs (i := 64) (by omega) (t := 24) (by decide) Tryz.underlying24).2).2
  · exact (has32 (at_int h hs (i := 66) (by omega) (t := 24) (by decide) Tryz.underlying24).2).1
  · exact (has32 (at_int h hs (i := 66) (by omega) (t := 24) (by decide) Tryz.underlying24).2).2
end

/-! ### a call -/
theorem op16_size : Tryz.prog.cellsOf 49 = 5 := by kernel_rfl
def op5 (kd sg off z v : Int) : Array Value := #[.int .i64 kd, .int .i64 sg, .int .u32 off, .int .i64 z, .int .u32 v]
structure OpOk (kd sg off z v : Int) : Prop where
  k0 : -9223372036854775808 ≤ kd
  k1 : kd < 9223372036854775808
  s0 : -9223372036854775808 ≤ sg
  s1 : sg < 9223372036854775808
  o0 : 0 ≤ off
  o1 : off < 4294967296
  z0 : -9223372036854775808 ≤ z
  z1 : z < 9223372036854775808
  v0 : 0 ≤ v
  v1 : v < 4294967296
/-- A call as it lies in a block of its own. -/
def RowO (W : World) (X : Nat) (kd sg off z v : Int) : Prop := W.heap[X]? = some (.cells (op5 kd sg off z v) 49 (0, 0))
theorem RowO.lt {W : World} {X : Nat} {kd sg off z v : Int} (h : RowO W X kd sg off z v) : X < W.heap.size := (Array.getElem?_eq_some_iff.1 h).1
theorem RowO.kp {S : Nat → Prop} {W W' : World} {X : Nat} {kd sg off z v : Int} (h : RowO W X kd sg off z v) (k : Kp S W W') (hS : ¬ S X) : RowO W' X kd sg off z v := (k.block X h.lt hS).trans h
abbrev OpS (X : Nat) (kd sg off z v : Int) (W : World) : Prop := W.cell? ⟨X, 0, none⟩ = some (.int .i64 kd) ∧ W.cell? ⟨X, 1, none⟩ = some (.int .i64 sg) ∧ W.cell? ⟨X, 2, none⟩ = some (.int .u32 off) ∧ W.cell? ⟨X, 3, none⟩ = some (.int .i64 z) ∧ W.cell? ⟨X, 4, none⟩ = some (.int .u32 v)
theorem RowO.all {W : World} {X : Nat} {kd sg off z v : Int} (h : RowO W X kd sg off z v) : OpS X kd sg off z v W := by
  refine ⟨?_, ?_, ?_, ?_, ?_⟩ <;> (rw [cell_at h]; rfl)
end Go.Proofs.YtmmnnafjikilpaaGreat
