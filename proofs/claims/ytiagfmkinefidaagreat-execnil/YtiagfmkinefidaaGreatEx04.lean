/- The bus and its devices: PgMath, VmMath, TlMath, TlMap, PgFind, TlOps, VmBase, VmCpu, VmFault, VmFlat. -/
import Derived.Test.YtiagfmkinefidaaGreatEx01
import Derived.Test.YtiagfmkinefidaaGreatEx03
import Derived.Laws.MakeOwn
import Derived.Laws.Bits128
import Derived.LoopN
import Derived.DeepKeys4
import Derived.Maps.RangeWalk
import Derived.Test.YtiagfmkinefidaaGreatEx05
import Derived.Deep.RegionWith
import Derived.Deep.Cut
import Derived.Carry
import Derived.MapKept
import Derived.OrdersHeld
import Derived.Laws.StructEq
import Derived.Recover
import Derived.Deep.RegionHeld3
import Derived.BigQuiet
import Derived.Laws.CopyRow
import Derived.Deep.MidRow
namespace Go.Proofs.YtiagfmkinefidaaGreat.Rm
open Go.ChangeShapes Go.WideShapes Go.ChangeAt Go.RowKit Go.Maps
set_option linter.unusedVariables false
set_option maxRecDepth 20000
/-! ### bits -/
def pdeA (c l : Int) : Int := c - c % 4096 + l / 4194304 * 4
def pteA (one l : Int) : Int := one - one % 4096 + l / 4096 % 1024 * 4
end Go.Proofs.YtiagfmkinefidaaGreat.Rm
namespace Go.Proofs.YtiagfmkinefidaaGreat.Rm
open Go.ChangeShapes Go.WideShapes Go.ChangeAt Go.RowKit Go.Maps
set_option linter.unusedVariables false
set_option maxRecDepth 20000
/-! ### the processor, as far as it is looked at -/
structure SgR where
  sel : Int
  nl : Bool
  b : Int
  l : Int
  t : Int
  s : Bool
  d : Int
  p : Bool
  g : Bool
structure Cp where
  seg : Nat → SgR
  cr0 : Int
  cr3 : Int
structure Ft where
  vec : Int
  code : Int
  cr2 : Int
def Ft.val (f : Ft) : Value := .agg #[.int .i64 f.vec, .int .i64 f.code, .int .u32 f.cr2]
def noFt : Ft := ⟨-1, -1, 0⟩
end Go.Proofs.YtiagfmkinefidaaGreat.Rm
namespace Go.Proofs.YtiagfmkinefidaaGreat.Rm
open Go.ChangeShapes Go.WideShapes Go.ChangeAt Go.RowKit Go.Maps
set_option linter.unusedVariables false
set_option maxRecDepth 20000
/-- What is kept of a page: the walk, the words that it came by, its turn. -/
structure Ent where
  fr : Int
  p : Int
  q : Int
  bw : Bool
  bu : Bool
  o : Int
  t : Int
  tn : Int
def Good (a b : Int) (e : Ent) : Prop :=
  (0 ≤ e.o ∧ e.o < 4294967296 ∧ 0 ≤ e.t ∧ e.t < 4294967296) ∧ (hasF e.o 1 = true ∧ hasF e.t 1 = true) ∧ e.p = pdeA a b ∧ e.q = pteA e.o b ∧ e.fr = e.t - e.t % 4096 ∧ e.bw = (hasF e.o 2 && hasF e.t 2) ∧ e.bu = (hasF e.o 4 && hasF e.t 4)
end Go.Proofs.YtiagfmkinefidaaGreat.Rm
namespace Go.Proofs.YtiagfmkinefidaaGreat.Rm
open Go.ChangeShapes Go.WideShapes Go.ChangeAt Go.RowKit Go.Maps
set_option linter.unusedVariables false
set_option maxRecDepth 20000
def kl (a b : Int) : Lit := .string (keyBytes [.int .u32 a, .int .u32 b])
def Ent.dat (e : Ent) : DataW Unit := .agg [.lit (.int .u32 e.fr), .lit (.int .u32 e.p), .lit (.int .u32 e.q), .lit (.bool e.bw), .lit (.bool e.bu), .lit (.int .u32 e.o), .lit (.int .u32 e.t), .lit (.int .u64 e.tn)]
def entElem : Value → Option (DataW Unit × List MemPlace)
  | .agg ⟨[.int .u32 fr, .int .u32 p, .int .u32 q, .bool bw, .bool bu, .int .u32 o, .int .u32 t, .int .u64 tn]⟩ => some (Ent.dat ⟨fr, p, q, bw, bu, o, t, tn⟩, [])
  | _ => none
/-- All that is kept is good, has had its turn, and is not more than there are places. -/
structure Tidied (D : DataW Unit) (pl tn : Nat) : Prop where
  size : Maps.size D ≤ pl
  good : ∀ a b : Int, Maps.has D (kl a b) = true → (0 ≤ a ∧ a < 4294967296 ∧ 0 ≤ b ∧ b < 4294967296) → ∃ e : Ent, (∀ z, D.atKey (kl a b) z = e.dat) ∧ Good a b e ∧ 0 ≤ e.tn ∧ e.tn ≤ tn
theorem Tidied.empty (pl tn : Nat) : Tidied (.map []) pl tn := ⟨Nat.zero_le _, fun a b h => by cases h⟩
structure TlbD (w : World) (K B pl tn : Nat) (D : DataW Unit) : Prop where
  c : w.heap[K + 1]? = some (.cells #[.pointer (some ⟨B + 3, 0, none⟩), .int .i64 pl, .map (some K), .int .u64 tn] 137 (0, 0))
  m : w.ownsMap Tryz.prog 403 entElem K 65 D
  g : Tidied D pl tn
  lim : pl ≤ 64
def inTlb (K k : Nat) : Prop := k = K ∨ k = K + 1
theorem TlbD.kept {w w' : World} {K B pl tn : Nat} {D : DataW Unit} (h : TlbD w K B pl tn D) (e : ∀ k, inTlb K k → w'.heap[k]? = w.heap[k]?) : TlbD w' K B pl tn D :=
  ⟨(e _ (.inr rfl)).trans h.c, owns_at h.m (e _ (.inl rfl)), h.g, h.lim⟩
theorem TlbD.lt {w : World} {K B pl tn : Nat} {D : DataW Unit} (h : TlbD w K B pl tn D) : K + 1 < w.heap.size := (Array.getElem?_eq_some_iff.1 h.c).1
theorem TlbD.kp {S : Nat → Prop} {w w' : World} {K B pl tn : Nat} {D : DataW Unit} (h : TlbD w K B pl tn D) (k : Kp S w w') (hS : ∀ k, inTlb K k → ¬ S k) : TlbD w' K B pl tn D :=
  h.kept fun i hi => k.block i (by have := h.lt; rcases hi with e | e <;> omega) (hS i hi)
end Go.Proofs.YtiagfmkinefidaaGreat.Rm
namespace Go.Proofs.YtiagfmkinefidaaGreat.Rm
open Go.ChangeShapes Go.WideShapes Go.ChangeAt Go.RowKit Go.Maps
set_option linter.unusedVariables false
set_option maxRecDepth 20000
theorem Kp.own' {S : Nat → Prop} {w W : World} (h : Kp S w W) {b i : Nat} (hb : w.heap.size ≤ b) (v : Value) : Kp S w (W.setCell ⟨b, i, none⟩ v) :=
  h.over (Kp.setCell (S := fun j => j = b) W (p := ⟨b, i, none⟩) rfl v) (fun j hj e => by omega)
end Go.Proofs.YtiagfmkinefidaaGreat.Rm
namespace Go.Proofs.YtiagfmkinefidaaGreat.Rm
open Go.ChangeShapes Go.WideShapes Go.ChangeAt Go.RowKit Go.Maps
set_option linter.unusedVariables false
set_option maxRecDepth 20000
theorem tlb_start (w : World) (B pl : Nat) (h : pl ≤ 64) : TlbD ((w.alloc (.map #[] 0)).alloc (.cells #[.pointer (some ⟨B + 3, 0, none⟩), .int .i64 pl, .map (some w.heap.size), .int .u64 0] 137)) w.heap.size B pl 0 (.map []) where
  c := by
    have h := (MapKept.heap_alloc (w.alloc (.map #[] 0)) (.cells #[.pointer (some ⟨B + 3, 0, none⟩), .int .i64 pl, .map (some w.heap.size), .int .u64 0] 137)).1
    simpa using h
  m := ((World.ownsMap_made w Tryz.prog 403 entElem).mono (Nat.zero_le _)).alloc _
  g := Tidied.empty _ _
  lim := h
theorem tlNew_ok (w : World) (B p : Nat) (h : p ≤ 64) : Calls Tryz.prog 23 #[.pointer (some ⟨B + 3, 0, none⟩), .int .i64 p] w fun e w' => e = .returned (.tuple #[.pointer (some ⟨w.heap.size + 1, 0, none⟩), .int .i64 0]) ∧ TlbD w' w.heap.size B p 0 (.map []) ∧ Kp noB w w' := by
  have h' : decide ((p : Int) < 0) = false := decide_eq_false (by omega)
  have h2 : decide (64 < (p : Int)) = false := decide_eq_false (by omega)
  have hmm := @run_makeMap Tryz.prog
  have R := tlb_start w B p h
  have k : Kp noB w ((w.alloc (.map #[] 0)).alloc (.cells #[.pointer (some ⟨B + 3, 0, none⟩), .int .i64 p, .map (some w.heap.size), .int .u64 0] 137)) := (Kp.alloc _ _ _).trans (Kp.alloc _ _ _)
  go_enter Tryz.func23, Tryz.ntmps23
  go_wp2
  go_ret2
  exact ⟨by simp, R, k⟩
end Go.Proofs.YtiagfmkinefidaaGreat.Rm
namespace Go.Proofs.YtiagfmkinefidaaGreat.Rm
open Go.ChangeShapes Go.WideShapes Go.ChangeAt Go.RowKit Go.Maps
set_option linter.unusedVariables false
set_option maxRecDepth 20000
theorem cell_kp {S : Nat → Prop} {w w' : World} {C o : Nat} {v : Value} (h : w.cell? ⟨C, o, none⟩ = some v) (k : Kp S w w') (hS : ¬ S C) : w'.cell? ⟨C, o, none⟩ = some v := by
  have hb : C < w.heap.size := by
    rcases Nat.lt_or_ge C w.heap.size with h' | h'
    · exact h'
    · exfalso; simp [World.cell?, Array.getElem?_eq_none h'] at h
  rw [World.cell?_of_block (w := w) (k.block C hb hS)]; exact h
def pan (f : Ft) : List PanicEntry := [{ v := .iface 36 f.val, recovered := false }]
/-! ### leaves -/
end Go.Proofs.YtiagfmkinefidaaGreat.Rm
namespace Go.Proofs.YtiagfmkinefidaaGreat.Rm
open Go.ChangeShapes Go.WideShapes Go.ChangeAt Go.RowKit Go.Maps
set_option linter.unusedVariables false
set_option maxRecDepth 20000
structure WfC (cs : Array Value) : Prop where
  s : cs.size = 83
  o : ∀ v ∈ cs.toList, v.oneCell' = true
theorem WfC.set {cs : Array Value} (h : WfC cs) (k : Nat) {v : Value} (hv : v.oneCell' = true) : WfC (cs.setIfInBounds k v) where
  s := by simp [h.s]
  o := fun x hx => by
    rw [Array.toList_setIfInBounds] at hx
    rcases List.mem_or_eq_of_mem_set hx with f | f
    · exact h.o x f
    · rw [f]; exact hv
def cpuZ : Array Value := #[.int .u32 0, .int .u32 0, .int .u32 0, .int .u32 0, .int .u32 0, .int .u32 0, .int .u32 0, .int .u32 0, .int .u32 0, .int .u32 0, .int .u16 0, .bool false, .int .u32 0, .int .u32 0, .int .i64 0, .bool false, .int .i64 0, .bool false, .bool false, .int .u16 0, .bool false, .int .u32 0, .int .u32 0, .int .i64 0, .bool false, .int .i64 0, .bool false, .bool false, .int .u16 0, .bool false, .int .u32 0, .int .u32 0, .int .i64 0, .bool false, .int .i64 0, .bool false, .bool false, .int .u16 0, .bool false, .int .u32 0, .int .u32 0, .int .i64 0, .bool false, .int .i64 0, .bool false, .bool false, .int .u16 0, .bool false, .int .u32 0, .int .u32 0, .int .i64 0, .bool false, .int .i64 0, .bool false, .bool false, .int .u16 0, .bool false, .int .u32 0, .int .u32 0, .int .i64 0, .bool false, .int .i64 0, .bool false, .bool false, .int .u32 0, .int .u32 0, .int .u32 0, .int .u32 0, .int .u16 0, .int .u32 0, .int .u16 0, .int .u16 0, .bool false, .int .u32 0, .int .u32 0, .int .i64 0, .bool false, .int .i64 0, .bool false, .bool false, .bool false, .bool false, .bool false]
structure VlP (T : TypeId) (n : Nat) (Z : Array Value) : Prop where
  t : T = 34
  s : n = 83
  z : Z = cpuZ
  agg : ∀ w, (isAgg T).run Tryz.prog w = .ok true w
  size : ∀ w, (sizeOf T).run Tryz.prog w = .ok n w
  zero : ∀ w, (zeroValue T).run Tryz.prog w = .ok (.agg Z) w
  wf : WfC Z
  z64 : Z[64]? = some (.int .u32 0)
  z66 : Z[66]? = some (.int .u32 0)
theorem vlP : ∃ T n Z, VlP T n Z :=
  ⟨_, _, _, rfl, rfl, rfl, fun w => by kernel_rfl, fun w => by kernel_rfl, fun w => by kernel_rfl, ⟨by kernel_rfl, by
    have : cpuZ.toList.all (fun v => v.oneCell') = true := by kernel_rfl
    exact fun v hv => List.all_eq_true.1 this v hv⟩, by kernel_rfl, by kernel_rfl⟩
theorem VlP.ops {T : TypeId} {n : Nat} {Z : Array Value} (h : VlP T n Z) :
    (∀ x, Op.load 34 x = Op.load T x) ∧ (∀ x y, Op.store 34 x y = Op.store T x y) ∧ Op.alloc 34 = Op.alloc T ∧ ∀ x, Op.box 34 x = Op.box T x := by
  rw [h.t]
  exact ⟨fun _ => rfl, fun _ _ => rfl, rfl, fun _ => rfl⟩
def PAt (w : World) (q : Nat) (cs : Array Value) : Prop := w.heap[q]? = some (.cells cs 34 (0, 0)) ∧ WfC cs
theorem PAt.lt {w : World} {q : Nat} {cs : Array Value} (h : PAt w q cs) : q < w.heap.size := (Array.getElem?_eq_some_iff.1 h.1).1
theorem PAt.kp {S : Nat → Prop} {w w' : World} {q : Nat} {cs : Array Value} (h : PAt w q cs) (k : Kp S w w') (hS : ¬ S q) : PAt w' q cs := ⟨(k.block q h.lt hS).trans h.1, h.2⟩
theorem PAt.cell {w : World} {q : Nat} {cs : Array Value} (h : PAt w q cs) {k : Nat} {v : Value} (hv : cs[k]? = some v) : w.cell? ⟨q, k, none⟩ = some v := by rw [cell_at h.1]; exact hv
theorem PAt.some {w : World} {q : Nat} {cs : Array Value} (h : PAt w q cs) {k : Nat} (hk : k < 83) : ∃ v, w.cell? ⟨q, k, none⟩ = Option.some v := by
  have : k < cs.size := by rw [h.2.s]; exact hk
  exact ⟨cs[k], h.cell (Array.getElem?_eq_getElem this)⟩
theorem PAt.fz {w : World} {q : Nat} {cs : Array Value} (h : PAt w q cs) (j : Nat) : w.frozen? ⟨q, j, none⟩ = false := frozen_at h.1
theorem PAt.set {w : World} {q : Nat} {cs : Array Value} (h : PAt w q cs) (k : Nat) {v : Value} (hv : v.oneCell' = true) : PAt (w.setCell ⟨q, k, none⟩ v) q (cs.setIfInBounds k v) := ⟨heap_setCell_at h.1 _, h.2.set k hv⟩
section
variable {T : TypeId} {n : Nat} {Z : Array Value}
theorem VlP.get (h : VlP T n Z) {w : World} {q : Nat} {cs : Array Value} (hq : PAt w q cs) : (loadCellsFrom ⟨q, 0, none⟩ 0 n #[]).run Tryz.prog w = .ok cs w := by
  have e := run_loadCells_list (P := Tryz.prog) w ⟨q, 0, none⟩ cs.toList (fun j v hv => by
    rw [Addr.add_mid, Nat.zero_add]
    exact hq.cell (by rw [← Array.getElem?_toList]; exact hv))
  rw [h.s]
  have : cs.toList.length = 83 := hq.2.s
  rw [this] at e
  exact e
theorem put_cpu {w : World} {q : Nat} {c cs : Array Value} {T : TypeId} (h : w.heap[q]? = some (.cells c T (0, 0))) (hc : c.size = 83) (wf : WfC cs) : (storeCells ⟨q, 0, none⟩ cs.toList).run Tryz.prog w = .ok () (w.setRow q cs) := by
  have e := run_storeCells_at Tryz.prog q 0 T cs.toList 0 c w h (by simp [hc, wf.s]) wf.o
  rw [e]
  have e2 : (List.take (0 + 0) c.toList ++ cs.toList ++ List.drop (0 + 0 + cs.toList.length) c.toList).toArray = cs := by
    have h1 : List.drop (0 + 0 + cs.toList.length) c.toList = [] := List.drop_eq_nil_of_le (by simp [hc, wf.s])
    rw [h1]
    simp
  rw [e2]
theorem setRow_alloc (W : World) (c A : Array Value) (T : TypeId) : (W.alloc (.cells c T)).setRow W.heap.size A = W.alloc (.cells A T) := by
  unfold World.setRow World.alloc
  congr 1
  apply Array.ext_getElem?
  intro i
  rw [Array.getElem?_modify]
  by_cases h : W.heap.size = i
  · subst h; simp
  · simp only [h, if_false]
    by_cases h2 : i < W.heap.size
    · rw [Array.getElem?_push_lt h2, Array.getElem?_push_lt h2]
    · rw [Array.getElem?_eq_none (by simp; omega), Array.getElem?_eq_none (by simp; omega)]
/-- A new processor is laid. -/
theorem VlP.new (h : VlP T n Z) {cs : Array Value} (wf : WfC cs) (W : World) : (storeCells ⟨W.heap.size, 0, none⟩ cs.toList).run Tryz.prog (W.alloc (.cells Z T)) = .ok () (W.alloc (.cells cs T)) := by
  rw [← setRow_alloc W Z cs T]
  exact put_cpu (MapKept.heap_alloc W (.cells Z T)).1 (by rw [h.wf.s]) wf
theorem VlP.at (h : VlP T n Z) {cs : Array Value} (wf : WfC cs) (W : World) : PAt (W.alloc (.cells cs T)) W.heap.size cs := by
  rw [h.t]; exact ⟨(MapKept.heap_alloc W _).1, wf⟩
theorem VlP.put {w : World} {q : Nat} {c cs : Array Value} (hq : PAt w q c) (wf : WfC cs) : (storeCells ⟨q, 0, none⟩ cs.toList).run Tryz.prog w = .ok () (w.setRow q cs) := put_cpu hq.1 hq.2.s wf
theorem PAt.put {w : World} {q : Nat} {c cs : Array Value} (hq : PAt w q c) (wf : WfC cs) : PAt (w.setRow q cs) q cs := ⟨setRow_heap w q _ _ _ _ hq.1, wf⟩
end
/-- A segment register within the cells. -/
structure SgC (cs : Array Value) (o : Nat) (r : SgR) : Prop where
  a0 : cs[o]? = some (.int .u16 r.sel)
  a1 : cs[o + 1]? = some (.bool r.nl)
  a2 : cs[o + 2]? = some (.int .u32 r.b)
  a3 : cs[o + 3]? = some (.int .u32 r.l)
  a4 : cs[o + 4]? = some (.int .i64 r.t)
  a5 : cs[o + 5]? = some (.bool r.s)
  a6 : cs[o + 6]? = some (.int .i64 r.d)
  a7 : cs[o + 7]? = some (.bool r.p)
  a8 : cs[o + 8]? = some (.bool r.g)
/-- The cells of a processor. -/
structure CpC (cs : Array Value) (c : Cp) : Prop where
  sg : ∀ i, i < 6 → SgC cs (10 + i * 9) (c.seg i)
  z : cs[64]? = some (.int .u32 c.cr0)
  t : cs[66]? = some (.int .u32 c.cr3)
def set9 (cs : Array Value) (o : Nat) (r : SgR) : Array Value :=
  ((((((((cs.setIfInBounds o (.int .u16 r.sel)).setIfInBounds (o + 1) (.bool r.nl)).setIfInBounds (o + 2) (.int .u32 r.b)).setIfInBounds (o + 3) (.int .u32 r.l)).setIfInBounds (o + 4) (.int .i64 r.t)).setIfInBounds (o + 5) (.bool r.s)).setIfInBounds (o + 6) (.int .i64 r.d)).setIfInBounds (o + 7) (.bool r.p)).setIfInBounds (o + 8) (.bool r.g)
theorem set9_wf {cs : Array Value} (h : WfC cs) (o : Nat) (r : SgR) : WfC (set9 cs o r) :=
  ((((((((h.set _ rfl).set _ rfl).set _ rfl).set _ rfl).set _ rfl).set _ rfl).set _ rfl).set _ rfl).set _ rfl
theorem set9_ne {cs : Array Value} {o k : Nat} (r : SgR) (h : k < o ∨ o + 9 ≤ k) : (set9 cs o r)[k]? = cs[k]? := by
  unfold set9
  rw [Array.getElem?_setIfInBounds_ne (by omega), Array.getElem?_setIfInBounds_ne (by omega), Array.getElem?_setIfInBounds_ne (by omega), Array.getElem?_setIfInBounds_ne (by omega), Array.getElem?_setIfInBounds_ne (by omega), Array.getElem?_setIfInBounds_ne (by omega), Array.getElem?_setIfInBounds_ne (by omega), Array.getElem?_setIfInBounds_ne (by omega), Array.getElem?_setIfInBounds_ne (by omega)]
theorem set9_at {cs : Array Value} {o : Nat} (r : SgR) (h : o + 9 ≤ cs.size) : SgC (set9 cs o r) o r := by
  unfold set9
  constructor <;> simp [Array.getElem?_setIfInBounds] <;> omega
theorem SgC.ne {cs : Array Value} {o p : Nat} {r q : SgR} (h : SgC cs o q) (hp : o + 9 ≤ p ∨ p + 9 ≤ o) : SgC (set9 cs p r) o q := by
  obtain ⟨a0, a1, a2, a3, a4, a5, a6, a7, a8⟩ := h
  constructor
  all_goals rw [set9_ne r (by omega)]; assumption
/-- Nine stores. -/
def setW9 (w : World) (X o : Nat) (r : SgR) : World :=
  ((((((((w.setCell ⟨X, o, none⟩ (.int .u16 r.sel)).setCell ⟨X, o + 1, none⟩ (.bool r.nl)).setCell ⟨X, o + 2, none⟩ (.int .u32 r.b)).setCell ⟨X, o + 3, none⟩ (.int .u32 r.l)).setCell ⟨X, o + 4, none⟩ (.int .i64 r.t)).setCell ⟨X, o + 5, none⟩ (.bool r.s)).setCell ⟨X, o + 6, none⟩ (.int .i64 r.d)).setCell ⟨X, o + 7, none⟩ (.bool r.p)).setCell ⟨X, o + 8, none⟩ (.bool r.g)
theorem PAt.set9 {w : World} {X : Nat} {cs : Array Value} (h : PAt w X cs) (o : Nat) (r : SgR) : PAt (setW9 w X o r) X (set9 cs o r) :=
  ((((((((h.set o rfl).set (o + 1) rfl).set (o + 2) rfl).set (o + 3) rfl).set (o + 4) rfl).set (o + 5) rfl).set (o + 6) rfl).set (o + 7) rfl).set (o + 8) rfl
theorem kp_setW9 (w : World) (X o : Nat) (r : SgR) : Kp (fun j => j = X) w (setW9 w X o r) := by
  have k : ∀ (W : World) (o : Nat) (v : Value), Kp (fun j => j = X) W (W.setCell ⟨X, o, none⟩ v) := fun W o v => Kp.setCell (S := fun j => j = X) W (p := ⟨X, o, none⟩) rfl v
  exact ((((((((k _ _ _).trans (k _ _ _)).trans (k _ _ _)).trans (k _ _ _)).trans (k _ _ _)).trans (k _ _ _)).trans (k _ _ _)).trans (k _ _ _)).trans (k _ _ _)
end Go.Proofs.YtiagfmkinefidaaGreat.Rm
namespace Go.Proofs.YtiagfmkinefidaaGreat.Rm
open Go.ChangeShapes Go.WideShapes Go.ChangeAt Go.RowKit Go.Maps
set_option linter.unusedVariables false
set_option maxRecDepth 20000
def RowT (W : World) (X : Nat) (f : Ft) : Prop := W.heap[X]? = some (.cells #[.int .i64 f.vec, .int .i64 f.code, .int .u32 f.cr2] 36 (0, 0))
theorem RowT.lt {W : World} {X : Nat} {f : Ft} (r : RowT W X f) : X < W.heap.size := (Array.getElem?_eq_some_iff.1 r).1
theorem RowT.kp {S : Nat → Prop} {W W' : World} {X : Nat} {f : Ft} (r : RowT W X f) (k : Kp S W W') (hS : ¬ S X) : RowT W' X f := (k.block X r.lt hS).trans r
theorem RowT.c0 {W : World} {X : Nat} {f : Ft} (r : RowT W X f) : W.cell? ⟨X, 0, none⟩ = some (.int .i64 f.vec) := by rw [cell_at r]; rfl
theorem RowT.c1 {W : World} {X : Nat} {f : Ft} (r : RowT W X f) : W.cell? ⟨X, 1, none⟩ = some (.int .i64 f.code) := by rw [cell_at r]; rfl
theorem RowT.c2 {W : World} {X : Nat} {f : Ft} (r : RowT W X f) : W.cell? ⟨X, 2, none⟩ = some (.int .u32 f.cr2) := by rw [cell_at r]; rfl
theorem RowT.fz {W : World} {X : Nat} {f : Ft} (r : RowT W X f) (j : Nat) : W.frozen? ⟨X, j, none⟩ = false := frozen_at r
def setFt (W : World) (X : Nat) (f : Ft) : World := ((W.setCell ⟨X, 0, none⟩ (.int .i64 f.vec)).setCell ⟨X, 1, none⟩ (.int .i64 f.code)).setCell ⟨X, 2, none⟩ (.int .u32 f.cr2)
theorem RowT.set {W : World} {X : Nat} {f : Ft} (r : RowT W X f) (g : Ft) : RowT (setFt W X g) X g := heap_setCell_at (heap_setCell_at (heap_setCell_at r _) _) _
theorem kp_setFt (W : World) (X : Nat) (f : Ft) : Kp (fun j => j = X) W (setFt W X f) :=
  ((Kp.setCell (S := fun j => j = X) W (p := ⟨X, 0, none⟩) rfl _).trans (Kp.setCell (S := fun j => j = X) _ (p := ⟨X, 1, none⟩) rfl _)).trans (Kp.setCell (S := fun j => j = X) _ (p := ⟨X, 2, none⟩) rfl _)
theorem none_any (w : World) : Calls Tryz.prog 33 #[] w fun e w' => e = .returned (.agg #[.int .i64 (-1), .int .i64 (-1), .int .u32 0]) ∧ Kp noB w w' := by
  go_enter Tryz.func33, Tryz.ntmps33
  go_wp2
  refine bodyPost_ret (v := .agg #[.int .i64 (-1), .int .i64 (-1), .int .u32 0]) (by simp [results, Tryz.results33, go_sem]) rfl ⟨rfl, ?_⟩
  exact Kp.alloc noB w _
end Go.Proofs.YtiagfmkinefidaaGreat.Rm
namespace Go.Proofs.YtiagfmkinefidaaGreat.Rm
open Go.ChangeShapes Go.WideShapes Go.ChangeAt Go.RowKit Go.Maps
set_option linter.unusedVariables false
set_option maxRecDepth 20000
def datS (s d : Int) : SgR := ⟨IntKind.u16.wrap (16 + s), false, 0, 4294967295, 2, false, d, true, true⟩
def codS (s d : Int) : SgR := ⟨IntKind.u16.wrap (8 + s), false, 0, 4294967295, 10, false, d, true, true⟩
def flatP (s d cr0 cr3 : Int) : Cp := ⟨fun i => if i = 1 then codS s d else datS s d, cr0, cr3⟩
theorem SgC.past {cs : Array Value} {o k : Nat} {r : SgR} {v : Value} (h : SgC cs o r) (hk : k < o ∨ o + 9 ≤ k) : SgC (cs.setIfInBounds k v) o r := by
  obtain ⟨b0, b1, b2, b3, b4, b5, b6, b7, b8⟩ := h
  constructor
  all_goals rw [Array.getElem?_setIfInBounds_ne (by omega)]; assumption
theorem flat_cells {cs : Array Value} {s d : Int} (wf : WfC cs) (hsg : ∀ j, j < 6 → SgC cs (10 + j * 9) (datS s d)) (h66 : cs[66]? = some (.int .u32 0)) : CpC (((set9 cs 19 (codS s d)).setIfInBounds 64 (.int .u32 1)).setIfInBounds 9 (.int .u32 2)) (flatP s d 1 0) := by
  have sz : (set9 cs 19 (codS s d)).size = 83 := (set9_wf wf _ _).s
  refine ⟨fun i hi => ?_, ?_, ?_⟩
  · by_cases e : i = 1
    · subst e
      have h1 : SgC (set9 cs 19 (codS s d)) (10 + 1 * 9) (codS s d) := set9_at (o := 19) _ (by rw [wf.s]; omega)
      have h2 : (flatP s d 1 0).seg 1 = codS s d := rfl
      rw [h2]
      exact (h1.past (.inr (by omega))).past (.inl (by omega))
    · have h2 : (flatP s d 1 0).seg i = datS s d := by unfold flatP; simp only [e, if_false]
      rw [h2]
      have h1 : SgC (set9 cs 19 (codS s d)) (10 + i * 9) (datS s d) := (hsg i hi).ne (by omega)
      exact (h1.past (.inr (by omega))).past (.inl (by omega))
  · have h1 : ((set9 cs 19 (codS s d)).setIfInBounds 64 (.int .u32 1))[64]? = some (.int .u32 1) := Array.getElem?_setIfInBounds_self_of_lt (by rw [sz]; omega)
    rw [Array.getElem?_setIfInBounds_ne (by omega)]
    exact h1
  · rw [Array.getElem?_setIfInBounds_ne (by omega), Array.getElem?_setIfInBounds_ne (by omega), set9_ne _ (by omega)]
    exact h66
end Go.Proofs.YtiagfmkinefidaaGreat.Rm
