/- The bus and its devices: PcOps, PcBits, RcBase, PcAwake, RcLeaf, RcTake, PcMask, RcLine, RcApp, RcSim, RcAll, RcS. -/
import Derived.Test.YtiagfmkinefidaaGreatEx23
import Derived.Laws.CopyRow
import Derived.Deep.MidRow
import Derived.LoopTactic
import Derived.Maps.AppendAt
import Derived.OwnWalk
namespace Go.Proofs.YtiagfmkinefidaaGreat.Pc
open Go.ChangeShapes Go.WideShapes Go.ChangeAt Go.RowKit
set_option linter.unusedVariables false
set_option maxRecDepth 20000
def M2.out (m : M2) (p v : Int) : M2 := (if p = 0 then m.set false (m.a.cmd v) else if p = 1 then m.set false (m.a.dat v) else if p = 2 then m.set true (m.b.cmd v) else m.set true (m.b.dat v)).settle
def M2.line (m : M2) (n : Int) (u : Bool) : M2 := (if n = 2 then m else if n < 8 then m.set false (m.a.line n u) else m.set true (m.b.line (n - 8) u)).settle
theorem M2.Ok.out {m : M2} (k : m.Ok) {p v : Int} (hv : By v) : (m.out p v).Ok := by
  unfold M2.out
  apply M2.Ok.settle
  split
  · exact k.set false (k.a.cmd hv)
  · split
    · exact k.set false (k.a.dat hv)
    · split
      · exact k.set true (k.b.cmd hv)
      · exact k.set true (k.b.dat hv)
theorem M2.Ok.line {m : M2} (k : m.Ok) {n : Int} (n0 : 0 ≤ n) (n1 : n < 16) (u : Bool) : (m.line n u).Ok := by
  unfold M2.line
  apply M2.Ok.settle
  split
  · exact k
  · split
    · exact k.set false (k.a.line n0 (by omega) u)
    · exact k.set true (k.b.line (by omega) (by omega) u)
theorem heap_new (w : World) (o : Obj) : (w.alloc o).heap[w.heap.size]? = some o := (MapKept.heap_alloc w o).1
theorem new_cell (w : World) (v : Value) (t : TypeId) : (w.alloc (.cells #[v] t)).cell? ⟨w.heap.size, 0, none⟩ = some v := by
  simp [go_sem]
theorem new_first (w : World) (v : Value) (t : TypeId) (o : Obj) : ((w.alloc (.cells #[v] t)).alloc o).cell? ⟨w.heap.size, 0, none⟩ = some v := by
  rw [World.cell?_alloc_lt _ _ _ (by simp)]; exact new_cell w v t
theorem line_ok (w : World) (B : Nat) (m : M2) (h : PAt w B m) (k : m.Ok) (n : Int) (u : Bool) (n0 : 0 ≤ n) (n1 : n < 16) : Calls Tryz.prog 60 #[.pointer (some ⟨B, 0, none⟩), .int .i64 n, .bool u] w fun e w' => e = .returned (.int .i64 0) ∧ PAt w' B (m.line n u) ∧ Kp (isB B) w w' := by
  have h1 : PAt ((w.alloc (.cells #[.int .i64 n] 3)).alloc (.cells #[.bool u] 4)) B m := (h.alloc _).alloc _
  have c1 := new_first w (.int .i64 n) 3 (.cells #[.bool u] 4)
  have c2 := new_cell (w.alloc (.cells #[.int .i64 n] 3)) (.bool u) 4
  have s1 : (w.alloc (.cells #[.int .i64 n] 3)).heap.size = w.heap.size + 1 := by simp
  rw [s1] at c2
  have k1 : Kp (isB B) w ((w.alloc (.cells #[.int .i64 n] 3)).alloc (.cells #[.bool u] 4)) := (Kp.alloc _ _ _).trans (Kp.alloc _ _ _)
  have H : Hid (Calls Tryz.prog 95 #[.pointer (some ⟨B, 0, none⟩), .int .i64 n, .int .i64 8, .func (.func 110) #[] #[.pointer (some ⟨w.heap.size, 0, none⟩), .pointer (some ⟨w.heap.size + 1, 0, none⟩)]] ((w.alloc (.cells #[.int .i64 n] 3)).alloc (.cells #[.bool u] 4)) fun e w' => e = .returned (.int .i64 0) ∧ PAt w' B (m.line n u) ∧ Kp (isB B) w w') := by
    unfold M2.line
    by_cases e2 : n = 2
    · subst e2
      exact (withL_2 _ B _ _ m h1 k c1).mono fun e w' ⟨a, b, c⟩ => ⟨a, by rw [if_pos rfl]; exact b, k1.trans c⟩
    · by_cases e8 : n < 8
      · rw [if_neg e2, if_pos e8]
        exact (withL_a _ B _ _ m h1 k n n u n0 e8 rfl (by simp [e2]) c1 c2).mono fun e w' ⟨a, b, c⟩ => ⟨a, b, k1.trans c⟩
      · rw [if_neg e2, if_neg e8]
        exact (withL_b _ B _ _ m h1 k (n - 8) n u (by omega) (by omega) (by omega) (by simp [e2]) c1 c2).mono fun e w' ⟨a, b, c⟩ => ⟨a, b, k1.trans c⟩
  have c0 := c1
  clear h1 c1 c2 k1 s1
  go_enter Tryz.func60, Tryz.ntmps60
  go_wp2_with fail
  refine Calls.mono H.out ?_; rintro e w2 ⟨rfl, h2, k2⟩
  go_wp2
  go_ret
  exact ⟨rfl, h2, k2⟩
end Go.Proofs.YtiagfmkinefidaaGreat.Pc
namespace Go.Proofs.YtiagfmkinefidaaGreat.Pc
open Go.RowKit
set_option linter.unusedVariables false
set_option maxRecDepth 20000
theorem tb8_and {a b : Int} (ha : By a) (hb : By b) (i : Nat) : tb (bits .and .u8 a b) i = (tb a i && tb b i) := by
  rw [u8_and a b ha.1 ha.2 hb.1 hb.2]; simp [tb]
theorem tb8_or {a b : Int} (ha : By a) (hb : By b) (i : Nat) : tb (bits .or .u8 a b) i = (tb a i || tb b i) := by
  rw [u8_or a b ha.1 ha.2 hb.1 hb.2]; simp [tb]
theorem tb8_hi {a : Int} (ha : By a) {i : Nat} (h : 8 ≤ i) : tb a i = false := by
  unfold tb
  apply Nat.testBit_lt_two_pow
  have : (2 : Nat) ^ 8 ≤ 2 ^ i := Nat.pow_le_pow_right (by decide) h
  have e : (2 : Nat) ^ 8 = 256 := by decide
  have := ha.1; have := ha.2
  omega
theorem tb8_not {b : Int} (hb : By b) {i : Nat} (hi : i < 8) : tb (255 - b) i = !tb b i := by
  have := hb.1; have := hb.2
  have e : (255 - b).toNat = 2 ^ 8 - (b.toNat + 1) := by
    have : (2 : Nat) ^ 8 = 256 := by decide
    omega
  unfold tb
  rw [e, Nat.testBit_two_pow_sub_succ (by have : (2 : Nat) ^ 8 = 256 := (by decide); omega)]
  simp [hi]
theorem tb8_andNot {a b : Int} (ha : By a) (hb : By b) (i : Nat) : tb (bits .andNot .u8 a b) i = (tb a i && !tb b i) := by
  rw [u8_andNot a b ha.1 ha.2 hb.1 hb.2]
  by_cases hi : i < 8
  · have h := tb8_not hb hi
    have e : (255 - b).toNat = 255 - b.toNat := by have := hb.1; have := hb.2; omega
    unfold tb at h ⊢
    rw [e] at h
    simp [h]
  · have h := tb8_hi ha (i := i) (by omega)
    unfold tb at h ⊢
    simp [h]
theorem tb_pw (n i : Nat) : tb (pw (n : Int)) i = decide (i = n) := by
  unfold pw tb
  rw [show ((n : Int)).toNat = n from rfl, show (((2 ^ n : Nat) : Int)).toNat = 2 ^ n from rfl, Nat.testBit_two_pow]
  simp [eq_comm]
theorem by_ext {a b : Int} (ha : By a) (hb : By b) (h : ∀ i, i < 8 → tb a i = tb b i) : a = b := by
  refine tb_ext ha.1 hb.1 fun i => ?_
  by_cases hi : i < 8
  · exact h i hi
  · rw [tb8_hi ha (by omega), tb8_hi hb (by omega)]
theorem bt_pw {x : Int} (hx : By x) {n : Nat} (hn : n < 8) : bt x (pw (n : Int)) = tb x n := by
  have hp := by_pw (n := (n : Int)) (by omega) (by omega)
  have h := tb8_and hx hp
  unfold bt
  cases e : tb x n
  · have z : bits .and .u8 x (pw (n : Int)) = 0 := by
      refine by_ext (by_and hx hp) ⟨by decide, by decide⟩ fun i hi => ?_
      rw [h i, tb_pw]
      by_cases hin : i = n
      · subst hin; rw [e]; simp [tb]
      · simp [hin, tb]
    rw [z]; rfl
  · have z : ¬ bits .and .u8 x (pw (n : Int)) = 0 := fun z => by
      have := h n
      rw [z, e, tb_pw] at this
      simp [tb] at this
    simpa using z
theorem zero_tb (i : Nat) : tb 0 i = false := by simp [tb]
/-! ### settle -/
theorem settle_asks {m : M2} (h : m.Ok) (k : Nat) : tb m.settle.a.asks k = if k = 2 then (m.b.next != -1) else tb m.a.asks k := by
  have f : By 4 := by_lit 4 (by decide) (by decide)
  have e4 : ∀ k, tb 4 k = decide (k = 2) := fun k => tb_pw 2 k
  show tb (if m.b.next = -1 then bits .andNot .u8 m.a.asks 4 else bits .or .u8 (bits .andNot .u8 m.a.asks 4) 4) k = _
  by_cases g : m.b.next = -1
  · rw [if_pos g, tb8_andNot h.a.asks f, e4, g]
    by_cases hk : k = 2
    · subst hk; simp
    · simp [hk]
  · rw [if_neg g, tb8_or (by_andNot h.a.asks f) f, tb8_andNot h.a.asks f, e4]
    by_cases hk : k = 2
    · subst hk; simp [g]
    · simp [hk]
end Go.Proofs.YtiagfmkinefidaaGreat.Pc
namespace Go.Proofs.YtiagfmkinefidaaGreat.Pc
open Go.ChangeShapes Go.WideShapes Go.ChangeAt Go.RowKit
set_option linter.unusedVariables false
set_option maxRecDepth 20000
structure RC where
  asks : Nat → Bool
  srv : Nat → Bool
  msk : Nat → Bool
  up : Nat → Bool
  base : Int
  told : Bool
  ends : Bool
  wp : Option Addr
  wl : Nat
  wc : Nat
def chV (r : RC) : Array Value := #[.bool (r.asks 0), .bool (r.asks 1), .bool (r.asks 2), .bool (r.asks 3), .bool (r.asks 4), .bool (r.asks 5), .bool (r.asks 6), .bool (r.asks 7), .bool (r.srv 0), .bool (r.srv 1), .bool (r.srv 2), .bool (r.srv 3), .bool (r.srv 4), .bool (r.srv 5), .bool (r.srv 6), .bool (r.srv 7), .bool (r.msk 0), .bool (r.msk 1), .bool (r.msk 2), .bool (r.msk 3), .bool (r.msk 4), .bool (r.msk 5), .bool (r.msk 6), .bool (r.msk 7), .bool (r.up 0), .bool (r.up 1), .bool (r.up 2), .bool (r.up 3), .bool (r.up 4), .bool (r.up 5), .bool (r.up 6), .bool (r.up 7), .int .i64 r.base, .bool r.told, .bool r.ends, .slice r.wp r.wl r.wc]
def RC.zero : RC := ⟨fun _ => false, fun _ => false, fun _ => false, fun _ => false, 0, false, false, none, 0, 0⟩
theorem chV_size (r : RC) : (chV r).size = 36 := rfl
theorem one_chV (r : RC) : ∀ v ∈ (chV r).toList, v.oneCell' = true := by
  intro v hv
  simp only [chV, List.mem_cons, List.not_mem_nil, or_false] at hv
  rcases hv with rfl | rfl | rfl | rfl | rfl | rfl | rfl | rfl | rfl | rfl | rfl | rfl | rfl | rfl | rfl | rfl | rfl | rfl | rfl | rfl | rfl | rfl | rfl | rfl | rfl | rfl | rfl | rfl | rfl | rfl | rfl | rfl | rfl | rfl | rfl | rfl <;> rfl
/-- Whole chips: the type's number and its size are letters. -/
structure VlC (T : TypeId) (n : Nat) (Z : Array Value) (fs : Array Field) (ps : Array (Nat × Nat)) : Prop where
  t : T = 238
  s : n = 36
  z : Z = chV RC.zero
  agg : ∀ w, (isAgg T).run Tryz.prog w = .ok true w
  size : ∀ w, (sizeOf T).run Tryz.prog w = .ok n w
  zero : ∀ w, (zeroValue T).run Tryz.prog w = .ok (.agg Z) w
  under : ∀ w, (underlying T).run Tryz.prog w = .ok (.struct fs) w
  map : ∀ w, (Array.mapM (fun f : Field => Prod.mk f.offset <$> sizeOf f.type) fs).run Tryz.prog w = .ok ps w
  zs : Z.size = n
theorem vlC : ∃ T n Z fs ps, VlC T n Z fs ps :=
  ⟨_, _, _, (match Tryz.prog.underlying 238 with | some (.struct f) => f | _ => #[]), #[(0, 8), (8, 8), (16, 8), (24, 8), (32, 1), (33, 1), (34, 1), (35, 1)], rfl, rfl, rfl, fun w => by kernel_rfl, fun w => by kernel_rfl, fun w => by kernel_rfl, fun w => by kernel_rfl, fun w => by kernel_rfl, rfl⟩
theorem VlC.ops {T : TypeId} {n : Nat} {Z : Array Value} {fs : Array Field} {ps : Array (Nat × Nat)} (h : VlC T n Z fs ps) :
    (∀ x, Op.load 238 x = Op.load T x) ∧ (∀ x y, Op.store 238 x y = Op.store T x y) ∧ Op.alloc 238 = Op.alloc T ∧ ∀ x, Op.box 238 x = Op.box T x := by
  rw [h.t]
  exact ⟨fun _ => rfl, fun _ _ => rfl, rfl, fun _ => rfl⟩
/-- A chip in a block of its own. -/
def CAt (w : World) (q : Nat) (r : RC) : Prop := w.heap[q]? = some (.cells (chV r) 238 (0, 0))
/-- The pair. -/
structure RAt (w : World) (R : Nat) (a b : RC) : Prop where
  blk : w.heap[R]? = some (.cells (chV a ++ chV b) 241 (0, 0))
theorem CAt.kept {S : Nat → Prop} {w w' : World} {q : Nat} {r : RC} (h : CAt w q r) (k : Kp S w w') (hS : ¬ S q) : CAt w' q r := heap_kept h k hS
theorem RAt.kept {S : Nat → Prop} {w w' : World} {R : Nat} {a b : RC} (h : RAt w R a b) (k : Kp S w w') (hS : ¬ S R) : RAt w' R a b := ⟨heap_kept h.blk k hS⟩
theorem RAt.lt {w : World} {R : Nat} {a b : RC} (h : RAt w R a b) : R < w.heap.size := heap_lt h.blk
theorem Kp.setRow {S : Nat → Prop} (w : World) {g : Nat} (hp : S g) (cs : Array Value) : Kp S w (w.setRow g cs) :=
  ⟨rfl, rfl, rfl, by simp [World.setRow], fun k hk hs => setRow_other w g k cs (fun e => hs (e ▸ hp))⟩
section
variable {T : TypeId} {n : Nat} {Z : Array Value} {fs : Array Field} {ps : Array (Nat × Nat)}
theorem VlC.load (h : VlC T n Z fs ps) {w : World} {q o : Nat} {r : RC} (hr : w.rangeAt q o (chV r).toList) : (loadCellsFrom ⟨q, o, none⟩ 0 n #[]).run Tryz.prog w = .ok (chV r) w := by
  have e := run_loadCells_list (P := Tryz.prog) w ⟨q, o, none⟩ (chV r).toList (fun j v hv => by rw [Addr.add_mid]; exact hr j v hv)
  rw [h.s]
  exact e
theorem VlC.get (h : VlC T n Z fs ps) {w : World} {q : Nat} {r : RC} (hq : CAt w q r) : (loadCellsFrom ⟨q, 0, none⟩ 0 n #[]).run Tryz.prog w = .ok (chV r) w :=
  h.load (fun j v hv => by
    rw [cell_of_row w q (0 + j) _ _ _ hq, Nat.zero_add, ← Array.getElem?_toList]
    exact hv)
theorem VlC.getA (h : VlC T n Z fs ps) {w : World} {R : Nat} {a b : RC} (hq : RAt w R a b) : (loadCellsFrom ⟨R, 0, none⟩ 0 n #[]).run Tryz.prog w = .ok (chV a) w :=
  h.load (fun j v hv => by
    rw [cell_of_row w R (0 + j) _ _ _ hq.blk, Nat.zero_add, ← Array.getElem?_toList, Array.toList_append, List.getElem?_append_left (List.getElem?_eq_some_iff.1 hv).1]
    exact hv)
theorem VlC.getB (h : VlC T n Z fs ps) {w : World} {R : Nat} {a b : RC} (hq : RAt w R a b) : (loadCellsFrom ⟨R, 36, none⟩ 0 n #[]).run Tryz.prog w = .ok (chV b) w :=
  h.load (fun j v hv => by
    rw [cell_of_row w R (36 + j) _ _ _ hq.blk, ← Array.getElem?_toList, Array.toList_append, List.getElem?_append_right (by show 36 ≤ 36 + j; omega), show 36 + j - (chV a).toList.length = j by show 36 + j - 36 = j; omega]
    exact hv)
/-- A whole chip into a block of its own. -/
theorem put_ch {w : World} {q : Nat} {c : Array Value} {T : TypeId} (h : w.heap[q]? = some (.cells c T (0, 0))) (hc : c.size = 36) (r : RC) : (storeCells ⟨q, 0, none⟩ (chV r).toList).run Tryz.prog w = .ok () (w.setRow q (chV r)) := by
  have e := run_storeCells_at Tryz.prog q 0 T (chV r).toList 0 c w h (by simp [hc, chV_size]) (one_chV r)
  rw [e]
  have e2 : (List.take (0 + 0) c.toList ++ (chV r).toList ++ List.drop (0 + 0 + (chV r).toList.length) c.toList).toArray = chV r := by
    have h1 : List.drop (0 + 0 + (chV r).toList.length) c.toList = [] := List.drop_eq_nil_of_le (by simp [hc, chV_size])
    rw [h1]
    simp
  rw [e2]
theorem put_A {w : World} {R : Nat} {a b : RC} (h : RAt w R a b) (r : RC) : (storeCells ⟨R, 0, none⟩ (chV r).toList).run Tryz.prog w = .ok () (w.setRow R (chV r ++ chV b)) := by
  have e := run_storeCells_at Tryz.prog R 0 _ (chV r).toList 0 _ w h.blk (by simp [chV_size]) (one_chV r)
  rw [e]
  have e2 : (List.take (0 + 0) (chV a ++ chV b).toList ++ (chV r).toList ++ List.drop (0 + 0 + (chV r).toList.length) (chV a ++ chV b).toList).toArray = chV r ++ chV b := by
    apply Array.ext'
    rw [Array.toList_append, Array.toList_append, Nat.add_zero, List.take_zero, List.nil_append, Nat.zero_add, show (chV r).toList.length = (chV a).toList.length from rfl, List.drop_left]
  rw [e2]
theorem put_B {w : World} {R : Nat} {a b : RC} (h : RAt w R a b) (r : RC) : (storeCells ⟨R, 36, none⟩ (chV r).toList).run Tryz.prog w = .ok () (w.setRow R (chV a ++ chV r)) := by
  have e := run_storeCells_at Tryz.prog R 36 _ (chV r).toList 0 _ w h.blk (by simp [chV_size]) (one_chV r)
  rw [e]
  have e2 : (List.take (36 + 0) (chV a ++ chV b).toList ++ (chV r).toList ++ List.drop (36 + 0 + (chV r).toList.length) (chV a ++ chV b).toList).toArray = chV a ++ chV r := by
    apply Array.ext'
    rw [Array.toList_append, Array.toList_append, Nat.add_zero, show List.drop (36 + (chV r).toList.length) ((chV a).toList ++ (chV b).toList) = [] from List.drop_eq_nil_of_le (by rw [List.length_append]; exact Nat.le_refl 72), show (36 : Nat) = (chV a).toList.length from rfl, List.take_left, List.append_nil]
  rw [e2]
theorem RAt.putA {w : World} {R : Nat} {a b : RC} (h : RAt w R a b) (r : RC) : RAt (w.setRow R (chV r ++ chV b)) R r b := ⟨setRow_heap w R _ _ _ _ h.blk⟩
theorem RAt.putB {w : World} {R : Nat} {a b : RC} (h : RAt w R a b) (r : RC) : RAt (w.setRow R (chV a ++ chV r)) R a r := ⟨setRow_heap w R _ _ _ _ h.blk⟩
/-- A new chip is laid. -/
theorem setRow_alloc (W : World) (c A : Array Value) (T : TypeId) : (W.alloc (.cells c T)).setRow W.heap.size A = W.alloc (.cells A T) := by
  unfold World.setRow World.alloc
  congr 1
  apply Array.ext_getElem?
  intro i
  rw [Array.getElem?_modify]
  by_cases h : W.heap.size = i
  · subst h; simp
  · simp only [h, if_false]
    by_cases h2 : i < W.heap.size
    · rw [Array.getElem?_push_lt h2, Array.getElem?_push_lt h2]
    · rw [Array.getElem?_eq_none (by simp; omega), Array.getElem?_eq_none (by simp; omega)]
theorem VlC.new (h : VlC T n Z fs ps) (r : RC) (W : World) : (storeCells ⟨W.heap.size, 0, none⟩ (chV r).toList).run Tryz.prog (W.alloc (.cells Z T)) = .ok () (W.alloc (.cells (chV r) T)) := by
  rw [← setRow_alloc W Z (chV r) T, h.t]
  exact put_ch (heap_new W (.cells Z 238)) (by rw [h.z]; rfl) r
theorem VlC.at (h : VlC T n Z fs ps) (r : RC) (W : World) : CAt (W.alloc (.cells (chV r) T)) W.heap.size r := by
  rw [h.t]; exact heap_new _ _
end
/-! the cells of a chip -/
theorem ch_asks (r : RC) {k : Nat} (h : k < 8) : (chV r)[k]? = some (.bool (r.asks k)) := by
  rcases (by omega : k = 0 ∨ k = 1 ∨ k = 2 ∨ k = 3 ∨ k = 4 ∨ k = 5 ∨ k = 6 ∨ k = 7) with rfl | rfl | rfl | rfl | rfl | rfl | rfl | rfl <;> rfl
theorem ch_up (r : RC) {k : Nat} (h : k < 8) : (chV r)[24 + k]? = some (.bool (r.up k)) := by
  rcases (by omega : k = 0 ∨ k = 1 ∨ k = 2 ∨ k = 3 ∨ k = 4 ∨ k = 5 ∨ k = 6 ∨ k = 7) with rfl | rfl | rfl | rfl | rfl | rfl | rfl | rfl <;> rfl
def upd (f : Nat → Bool) (k : Nat) (b : Bool) : Nat → Bool := fun j => if j = k then b else f j
theorem set_asks (r : RC) {k : Nat} (h : k < 8) (b : Bool) : (chV r).setIfInBounds k (.bool b) = chV { r with asks := upd r.asks k b } := by
  rcases (by omega : k = 0 ∨ k = 1 ∨ k = 2 ∨ k = 3 ∨ k = 4 ∨ k = 5 ∨ k = 6 ∨ k = 7) with rfl | rfl | rfl | rfl | rfl | rfl | rfl | rfl <;> rfl
theorem set_up (r : RC) {k : Nat} (h : k < 8) (b : Bool) : (chV r).setIfInBounds (24 + k) (.bool b) = chV { r with up := upd r.up k b } := by
  rcases (by omega : k = 0 ∨ k = 1 ∨ k = 2 ∨ k = 3 ∨ k = 4 ∨ k = 5 ∨ k = 6 ∨ k = 7) with rfl | rfl | rfl | rfl | rfl | rfl | rfl | rfl <;> rfl
theorem CAt.cell {w : World} {q : Nat} {r : RC} (h : CAt w q r) {j : Nat} {v : Value} (e : (chV r)[j]? = some v) : w.cell? ⟨q, j, none⟩ = some v := by
  rw [cell_of_row w q j _ _ _ h]; exact e
theorem CAt.fz {w : World} {q : Nat} {r : RC} (h : CAt w q r) (j : Nat) : w.frozen? ⟨q, j, none⟩ = false := frozen_of_row w q j _ _ h
theorem CAt.set {w : World} {q : Nat} {r r' : RC} (h : CAt w q r) {j : Nat} {v : Value} (e : (chV r).setIfInBounds j v = chV r') : CAt (w.setCell ⟨q, j, none⟩ v) q r' := by
  unfold CAt
  rw [heap_set h, e]
theorem RAt.fz {w : World} {R : Nat} {a b : RC} (h : RAt w R a b) (j : Nat) : w.frozen? ⟨R, j, none⟩ = false := frozen_of_row w R j _ _ h.blk
end Go.Proofs.YtiagfmkinefidaaGreat.Pc
namespace Go.Proofs.YtiagfmkinefidaaGreat.Pc
open Go.ChangeShapes Go.WideShapes Go.ChangeAt Go.RowKit
set_option linter.unusedVariables false
set_option maxRecDepth 20000
def m00 : M2 := ⟨ch0, ch0⟩
theorem by0 : By 0 := ⟨by decide, by decide⟩
theorem ch0_ok : ch0.Ok := ⟨by0, by0, by0, by0, by0, by decide, ⟨by decide, by decide⟩⟩
theorem m00_ok : m00.Ok := ⟨ch0_ok, ch0_ok⟩
theorem Kp.and {S : Nat → Prop} {w w1 w2 : World} (h : Kp S w w1) (k : Kp noB w1 w2) : Kp S w w2 := h.trans k.any
end Go.Proofs.YtiagfmkinefidaaGreat.Pc
namespace Go.Proofs.YtiagfmkinefidaaGreat.Pc
open Go.ChangeShapes Go.WideShapes Go.ChangeAt Go.RowKit
set_option linter.unusedVariables false
set_option maxRecDepth 20000
/-- The document's chip and the plain one say the same (of the first chip but for whether line 2 asks). -/
structure Rel (r : RC) (c : Ch) (s : Bool) : Prop where
  asks : ∀ k, k < 8 → (s = true → k ≠ 2) → r.asks k = tb c.asks k
  srv : ∀ k, k < 8 → r.srv k = tb c.srv k
  msk : ∀ k, k < 8 → r.msk k = tb c.msk k
  up : ∀ k, k < 8 → (s = true → k ≠ 2) → r.up k = tb c.up k
  base : r.base = c.base
  told : r.told = c.sh
  ends : r.ends = c.ends
def row8 (f : Nat → Bool) : Array Value := #[.bool (f 0), .bool (f 1), .bool (f 2), .bool (f 3), .bool (f 4), .bool (f 5), .bool (f 6), .bool (f 7)]
/-- Eight bools in a block of their own. -/
def R8 (w : World) (q : Nat) (f : Nat → Bool) : Prop := w.heap[q]? = some (.cells (row8 f) 127 (0, 0))
theorem R8.cells {w : World} {q : Nat} {f : Nat → Bool} (h : R8 w q f) : w.cell? ⟨q, 0, none⟩ = some (.bool (f 0)) ∧ w.cell? ⟨q, 1, none⟩ = some (.bool (f 1)) ∧ w.cell? ⟨q, 2, none⟩ = some (.bool (f 2)) ∧ w.cell? ⟨q, 3, none⟩ = some (.bool (f 3)) ∧ w.cell? ⟨q, 4, none⟩ = some (.bool (f 4)) ∧ w.cell? ⟨q, 5, none⟩ = some (.bool (f 5)) ∧ w.cell? ⟨q, 6, none⟩ = some (.bool (f 6)) ∧ w.cell? ⟨q, 7, none⟩ = some (.bool (f 7)) := by
  refine ⟨?_, ?_, ?_, ?_, ?_, ?_, ?_, ?_⟩ <;> (rw [cell_of_row w q _ _ _ _ h]; rfl)
theorem R8.fz {w : World} {q : Nat} {f : Nat → Bool} (h : R8 w q f) (j : Nat) : w.frozen? ⟨q, j, none⟩ = false := frozen_of_row w q j _ _ h
end Go.Proofs.YtiagfmkinefidaaGreat.Pc
namespace Go.Proofs.YtiagfmkinefidaaGreat.Pc
open Go.ChangeShapes Go.WideShapes Go.ChangeAt Go.RowKit
set_option linter.unusedVariables false
set_option maxRecDepth 20000
theorem Rel.settle {r : RC} {m : M2} (h : Rel r m.a true) (k : m.Ok) : Rel r m.settle.a true :=
  ⟨fun j hj f => by rw [settle_asks k, if_neg (f rfl)]; exact h.asks j hj f, h.srv, h.msk, h.up, h.base, h.told, h.ends⟩
def St2 (m : M2) : Prop := tb m.a.asks 2 = (m.b.next != -1)
/-- What stands for a pair, in the document's memory. -/
structure RM (w : World) (R : Nat) (m : M2) (a b : RC) : Prop where
  at_ : RAt w R a b
  ra : Rel a m.a true
  rb : Rel b m.b false
  ok : m.Ok
  st : St2 m
end Go.Proofs.YtiagfmkinefidaaGreat.Pc
namespace Go.Proofs.YtiagfmkinefidaaGreat.Pc
open Go.RowKit
set_option linter.unusedVariables false
set_option maxRecDepth 20000
theorem line_keep (c : Ch) (k : Int) (u : Bool) : (c.line k u).srv = c.srv ∧ (c.line k u).msk = c.msk ∧ (c.line k u).base = c.base ∧ (c.line k u).due = c.due ∧ (c.line k u).sh = c.sh ∧ (c.line k u).ends = c.ends := by
  unfold Ch.line
  cases u
  · exact ⟨rfl, rfl, rfl, rfl, rfl, rfl⟩
  · rw [if_pos rfl]
    split <;> exact ⟨rfl, rfl, rfl, rfl, rfl, rfl⟩
theorem line_asks {c : Ch} (h : c.Ok) {k : Nat} (hk : k < 8) (u : Bool) (j : Nat) : tb (c.line (k : Int) u).asks j = if j = k then (u && (tb c.asks k || !tb c.up k)) else tb c.asks j := by
  have p := by_pw (n := (k : Int)) (by omega) (by omega)
  unfold Ch.line
  cases u
  · show tb (bits .andNot .u8 c.asks (pw (k : Int))) j = _
    rw [tb8_andNot h.asks p, tb_pw]
    by_cases e : j = k <;> simp [e]
  · rw [if_pos rfl, bt_pw h.up hk]
    cases eu : tb c.up k
    · show tb (bits .or .u8 c.asks (pw (k : Int))) j = _
      rw [tb8_or h.asks p, tb_pw]
      by_cases e : j = k <;> simp [e]
    · show tb c.asks j = _
      by_cases e : j = k <;> simp [e]
theorem line_up {c : Ch} (h : c.Ok) {k : Nat} (hk : k < 8) (u : Bool) (j : Nat) : tb (c.line (k : Int) u).up j = if j = k then u else tb c.up j := by
  have p := by_pw (n := (k : Int)) (by omega) (by omega)
  unfold Ch.line
  cases u
  · show tb (bits .andNot .u8 c.up (pw (k : Int))) j = _
    rw [tb8_andNot h.up p, tb_pw]
    by_cases e : j = k <;> simp [e]
  · rw [if_pos rfl, bt_pw h.up hk]
    cases eu : tb c.up k
    · show tb (bits .or .u8 c.up (pw (k : Int))) j = _
      rw [tb8_or h.up p, tb_pw]
      by_cases e : j = k <;> simp [e]
    · show tb c.up j = _
      by_cases e : j = k <;> simp [e, eu]
/-- The first chip masks all; the line n asks. -/
structure MkI (n : Nat) (m : M2) : Prop where
  ok : m.Ok
  msk : m.a.msk = 255
  srv : m.a.srv = 0
  base : m.a.base = 32
  due : m.a.due = 0
  ends : m.a.ends = false
  asks : tb m.a.asks n = true
theorem MkI.settle {n : Nat} {m : M2} (h : MkI n m) (h2 : n ≠ 2) : MkI n m.settle :=
  ⟨h.ok.settle, h.msk, h.srv, h.base, h.due, h.ends, by rw [settle_asks h.ok, if_neg h2]; exact h.asks⟩
end Go.Proofs.YtiagfmkinefidaaGreat.Pc
namespace Go.Proofs.YtiagfmkinefidaaGreat.Pc
open Go.ChangeShapes Go.WideShapes Go.ChangeAt Go.RowKit
set_option linter.unusedVariables false
set_option maxRecDepth 20000
def RC.line (r : RC) (k : Nat) (u : Bool) : RC := { r with asks := if u then (if r.up k then r.asks else upd r.asks k true) else upd r.asks k false, up := upd r.up k u }
theorem Rel.line {r : RC} {c : Ch} {s : Bool} (h : Rel r c s) (ok : c.Ok) {k : Nat} (hk : k < 8) (h2 : s = true → k ≠ 2) (u : Bool) : Rel (r.line k u) (c.line (k : Int) u) s := by
  obtain ⟨c1, c2, c3, c4, c5, c6⟩ := line_keep c (k : Int) u
  refine ⟨fun j hj f => ?_, fun j hj => by rw [c1]; exact h.srv j hj, fun j hj => by rw [c2]; exact h.msk j hj, fun j hj f => ?_, h.base.trans c3.symm, h.told.trans c5.symm, h.ends.trans c6.symm⟩
  · rw [line_asks ok hk]
    show (if u then (if r.up k then r.asks else upd r.asks k true) else upd r.asks k false) j = _
    rw [h.up k hk h2]
    cases u
    · unfold upd
      by_cases e : j = k
      · simp [e]
      · simp [e, h.asks j hj f]
    · cases eu : tb c.up k
      · unfold upd
        by_cases e : j = k
        · simp [e]
        · simp [e, h.asks j hj f]
      · by_cases e : j = k
        · subst e; simp [h.asks j hj f]
        · simp [e, h.asks j hj f]
  · rw [line_up ok hk]
    show upd r.up k u j = _
    unfold upd
    by_cases e : j = k
    · simp [e]
    · simp [e, h.up j hj f]
section
variable {T : TypeId} {n : Nat} {Z : Array Value} {fs : Array Field} {ps : Array (Nat × Nat)}
theorem VlC.getNew (h : VlC T n Z fs ps) (r : RC) (W : World) : (loadCellsFrom ⟨W.heap.size, 0, none⟩ 0 n #[]).run Tryz.prog (W.alloc (.cells (chV r) T)) = .ok (chV r) (W.alloc (.cells (chV r) T)) := h.get (h.at r W)
end
set_option maxRecDepth 20000 in
set_option maxHeartbeats 1000000 in
theorem rline_a0 (w : World) (R : Nat) (a b : RC) (h : RAt w R a b) (k : Nat) (hk : k < 8) (h2 : k ≠ 2) (x : Int) (hx : x = k) : Calls Tryz.prog 129 #[.pointer (some ⟨R, 0, none⟩), .int .i64 x, .bool false] w fun e w' => e = .returned (.int .i64 0) ∧ RAt w' R ({ asks := upd a.asks k false, srv := a.srv, msk := a.msk, up := upd a.up k false, base := a.base, told := a.told, ends := a.ends, wp := a.wp, wl := a.wl, wc := a.wc : RC }) b ∧ Kp (isB R) w w' := by
  obtain ⟨T, nI, Z, fs, ps, V⟩ := vlC
  obtain ⟨vl, vs, va, vb⟩ := V.ops
  have v1 := V.agg
  have v2 := V.size
  have v3 := V.zero
  have v4 := V.under
  have v5 := V.map
  have v6 := V.zs
  have vG := V.getNew
  have vN := V.new
  have L := V.getA h
  have lR := h.lt
  have HR : Hid (RAt w R a b) := h
  have x0 : 0 ≤ x := by omega
  have x1 : x < 16 := by omega
  have g0 : decide (x < 0) = false := by simp; omega
  have g1 : decide (x > 15) = false := by simp; omega
  have x2 : (x == 2) = false := by simp; omega
  have d1 : x.tdiv 8 = 0 := by rw [Int.tdiv_eq_ediv_of_nonneg x0]; omega
  have d2 : x.tmod 8 = (k : Int) := by rw [Int.tmod_eq_emod_of_nonneg x0]; omega
  have cu : ∀ r : RC, (chV r)[24 + k]? = some (.bool (r.up k)) := fun r => ch_up r hk
  have ca : ∀ r : RC, (chV r)[k]? = some (.bool (r.asks k)) := fun r => ch_asks r hk
  have su : ∀ (r : RC) b, (chV r).setIfInBounds (24 + k) (.bool b) = chV { r with up := upd r.up k b } := fun r b => set_up r hk b
  have sa : ∀ (r : RC) b, (chV r).setIfInBounds k (.bool b) = chV { r with asks := upd r.asks k b } := fun r b => set_asks r hk b
  have cs : ∀ r : RC, (chV r).size = nI := fun r => by rw [V.s]; rfl
  have HV : Hid (VlC T nI Z fs ps) := V
  clear h hx V
  go_enter Tryz.func129, Tryz.ntmps129
  simp only [vl, vs, va]
  clear vl vs va vb
  go_wp2
  have h1 : Hid (RAt (w.alloc (.cells (chV ({ asks := upd a.asks k false, srv := a.srv, msk := a.msk, up := upd a.up k false, base := a.base, told := a.told, ends := a.ends, wp := a.wp, wl := a.wl, wc := a.wc : RC })) T)) R a b) := HR.out.kept (Kp.alloc noB _ _) id
  have h2 : Hid (CAt (w.alloc (.cells (chV ({ asks := upd a.asks k false, srv := a.srv, msk := a.msk, up := upd a.up k false, base := a.base, told := a.told, ends := a.ends, wp := a.wp, wl := a.wl, wc := a.wc : RC })) T)) w.heap.size ({ asks := upd a.asks k false, srv := a.srv, msk := a.msk, up := upd a.up k false, base := a.base, told := a.told, ends := a.ends, wp := a.wp, wl := a.wl, wc := a.wc : RC })) := HV.out.at _ w
  have k1 : Hid (Kp (isB R) w (w.alloc (.cells (chV ({ asks := upd a.asks k false, srv := a.srv, msk := a.msk, up := upd a.up k false, base := a.base, told := a.told, ends := a.ends, wp := a.wp, wl := a.wl, wc := a.wc : RC })) T))) := Kp.alloc _ _ _
  clear vG vN L lR
  generalize w.alloc (.cells (chV ({ asks := upd a.asks k false, srv := a.srv, msk := a.msk, up := upd a.up k false, base := a.base, told := a.told, ends := a.ends, wp := a.wp, wl := a.wl, wc := a.wc : RC })) T) = w1 at h1 h2 k1 ⊢
  have L1 := HV.out.get h2.out
  have L2 := HV.out.get (h2.out.kept (Kp.refl noB w1).drew id)
  have S1 := put_A h1.out ({ asks := upd a.asks k false, srv := a.srv, msk := a.msk, up := upd a.up k false, base := a.base, told := a.told, ends := a.ends, wp := a.wp, wl := a.wl, wc := a.wc : RC })
  have S2 := put_A (h1.out.kept (Kp.refl noB w1).drew id) ({ asks := upd a.asks k false, srv := a.srv, msk := a.msk, up := upd a.up k false, base := a.base, told := a.told, ends := a.ends, wp := a.wp, wl := a.wl, wc := a.wc : RC })
  have E1 : Hid (RAt (w1.setRow R (chV ({ asks := upd a.asks k false, srv := a.srv, msk := a.msk, up := upd a.up k false, base := a.base, told := a.told, ends := a.ends, wp := a.wp, wl := a.wl, wc := a.wc : RC }) ++ chV b)) R ({ asks := upd a.asks k false, srv := a.srv, msk := a.msk, up := upd a.up k false, base := a.base, told := a.told, ends := a.ends, wp := a.wp, wl := a.wl, wc := a.wc : RC }) b) := h1.out.putA _
  have E2 : Hid (RAt (w1.drew.setRow R (chV ({ asks := upd a.asks k false, srv := a.srv, msk := a.msk, up := upd a.up k false, base := a.base, told := a.told, ends := a.ends, wp := a.wp, wl := a.wl, wc := a.wc : RC }) ++ chV b)) R ({ asks := upd a.asks k false, srv := a.srv, msk := a.msk, up := upd a.up k false, base := a.base, told := a.told, ends := a.ends, wp := a.wp, wl := a.wl, wc := a.wc : RC }) b) := (h1.out.kept (Kp.refl noB w1).drew id).putA _
  go_region
  all_goals
    go_wp2
    go_ret
    first
      | exact ⟨rfl, E1.out, k1.out.trans (Kp.setRow (S := isB R) _ rfl _)⟩
      | exact ⟨rfl, E1.out.kept (Kp.refl noB _).drew id, (k1.out.trans (Kp.setRow (S := isB R) _ rfl _)).drew⟩
      | exact ⟨rfl, E2.out, k1.out.drew.trans (Kp.setRow (S := isB R) _ rfl _)⟩
set_option maxRecDepth 20000 in
set_option maxHeartbeats 1000000 in
theorem rline_a1 (w : World) (R : Nat) (a b : RC) (h : RAt w R a b) (k : Nat) (hk : k < 8) (h2 : k ≠ 2) (x : Int) (hx : x = k) (hu : a.up k = false) : Calls Tryz.prog 129 #[.pointer (some ⟨R, 0, none⟩), .int .i64 x, .bool true] w fun e w' => e = .returned (.int .i64 0) ∧ RAt w' R ({ asks := upd a.asks k true, srv := a.srv, msk := a.msk, up := upd a.up k true, base := a.base, told := a.told, ends := a.ends, wp := a.wp, wl := a.wl, wc := a.wc : RC }) b ∧ Kp (isB R) w w' := by
  obtain ⟨T, nI, Z, fs, ps, V⟩ := vlC
  obtain ⟨vl, vs, va, vb⟩ := V.ops
  have v1 := V.agg
  have v2 := V.size
  have v3 := V.zero
  have v4 := V.under
  have v5 := V.map
  have v6 := V.zs
  have vG := V.getNew
  have vN := V.new
  have L := V.getA h
  have lR := h.lt
  have HR : Hid (RAt w R a b) := h
  have x0 : 0 ≤ x := by omega
  have x1 : x < 16 := by omega
  have g0 : decide (x < 0) = false := by simp; omega
  have g1 : decide (x > 15) = false := by simp; omega
  have x2 : (x == 2) = false := by simp; omega
  have d1 : x.tdiv 8 = 0 := by rw [Int.tdiv_eq_ediv_of_nonneg x0]; omega
  have d2 : x.tmod 8 = (k : Int) := by rw [Int.tmod_eq_emod_of_nonneg x0]; omega
  have cu : ∀ r : RC, (chV r)[24 + k]? = some (.bool (r.up k)) := fun r => ch_up r hk
  have ca : ∀ r : RC, (chV r)[k]? = some (.bool (r.asks k)) := fun r => ch_asks r hk
  have su : ∀ (r : RC) b, (chV r).setIfInBounds (24 + k) (.bool b) = chV { r with up := upd r.up k b } := fun r b => set_up r hk b
  have sa : ∀ (r : RC) b, (chV r).setIfInBounds k (.bool b) = chV { r with asks := upd r.asks k b } := fun r b => set_asks r hk b
  have cs : ∀ r : RC, (chV r).size = nI := fun r => by rw [V.s]; rfl
  have HV : Hid (VlC T nI Z fs ps) := V
  clear h hx V
  go_enter Tryz.func129, Tryz.ntmps129
  simp only [vl, vs, va]
  clear vl vs va vb
  go_wp2
  have h1 : Hid (RAt (w.alloc (.cells (chV ({ asks := upd a.asks k true, srv := a.srv, msk := a.msk, up := upd a.up k true, base := a.base, told := a.told, ends := a.ends, wp := a.wp, wl := a.wl, wc := a.wc : RC })) T)) R a b) := HR.out.kept (Kp.alloc noB _ _) id
  have h2 : Hid (CAt (w.alloc (.cells (chV ({ asks := upd a.asks k true, srv := a.srv, msk := a.msk, up := upd a.up k true, base := a.base, told := a.told, ends := a.ends, wp := a.wp, wl := a.wl, wc := a.wc : RC })) T)) w.heap.size ({ asks := upd a.asks k true, srv := a.srv, msk := a.msk, up := upd a.up k true, base := a.base, told := a.told, ends := a.ends, wp := a.wp, wl := a.wl, wc := a.wc : RC })) := HV.out.at _ w
  have k1 : Hid (Kp (isB R) w (w.alloc (.cells (chV ({ asks := upd a.asks k true, srv := a.srv, msk := a.msk, up := upd a.up k true, base := a.base, told := a.told, ends := a.ends, wp := a.wp, wl := a.wl, wc := a.wc : RC })) T))) := Kp.alloc _ _ _
  clear vG vN L lR
  generalize w.alloc (.cells (chV ({ asks := upd a.asks k true, srv := a.srv, msk := a.msk, up := upd a.up k true, base := a.base, told := a.told, ends := a.ends, wp := a.wp, wl := a.wl, wc := a.wc : RC })) T) = w1 at h1 h2 k1 ⊢
  have L1 := HV.out.get h2.out
  have L2 := HV.out.get (h2.out.kept (Kp.refl noB w1).drew id)
  have S1 := put_A h1.out ({ asks := upd a.asks k true, srv := a.srv, msk := a.msk, up := upd a.up k true, base := a.base, told := a.told, ends := a.ends, wp := a.wp, wl := a.wl, wc := a.wc : RC })
  have S2 := put_A (h1.out.kept (Kp.refl noB w1).drew id) ({ asks := upd a.asks k true, srv := a.srv, msk := a.msk, up := upd a.up k true, base := a.base, told := a.told, ends := a.ends, wp := a.wp, wl := a.wl, wc := a.wc : RC })
  have E1 : Hid (RAt (w1.setRow R (chV ({ asks := upd a.asks k true, srv := a.srv, msk := a.msk, up := upd a.up k true, base := a.base, told := a.told, ends := a.ends, wp := a.wp, wl := a.wl, wc := a.wc : RC }) ++ chV b)) R ({ asks := upd a.asks k true, srv := a.srv, msk := a.msk, up := upd a.up k true, base := a.base, told := a.told, ends := a.ends, wp := a.wp, wl := a.wl, wc := a.wc : RC }) b) := h1.out.putA _
  have E2 : Hid (RAt (w1.drew.setRow R (chV ({ asks := upd a.asks k true, srv := a.srv, msk := a.msk, up := upd a.up k true, base := a.base, told := a.told, ends := a.ends, wp := a.wp, wl := a.wl, wc := a.wc : RC }) ++ chV b)) R ({ asks := upd a.asks k true, srv := a.srv, msk := a.msk, up := upd a.up k true, base := a.base, told := a.told, ends := a.ends, wp := a.wp, wl := a.wl, wc := a.wc : RC }) b) := (h1.out.kept (Kp.refl noB w1).drew id).putA _
  go_region
  all_goals
    go_wp2
    go_ret
    first
      | exact ⟨rfl, E1.out, k1.out.trans (Kp.setRow (S := isB R) _ rfl _)⟩
      | exact ⟨rfl, E1.out.kept (Kp.refl noB _).drew id, (k1.out.trans (Kp.setRow (S := isB R) _ rfl _)).drew⟩
      | exact ⟨rfl, E2.out, k1.out.drew.trans (Kp.setRow (S := isB R) _ rfl _)⟩
set_option maxRecDepth 20000 in
set_option maxHeartbeats 1000000 in
theorem rline_a2 (w : World) (R : Nat) (a b : RC) (h : RAt w R a b) (k : Nat) (hk : k < 8) (h2 : k ≠ 2) (x : Int) (hx : x = k) (hu : a.up k = true) : Calls Tryz.prog 129 #[.pointer (some ⟨R, 0, none⟩), .int .i64 x, .bool true] w fun e w' => e = .returned (.int .i64 0) ∧ RAt w' R ({ asks := a.asks, srv := a.srv, msk := a.msk, up := upd a.up k true, base := a.base, told := a.told, ends := a.ends, wp := a.wp, wl := a.wl, wc := a.wc : RC }) b ∧ Kp (isB R) w w' := by
  obtain ⟨T, nI, Z, fs, ps, V⟩ := vlC
  obtain ⟨vl, vs, va, vb⟩ := V.ops
  have v1 := V.agg
  have v2 := V.size
  have v3 := V.zero
  have v4 := V.under
  have v5 := V.map
  have v6 := V.zs
  have vG := V.getNew
  have vN := V.new
  have L := V.getA h
  have lR := h.lt
  have HR : Hid (RAt w R a b) := h
  have x0 : 0 ≤ x := by omega
  have x1 : x < 16 := by omega
  have g0 : decide (x < 0) = false := by simp; omega
  have g1 : decide (x > 15) = false := by simp; omega
  have x2 : (x == 2) = false := by simp; omega
  have d1 : x.tdiv 8 = 0 := by rw [Int.tdiv_eq_ediv_of_nonneg x0]; omega
  have d2 : x.tmod 8 = (k : Int) := by rw [Int.tmod_eq_emod_of_nonneg x0]; omega
  have cu : ∀ r : RC, (chV r)[24 + k]? = some (.bool (r.up k)) := fun r => ch_up r hk
  have ca : ∀ r : RC, (chV r)[k]? = some (.bool (r.asks k)) := fun r => ch_asks r hk
  have su : ∀ (r : RC) b, (chV r).setIfInBounds (24 + k) (.bool b) = chV { r with up := upd r.up k b } := fun r b => set_up r hk b
  have sa : ∀ (r : RC) b, (chV r).setIfInBounds k (.bool b) = chV { r with asks := upd r.asks k b } := fun r b => set_asks r hk b
  have cs : ∀ r : RC, (chV r).size = nI := fun r => by rw [V.s]; rfl
  have HV : Hid (VlC T nI Z fs ps) := V
  clear h hx V
  go_enter Tryz.func129, Tryz.ntmps129
  simp only [vl, vs, va]
  clear vl vs va vb
  go_wp2
  have h1 : Hid (RAt (w.alloc (.cells (chV ({ asks := a.asks, srv := a.srv, msk := a.msk, up := upd a.up k true, base := a.base, told := a.told, ends := a.ends, wp := a.wp, wl := a.wl, wc := a.wc : RC })) T)) R a b) := HR.out.kept (Kp.alloc noB _ _) id
  have h2 : Hid (CAt (w.alloc (.cells (chV ({ asks := a.asks, srv := a.srv, msk := a.msk, up := upd a.up k true, base := a.base, told := a.told, ends := a.ends, wp := a.wp, wl := a.wl, wc := a.wc : RC })) T)) w.heap.size ({ asks := a.asks, srv := a.srv, msk := a.msk, up := upd a.up k true, base := a.base, told := a.told, ends := a.ends, wp := a.wp, wl := a.wl, wc := a.wc : RC })) := HV.out.at _ w
  have k1 : Hid (Kp (isB R) w (w.alloc (.cells (chV ({ asks := a.asks, srv := a.srv, msk := a.msk, up := upd a.up k true, base := a.base, told := a.told, ends := a.ends, wp := a.wp, wl := a.wl, wc := a.wc : RC })) T))) := Kp.alloc _ _ _
  clear vG vN L lR
  generalize w.alloc (.cells (chV ({ asks := a.asks, srv := a.srv, msk := a.msk, up := upd a.up k true, base := a.base, told := a.told, ends := a.ends, wp := a.wp, wl := a.wl, wc := a.wc : RC })) T) = w1 at h1 h2 k1 ⊢
  have L1 := HV.out.get h2.out
  have L2 := HV.out.get (h2.out.kept (Kp.refl noB w1).drew id)
  have S1 := put_A h1.out ({ asks := a.asks, srv := a.srv, msk := a.msk, up := upd a.up k true, base := a.base, told := a.told, ends := a.ends, wp := a.wp, wl := a.wl, wc := a.wc : RC })
  have S2 := put_A (h1.out.kept (Kp.refl noB w1).drew id) ({ asks := a.asks, srv := a.srv, msk := a.msk, up := upd a.up k true, base := a.base, told := a.told, ends := a.ends, wp := a.wp, wl := a.wl, wc := a.wc : RC })
  have E1 : Hid (RAt (w1.setRow R (chV ({ asks := a.asks, srv := a.srv, msk := a.msk, up := upd a.up k true, base := a.base, told := a.told, ends := a.ends, wp := a.wp, wl := a.wl, wc := a.wc : RC }) ++ chV b)) R ({ asks := a.asks, srv := a.srv, msk := a.msk, up := upd a.up k true, base := a.base, told := a.told, ends := a.ends, wp := a.wp, wl := a.wl, wc := a.wc : RC }) b) := h1.out.putA _
  have E2 : Hid (RAt (w1.drew.setRow R (chV ({ asks := a.asks, srv := a.srv, msk := a.msk, up := upd a.up k true, base := a.base, told := a.told, ends := a.ends, wp := a.wp, wl := a.wl, wc := a.wc : RC }) ++ chV b)) R ({ asks := a.asks, srv := a.srv, msk := a.msk, up := upd a.up k true, base := a.base, told := a.told, ends := a.ends, wp := a.wp, wl := a.wl, wc := a.wc : RC }) b) := (h1.out.kept (Kp.refl noB w1).drew id).putA _
  go_region
  all_goals
    go_wp2
    go_ret
    first
      | exact ⟨rfl, E1.out, k1.out.trans (Kp.setRow (S := isB R) _ rfl _)⟩
      | exact ⟨rfl, E1.out.kept (Kp.refl noB _).drew id, (k1.out.trans (Kp.setRow (S := isB R) _ rfl _)).drew⟩
      | exact ⟨rfl, E2.out, k1.out.drew.trans (Kp.setRow (S := isB R) _ rfl _)⟩
set_option maxRecDepth 20000 in
set_option maxHeartbeats 1000000 in
theorem rline_b0 (w : World) (R : Nat) (a b : RC) (h : RAt w R a b) (k : Nat) (hk : k < 8) (x : Int) (hx : x = k + 8) : Calls Tryz.prog 129 #[.pointer (some ⟨R, 0, none⟩), .int .i64 x, .bool false] w fun e w' => e = .returned (.int .i64 0) ∧ RAt w' R a ({ asks := upd b.asks k false, srv := b.srv, msk := b.msk, up := upd b.up k false, base := b.base, told := b.told, ends := b.ends, wp := b.wp, wl := b.wl, wc := b.wc : RC }) ∧ Kp (isB R) w w' := by
  obtain ⟨T, nI, Z, fs, ps, V⟩ := vlC
  obtain ⟨vl, vs, va, vb⟩ := V.ops
  have v1 := V.agg
  have v2 := V.size
  have v3 := V.zero
  have v4 := V.under
  have v5 := V.map
  have v6 := V.zs
  have vG := V.getNew
  have vN := V.new
  have L := V.getB h
  have lR := h.lt
  have HR : Hid (RAt w R a b) := h
  have x0 : 0 ≤ x := by omega
  have x1 : x < 16 := by omega
  have g0 : decide (x < 0) = false := by simp; omega
  have g1 : decide (x > 15) = false := by simp; omega
  have x2 : (x == 2) = false := by simp; omega
  have d1 : x.tdiv 8 = 1 := by rw [Int.tdiv_eq_ediv_of_nonneg x0]; omega
  have d2 : x.tmod 8 = (k : Int) := by rw [Int.tmod_eq_emod_of_nonneg x0]; omega
  have cu : ∀ r : RC, (chV r)[24 + k]? = some (.bool (r.up k)) := fun r => ch_up r hk
  have ca : ∀ r : RC, (chV r)[k]? = some (.bool (r.asks k)) := fun r => ch_asks r hk
  have su : ∀ (r : RC) b, (chV r).setIfInBounds (24 + k) (.bool b) = chV { r with up := upd r.up k b } := fun r b => set_up r hk b
  have sa : ∀ (r : RC) b, (chV r).setIfInBounds k (.bool b) = chV { r with asks := upd r.asks k b } := fun r b => set_asks r hk b
  have cs : ∀ r : RC, (chV r).size = nI := fun r => by rw [V.s]; rfl
  have HV : Hid (VlC T nI Z fs ps) := V
  clear h hx V
  go_enter Tryz.func129, Tryz.ntmps129
  simp only [vl, vs, va]
  clear vl vs va vb
  go_wp2
  have h1 : Hid (RAt (w.alloc (.cells (chV ({ asks := upd b.asks k false, srv := b.srv, msk := b.msk, up := upd b.up k false, base := b.base, told := b.told, ends := b.ends, wp := b.wp, wl := b.wl, wc := b.wc : RC })) T)) R a b) := HR.out.kept (Kp.alloc noB _ _) id
  have h2 : Hid (CAt (w.alloc (.cells (chV ({ asks := upd b.asks k false, srv := b.srv, msk := b.msk, up := upd b.up k false, base := b.base, told := b.told, ends := b.ends, wp := b.wp, wl := b.wl, wc := b.wc : RC })) T)) w.heap.size ({ asks := upd b.asks k false, srv := b.srv, msk := b.msk, up := upd b.up k false, base := b.base, told := b.told, ends := b.ends, wp := b.wp, wl := b.wl, wc := b.wc : RC })) := HV.out.at _ w
  have k1 : Hid (Kp (isB R) w (w.alloc (.cells (chV ({ asks := upd b.asks k false, srv := b.srv, msk := b.msk, up := upd b.up k false, base := b.base, told := b.told, ends := b.ends, wp := b.wp, wl := b.wl, wc := b.wc : RC })) T))) := Kp.alloc _ _ _
  clear vG vN L lR
  generalize w.alloc (.cells (chV ({ asks := upd b.asks k false, srv := b.srv, msk := b.msk, up := upd b.up k false, base := b.base, told := b.told, ends := b.ends, wp := b.wp, wl := b.wl, wc := b.wc : RC })) T) = w1 at h1 h2 k1 ⊢
  have L1 := HV.out.get h2.out
  have L2 := HV.out.get (h2.out.kept (Kp.refl noB w1).drew id)
  have S1 := put_B h1.out ({ asks := upd b.asks k false, srv := b.srv, msk := b.msk, up := upd b.up k false, base := b.base, told := b.told, ends := b.ends, wp := b.wp, wl := b.wl, wc := b.wc : RC })
  have S2 := put_B (h1.out.kept (Kp.refl noB w1).drew id) ({ asks := upd b.asks k false, srv := b.srv, msk := b.msk, up := upd b.up k false, base := b.base, told := b.told, ends := b.ends, wp := b.wp, wl := b.wl, wc := b.wc : RC })
  have E1 : Hid (RAt (w1.setRow R (chV a ++ chV ({ asks := upd b.asks k false, srv := b.srv, msk := b.msk, up := upd b.up k false, base := b.base, told := b.told, ends := b.ends, wp := b.wp, wl := b.wl, wc := b.wc : RC }))) R a ({ asks := upd b.asks k false, srv := b.srv, msk := b.msk, up := upd b.up k false, base := b.base, told := b.told, ends := b.ends, wp := b.wp, wl := b.wl, wc := b.wc : RC })) := h1.out.putB _
  have E2 : Hid (RAt (w1.drew.setRow R (chV a ++ chV ({ asks := upd b.asks k false, srv := b.srv, msk := b.msk, up := upd b.up k false, base := b.base, told := b.told, ends := b.ends, wp := b.wp, wl := b.wl, wc := b.wc : RC }))) R a ({ asks := upd b.asks k false, srv := b.srv, msk := b.msk, up := upd b.up k false, base := b.base, told := b.told, ends := b.ends, wp := b.wp, wl := b.wl, wc := b.wc : RC })) := (h1.out.kept (Kp.refl noB w1).drew id).putB _
  go_region
  all_goals
    go_wp2
    go_ret
    first
      | exact ⟨rfl, E1.out, k1.out.trans (Kp.setRow (S := isB R) _ rfl _)⟩
      | exact ⟨rfl, E1.out.kept (Kp.refl noB _).drew id, (k1.out.trans (Kp.setRow (S := isB R) _ rfl _)).drew⟩
      | exact ⟨rfl, E2.out, k1.out.drew.trans (Kp.setRow (S := isB R) _ rfl _)⟩
set_option maxRecDepth 20000 in
set_option maxHeartbeats 1000000 in
theorem rline_b1 (w : World) (R : Nat) (a b : RC) (h : RAt w R a b) (k : Nat) (hk : k < 8) (x : Int) (hx : x = k + 8) (hu : b.up k = false) : Calls Tryz.prog 129 #[.pointer (some ⟨R, 0, none⟩), .int .i64 x, .bool true] w fun e w' => e = .returned (.int .i64 0) ∧ RAt w' R a ({ asks := upd b.asks k true, srv := b.srv, msk := b.msk, up := upd b.up k true, base := b.base, told := b.told, ends := b.ends, wp := b.wp, wl := b.wl, wc := b.wc : RC }) ∧ Kp (isB R) w w' := by
  obtain ⟨T, nI, Z, fs, ps, V⟩ := vlC
  obtain ⟨vl, vs, va, vb⟩ := V.ops
  have v1 := V.agg
  have v2 := V.size
  have v3 := V.zero
  have v4 := V.under
  have v5 := V.map
  have v6 := V.zs
  have vG := V.getNew
  have vN := V.new
  have L := V.getB h
  have lR := h.lt
  have HR : Hid (RAt w R a b) := h
  have x0 : 0 ≤ x := by omega
  have x1 : x < 16 := by omega
  have g0 : decide (x < 0) = false := by simp; omega
  have g1 : decide (x > 15) = false := by simp; omega
  have x2 : (x == 2) = false := by simp; omega
  have d1 : x.tdiv 8 = 1 := by rw [Int.tdiv_eq_ediv_of_nonneg x0]; omega
  have d2 : x.tmod 8 = (k : Int) := by rw [Int.tmod_eq_emod_of_nonneg x0]; omega
  have cu : ∀ r : RC, (chV r)[24 + k]? = some (.bool (r.up k)) := fun r => ch_up r hk
  have ca : ∀ r : RC, (chV r)[k]? = some (.bool (r.asks k)) := fun r => ch_asks r hk
  have su : ∀ (r : RC) b, (chV r).setIfInBounds (24 + k) (.bool b) = chV { r with up := upd r.up k b } := fun r b => set_up r hk b
  have sa : ∀ (r : RC) b, (chV r).setIfInBounds k (.bool b) = chV { r with asks := upd r.asks k b } := fun r b => set_asks r hk b
  have cs : ∀ r : RC, (chV r).size = nI := fun r => by rw [V.s]; rfl
  have HV : Hid (VlC T nI Z fs ps) := V
  clear h hx V
  go_enter Tryz.func129, Tryz.ntmps129
  simp only [vl, vs, va]
  clear vl vs va vb
  go_wp2
  have h1 : Hid (RAt (w.alloc (.cells (chV ({ asks := upd b.asks k true, srv := b.srv, msk := b.msk, up := upd b.up k true, base := b.base, told := b.told, ends := b.ends, wp := b.wp, wl := b.wl, wc := b.wc : RC })) T)) R a b) := HR.out.kept (Kp.alloc noB _ _) id
  have h2 : Hid (CAt (w.alloc (.cells (chV ({ asks := upd b.asks k true, srv := b.srv, msk := b.msk, up := upd b.up k true, base := b.base, told := b.told, ends := b.ends, wp := b.wp, wl := b.wl, wc := b.wc : RC })) T)) w.heap.size ({ asks := upd b.asks k true, srv := b.srv, msk := b.msk, up := upd b.up k true, base := b.base, told := b.told, ends := b.ends, wp := b.wp, wl := b.wl, wc := b.wc : RC })) := HV.out.at _ w
  have k1 : Hid (Kp (isB R) w (w.alloc (.cells (chV ({ asks := upd b.asks k true, srv := b.srv, msk := b.msk, up := upd b.up k true, base := b.base, told := b.told, ends := b.ends, wp := b.wp, wl := b.wl, wc := b.wc : RC })) T))) := Kp.alloc _ _ _
  clear vG vN L lR
  generalize w.alloc (.cells (chV ({ asks := upd b.asks k true, srv := b.srv, msk := b.msk, up := upd b.up k true, base := b.base, told := b.told, ends := b.ends, wp := b.wp, wl := b.wl, wc := b.wc : RC })) T) = w1 at h1 h2 k1 ⊢
  have L1 := HV.out.get h2.out
  have L2 := HV.out.get (h2.out.kept (Kp.refl noB w1).drew id)
  have S1 := put_B h1.out ({ asks := upd b.asks k true, srv := b.srv, msk := b.msk, up := upd b.up k true, base := b.base, told := b.told, ends := b.ends, wp := b.wp, wl := b.wl, wc := b.wc : RC })
  have S2 := put_B (h1.out.kept (Kp.refl noB w1).drew id) ({ asks := upd b.asks k true, srv := b.srv, msk := b.msk, up := upd b.up k true, base := b.base, told := b.told, ends := b.ends, wp := b.wp, wl := b.wl, wc := b.wc : RC })
  have E1 : Hid (RAt (w1.setRow R (chV a ++ chV ({ asks := upd b.asks k true, srv := b.srv, msk := b.msk, up := upd b.up k true, base := b.base, told := b.told, ends := b.ends, wp := b.wp, wl := b.wl, wc := b.wc : RC }))) R a ({ asks := upd b.asks k true, srv := b.srv, msk := b.msk, up := upd b.up k true, base := b.base, told := b.told, ends := b.ends, wp := b.wp, wl := b.wl, wc := b.wc : RC })) := h1.out.putB _
  have E2 : Hid (RAt (w1.drew.setRow R (chV a ++ chV ({ asks := upd b.asks k true, srv := b.srv, msk := b.msk, up := upd b.up k true, base := b.base, told := b.told, ends := b.ends, wp := b.wp, wl := b.wl, wc := b.wc : RC }))) R a ({ asks := upd b.asks k true, srv := b.srv, msk := b.msk, up := upd b.up k true, base := b.base, told := b.told, ends := b.ends, wp := b.wp, wl := b.wl, wc := b.wc : RC })) := (h1.out.kept (Kp.refl noB w1).drew id).putB _
  go_region
  all_goals
    go_wp2
    go_ret
    first
      | exact ⟨rfl, E1.out, k1.out.trans (Kp.setRow (S := isB R) _ rfl _)⟩
      | exact ⟨rfl, E1.out.kept (Kp.refl noB _).drew id, (k1.out.trans (Kp.setRow (S := isB R) _ rfl _)).drew⟩
      | exact ⟨rfl, E2.out, k1.out.drew.trans (Kp.setRow (S := isB R) _ rfl _)⟩
set_option maxRecDepth 20000 in
set_option maxHeartbeats 1000000 in
theorem rline_b2 (w : World) (R : Nat) (a b : RC) (h : RAt w R a b) (k : Nat) (hk : k < 8) (x : Int) (hx : x = k + 8) (hu : b.up k = true) : Calls Tryz.prog 129 #[.pointer (some ⟨R, 0, none⟩), .int .i64 x, .bool true] w fun e w' => e = .returned (.int .i64 0) ∧ RAt w' R a ({ asks := b.asks, srv := b.srv, msk := b.msk, up := upd b.up k true, base := b.base, told := b.told, ends := b.ends, wp := b.wp, wl := b.wl, wc := b.wc : RC }) ∧ Kp (isB R) w w' := by
  obtain ⟨T, nI, Z, fs, ps, V⟩ := vlC
  obtain ⟨vl, vs, va, vb⟩ := V.ops
  have v1 := V.agg
  have v2 := V.size
  have v3 := V.zero
  have v4 := V.under
  have v5 := V.map
  have v6 := V.zs
  have vG := V.getNew
  have vN := V.new
  have L := V.getB h
  have lR := h.lt
  have HR : Hid (RAt w R a b) := h
  have x0 : 0 ≤ x := by omega
  have x1 : x < 16 := by omega
  have g0 : decide (x < 0) = false := by simp; omega
  have g1 : decide (x > 15) = false := by simp; omega
  have x2 : (x == 2) = false := by simp; omega
  have d1 : x.tdiv 8 = 1 := by rw [Int.tdiv_eq_ediv_of_nonneg x0]; omega
  have d2 : x.tmod 8 = (k : Int) := by rw [Int.tmod_eq_emod_of_nonneg x0]; omega
  have cu : ∀ r : RC, (chV r)[24 + k]? = some (.bool (r.up k)) := fun r => ch_up r hk
  have ca : ∀ r : RC, (chV r)[k]? = some (.bool (r.asks k)) := fun r => ch_asks r hk
  have su : ∀ (r : RC) b, (chV r).setIfInBounds (24 + k) (.bool b) = chV { r with up := upd r.up k b } := fun r b => set_up r hk b
  have sa : ∀ (r : RC) b, (chV r).setIfInBounds k (.bool b) = chV { r with asks := upd r.asks k b } := fun r b => set_asks r hk b
  have cs : ∀ r : RC, (chV r).size = nI := fun r => by rw [V.s]; rfl
  have HV : Hid (VlC T nI Z fs ps) := V
  clear h hx V
  go_enter Tryz.func129, Tryz.ntmps129
  simp only [vl, vs, va]
  clear vl vs va vb
  go_wp2
  have h1 : Hid (RAt (w.alloc (.cells (chV ({ asks := b.asks, srv := b.srv, msk := b.msk, up := upd b.up k true, base := b.base, told := b.told, ends := b.ends, wp := b.wp, wl := b.wl, wc := b.wc : RC })) T)) R a b) := HR.out.kept (Kp.alloc noB _ _) id
  have h2 : Hid (CAt (w.alloc (.cells (chV ({ asks := b.asks, srv := b.srv, msk := b.msk, up := upd b.up k true, base := b.base, told := b.told, ends := b.ends, wp := b.wp, wl := b.wl, wc := b.wc : RC })) T)) w.heap.size ({ asks := b.asks, srv := b.srv, msk := b.msk, up := upd b.up k true, base := b.base, told := b.told, ends := b.ends, wp := b.wp, wl := b.wl, wc := b.wc : RC })) := HV.out.at _ w
  have k1 : Hid (Kp (isB R) w (w.alloc (.cells (chV ({ asks := b.asks, srv := b.srv, msk := b.msk, up := upd b.up k true, base := b.base, told := b.told, ends := b.ends, wp := b.wp, wl := b.wl, wc := b.wc : RC })) T))) := Kp.alloc _ _ _
  clear vG vN L lR
  generalize w.alloc (.cells (chV ({ asks := b.asks, srv := b.srv, msk := b.msk, up := upd b.up k true, base := b.base, told := b.told, ends := b.ends, wp := b.wp, wl := b.wl, wc := b.wc : RC })) T) = w1 at h1 h2 k1 ⊢
  have L1 := HV.out.get h2.out
  have L2 := HV.out.get (h2.out.kept (Kp.refl noB w1).drew id)
  have S1 := put_B h1.out ({ asks := b.asks, srv := b.srv, msk := b.msk, up := upd b.up k true, base := b.base, told := b.told, ends := b.ends, wp := b.wp, wl := b.wl, wc := b.wc : RC })
  have S2 := put_B (h1.out.kept (Kp.refl noB w1).drew id) ({ asks := b.asks, srv := b.srv, msk := b.msk, up := upd b.up k true, base := b.base, told := b.told, ends := b.ends, wp := b.wp, wl := b.wl, wc := b.wc : RC })
  have E1 : Hid (RAt (w1.setRow R (chV a ++ chV ({ asks := b.asks, srv := b.srv, msk := b.msk, up := upd b.up k true, base := b.base, told := b.told, ends := b.ends, wp := b.wp, wl := b.wl, wc := b.wc : RC }))) R a ({ asks := b.asks, srv := b.srv, msk := b.msk, up := upd b.up k true, base := b.base, told := b.told, ends := b.ends, wp := b.wp, wl := b.wl, wc := b.wc : RC })) := h1.out.putB _
  have E2 : Hid (RAt (w1.drew.setRow R (chV a ++ chV ({ asks := b.asks, srv := b.srv, msk := b.msk, up := upd b.up k true, base := b.base, told := b.told, ends := b.ends, wp := b.wp, wl := b.wl, wc := b.wc : RC }))) R a ({ asks := b.asks, srv := b.srv, msk := b.msk, up := upd b.up k true, base := b.base, told := b.told, ends := b.ends, wp := b.wp, wl := b.wl, wc := b.wc : RC })) := (h1.out.kept (Kp.refl noB w1).drew id).putB _
  go_region
  all_goals
    go_wp2
    go_ret
    first
      | exact ⟨rfl, E1.out, k1.out.trans (Kp.setRow (S := isB R) _ rfl _)⟩
      | exact ⟨rfl, E1.out.kept (Kp.refl noB _).drew id, (k1.out.trans (Kp.setRow (S := isB R) _ rfl _)).drew⟩
      | exact ⟨rfl, E2.out, k1.out.drew.trans (Kp.setRow (S := isB R) _ rfl _)⟩
theorem line_lit1 (r : RC) (k : Nat) (h : r.up k = false) : r.line k true = { r with asks := upd r.asks k true, up := upd r.up k true } := by unfold RC.line; rw [h]; rfl
theorem line_lit2 (r : RC) (k : Nat) (h : r.up k = true) : r.line k true = { r with asks := r.asks, up := upd r.up k true } := by unfold RC.line; rw [h]; rfl
theorem rlineA (w : World) (R : Nat) (a b : RC) (h : RAt w R a b) (k : Nat) (hk : k < 8) (h2 : k ≠ 2) (u : Bool) : Calls Tryz.prog 129 #[.pointer (some ⟨R, 0, none⟩), .int .i64 k, .bool u] w fun e w' => e = .returned (.int .i64 0) ∧ RAt w' R (a.line k u) b ∧ Kp (isB R) w w' := by
  cases u
  · exact rline_a0 w R a b h k hk h2 k rfl
  · cases e : a.up k
    · rw [line_lit1 a k e]; exact rline_a1 w R a b h k hk h2 k rfl e
    · rw [line_lit2 a k e]; exact rline_a2 w R a b h k hk h2 k rfl e
theorem rlineB (w : World) (R : Nat) (a b : RC) (h : RAt w R a b) (k : Nat) (hk : k < 8) (u : Bool) (x : Int) (hx : x = k + 8) : Calls Tryz.prog 129 #[.pointer (some ⟨R, 0, none⟩), .int .i64 x, .bool u] w fun e w' => e = .returned (.int .i64 0) ∧ RAt w' R a (b.line k u) ∧ Kp (isB R) w w' := by
  cases u
  · exact rline_b0 w R a b h k hk x hx
  · cases e : b.up k
    · rw [line_lit1 b k e]; exact rline_b1 w R a b h k hk x hx e
    · rw [line_lit2 b k e]; exact rline_b2 w R a b h k hk x hx e
theorem rline_2 (w : World) (R : Nat) (u : Bool) : Calls Tryz.prog 129 #[.pointer (some ⟨R, 0, none⟩), .int .i64 2, .bool u] w fun e w' => e = .returned (.int .i64 0) ∧ w' = w := by
  go_enter Tryz.func129, Tryz.ntmps129
  go_wp2
  go_ret
  exact ⟨rfl, rfl⟩
end Go.Proofs.YtiagfmkinefidaaGreat.Pc
namespace Go.Proofs.YtiagfmkinefidaaGreat.Pc
open Go.ChangeShapes Go.WideShapes Go.ChangeAt Go.RowKit
set_option linter.unusedVariables false
set_option maxRecDepth 20000
/-- What is wanted lies in a block of its own, behind 'base'. -/
def Wn (w : World) (base : Nat) (p : Option Addr) (n c : Nat) (l : List Int) : Prop := n = l.length ∧ n ≤ c ∧ ∀ j, j < l.length → ∃ g, p = some ⟨g, 0, none⟩ ∧ base ≤ g ∧ g < w.heap.size ∧ w.cell? ⟨g, j, none⟩ = some (.int .i64 (l.getD j 0))
theorem Wn.mono {w : World} {base base' : Nat} {p : Option Addr} {n c : Nat} {l : List Int} (h : Wn w base p n c l) (hb : base' ≤ base) : Wn w base' p n c l :=
  ⟨h.1, h.2.1, fun j hj => by
    obtain ⟨g, e, hb', hl, hc⟩ := h.2.2 j hj
    exact ⟨g, e, Nat.le_trans hb hb', hl, hc⟩⟩
end Go.Proofs.YtiagfmkinefidaaGreat.Pc
namespace Go.Proofs.YtiagfmkinefidaaGreat.Pc
open Go.ChangeShapes Go.WideShapes Go.ChangeAt Go.RowKit
set_option linter.unusedVariables false
set_option maxRecDepth 20000
def wantsOf (d : Int) : List Int := if d = 1 then [1] else if d = 2 then [2] else if d = 3 then [1, 2] else if d = 4 then [3] else if d = 5 then [1, 3] else if d = 6 then [2, 3] else if d = 7 then [1, 2, 3] else []
end Go.Proofs.YtiagfmkinefidaaGreat.Pc
namespace Go.Proofs.YtiagfmkinefidaaGreat.Pc
open Go.ChangeShapes Go.WideShapes Go.ChangeAt Go.RowKit
set_option linter.unusedVariables false
set_option maxRecDepth 20000
structure RX (w : World) (R : Nat) (m : M2) (a b : RC) : Prop where
  rm : RM w R m a b
  wa : Wn w (R + 1) a.wp a.wl a.wc (wantsOf m.a.due)
  wb : Wn w (R + 1) b.wp b.wl b.wc (wantsOf m.b.due)
def RW (w : World) (R : Nat) (m : M2) : Prop := ∃ a b, RX w R m a b
theorem RW.ok {w : World} {R : Nat} {m : M2} (h : RW w R m) : m.Ok := by obtain ⟨a, b, h⟩ := h; exact h.rm.ok
theorem settle_st2 {m : M2} (h : m.Ok) : St2 m.settle := by
  unfold St2
  rw [settle_asks h, if_pos rfl]; rfl
theorem settle_id {m : M2} (k : m.Ok) (h : St2 m) : m.settle = m := by
  have e : m.settle.a.asks = m.a.asks := by_ext k.settle.a.asks k.a.asks fun j hj => by
    rw [settle_asks k]
    by_cases q : j = 2
    · subst q; rw [if_pos rfl]; exact h.symm
    · rw [if_neg q]
  have e2 : m.settle = ⟨{ m.a with asks := m.settle.a.asks }, m.b⟩ := rfl
  rw [e2, e]
theorem line_due (c : Ch) (k : Int) (u : Bool) : (c.line k u).due = c.due := (line_keep c k u).2.2.2.1
theorem zero_rel (s : Bool) : Rel RC.zero ch0 s := ⟨fun j _ _ => (zero_tb j).symm, fun j _ => (zero_tb j).symm, fun j _ => (zero_tb j).symm, fun j _ _ => (zero_tb j).symm, rfl, rfl, rfl⟩
theorem st0 : St2 m00 := by unfold St2; kernel_rfl
end Go.Proofs.YtiagfmkinefidaaGreat.Pc
namespace Go.Proofs.YtiagfmkinefidaaGreat.Pc
open Go.ChangeShapes Go.WideShapes Go.ChangeAt Go.RowKit
set_option linter.unusedVariables false
set_option maxRecDepth 20000
/-- What is wanted lies in a block of S that is not R. -/
def WnS (w : World) (S : Nat → Prop) (R : Nat) (p : Option Addr) (n c : Nat) (l : List Int) : Prop := n = l.length ∧ n ≤ c ∧ ∀ j, j < l.length → ∃ g, p = some ⟨g, 0, none⟩ ∧ (S g ∧ g ≠ R) ∧ g < w.heap.size ∧ w.cell? ⟨g, j, none⟩ = some (.int .i64 (l.getD j 0))
def nS (S : Nat → Prop) (w w' : World) : Nat → Prop := fun k => k < w'.heap.size ∧ (S k ∨ w.heap.size ≤ k)
section
variable {w w' : World} {S : Nat → Prop} {R : Nat} {p : Option Addr} {n c : Nat} {l : List Int}
theorem WnS.next (h : WnS w S R p n c l) (k : Kp (isB R) w w') : WnS w' (nS S w w') R p n c l := ⟨h.1, h.2.1, fun j hj => by
  obtain ⟨g, e, hb, hl, hc⟩ := h.2.2 j hj
  have hl' := Nat.lt_of_lt_of_le hl k.size
  exact ⟨g, e, ⟨⟨hl', .inl hb.1⟩, hb.2⟩, hl', cell_kept hc k hb.2⟩⟩
theorem WnS.kept {T : Nat → Prop} (h : WnS w S R p n c l) (k : Kp T w w') (hS : ∀ k, S k → ¬ T k) : WnS w' S R p n c l := ⟨h.1, h.2.1, fun j hj => by
  obtain ⟨g, e, hb, hl, hc⟩ := h.2.2 j hj
  exact ⟨g, e, hb, Nat.lt_of_lt_of_le hl k.size, cell_kept hc k (hS g hb.1)⟩⟩
theorem WnS.same (h : WnS w S R p n c l) : WnS w (nS S w w) R p n c l := h.next (Kp.refl _ _)
end
structure RXS (w : World) (S : Nat → Prop) (R : Nat) (m : M2) (a b : RC) : Prop where
  rm : RM w R m a b
  wa : WnS w S R a.wp a.wl a.wc (wantsOf m.a.due)
  wb : WnS w S R b.wp b.wl b.wc (wantsOf m.b.due)
def RWS (w : World) (S : Nat → Prop) (R : Nat) (m : M2) : Prop := ∃ a b, RXS w S R m a b
theorem RXS.same {w : World} {S : Nat → Prop} {R : Nat} {m : M2} {a b : RC} (h : RXS w S R m a b) : RXS w (nS S w w) R m a b := ⟨h.rm, h.wa.same, h.wb.same⟩
theorem RWS.ok {w : World} {S : Nat → Prop} {R : Nat} {m : M2} (h : RWS w S R m) : m.Ok := by obtain ⟨a, b, h⟩ := h; exact h.rm.ok
theorem RWS.lt {w : World} {S : Nat → Prop} {R : Nat} {m : M2} (h : RWS w S R m) : R < w.heap.size := by obtain ⟨a, b, h⟩ := h; exact h.rm.at_.lt
theorem RWS.kept {T : Nat → Prop} {w w' : World} {S : Nat → Prop} {R : Nat} {m : M2} (h : RWS w S R m) (sR : S R) (k : Kp T w w') (hS : ∀ k, S k → ¬ T k) : RWS w' S R m := by
  obtain ⟨a, b, h⟩ := h
  exact ⟨a, b, ⟨h.rm.at_.kept k (hS R sR), h.rm.ra, h.rm.rb, h.rm.ok, h.rm.st⟩, h.wa.kept k hS, h.wb.kept k hS⟩
theorem sLine (w : World) (R : Nat) (m : M2) (S : Nat → Prop) (h : RWS w S R m) (n : Int) (u : Bool) (n0 : 0 ≤ n) (n1 : n < 16) : Calls Tryz.prog 129 #[.pointer (some ⟨R, 0, none⟩), .int .i64 n, .bool u] w fun e w' => e = .returned (.int .i64 0) ∧ RWS w' (nS S w w') R (m.line n u) ∧ Kp (isB R) w w' := by
  obtain ⟨a, b, h⟩ := h
  have ok' := h.rm.ok.line n0 n1 u
  have hs := settle_id h.rm.ok h.rm.st
  by_cases e2 : n = 2
  · subst e2
    have hX : m.line 2 u = m := by unfold M2.line; rw [if_pos rfl]; exact hs
    rw [hX]
    exact (rline_2 w R u).mono fun e w' ⟨z1, z2⟩ => ⟨z1, by subst z2; exact ⟨a, b, h.same⟩, z2 ▸ Kp.refl _ _⟩
  · by_cases e8 : n < 8
    · obtain ⟨k, rfl⟩ := Int.eq_ofNat_of_zero_le n0
      have k8 : k < 8 := by omega
      have k2 : k ≠ 2 := by omega
      have hX : m.line (k : Int) u = (m.set false (m.a.line (k : Int) u)).settle := by unfold M2.line; rw [if_neg e2, if_pos e8]
      have o1 : (m.set false (m.a.line (k : Int) u)).Ok := h.rm.ok.set false (h.rm.ok.a.line n0 e8 u)
      refine (rlineA w R a b h.rm.at_ k k8 k2 u).mono fun e w' ⟨z1, z2, z3⟩ => ⟨z1, ⟨a.line k u, b, ⟨z2, ?_, ?_, ok', ?_⟩, ?_, ?_⟩, z3⟩
      · rw [hX]; exact Rel.settle (h.rm.ra.line h.rm.ok.a k8 (fun _ => k2) u) o1
      · rw [hX]; exact h.rm.rb
      · rw [hX]; exact settle_st2 o1
      · rw [hX]
        show WnS w' (nS S w w') R a.wp a.wl a.wc (wantsOf (m.a.line (k : Int) u).due)
        rw [line_due]
        exact h.wa.next z3
      · rw [hX]
        exact h.wb.next z3
    · obtain ⟨k, hk⟩ := Int.eq_ofNat_of_zero_le (show 0 ≤ n - 8 by omega)
      have k8 : k < 8 := by omega
      have hX : m.line n u = (m.set true (m.b.line (k : Int) u)).settle := by unfold M2.line; rw [if_neg e2, if_neg e8, hk]
      have o1 : (m.set true (m.b.line (k : Int) u)).Ok := h.rm.ok.set true (h.rm.ok.b.line (n := (k : Int)) (by omega) (by omega) u)
      refine (rlineB w R a b h.rm.at_ k k8 u n (by omega)).mono fun e w' ⟨z1, z2, z3⟩ => ⟨z1, ⟨a, b.line k u, ⟨z2, ?_, ?_, ok', ?_⟩, ?_, ?_⟩, z3⟩
      · rw [hX]; exact Rel.settle (m := m.set true (m.b.line (k : Int) u)) h.rm.ra o1
      · rw [hX]; exact h.rm.rb.line h.rm.ok.b k8 (fun f => by cases f) u
      · rw [hX]; exact settle_st2 o1
      · rw [hX]
        exact h.wa.next z3
      · rw [hX]
        show WnS w' (nS S w w') R b.wp b.wl b.wc (wantsOf (m.b.line (k : Int) u).due)
        rw [line_due]
        exact h.wb.next z3
theorem sNew (w : World) : Calls Tryz.prog 82 #[] w fun e w' => e = .returned (.pointer (some ⟨w.heap.size, 0, none⟩)) ∧ RWS w' (isB w.heap.size) w.heap.size m00 ∧ Kp noB w w' := by
  have hR : Hid (∀ w' : World, w'.heap[w.heap.size]? = some (.cells (chV RC.zero ++ chV RC.zero) 241 (0, 0)) → RWS w' (isB w.heap.size) w.heap.size m00) := fun w' h => ⟨RC.zero, RC.zero, ⟨⟨h⟩, zero_rel _, zero_rel _, m00_ok, st0⟩, ⟨rfl, Nat.le_refl _, fun j hj => absurd hj (by show ¬ j < 0; omega)⟩, ⟨rfl, Nat.le_refl _, fun j hj => absurd hj (by show ¬ j < 0; omega)⟩⟩
  have hz0 : ∀ w, (zeroValue 241).run Tryz.prog w = .ok (.agg (chV RC.zero ++ chV RC.zero)) w := fun w => by kernel_rfl
  obtain ⟨Y, hY⟩ : ∃ Y, Y = chV RC.zero ++ chV RC.zero := ⟨_, rfl⟩
  rw [← hY] at hz0 hR
  clear hY
  go_enter Tryz.func82, Tryz.ntmps82
  go_wp2
  go_ret
  exact ⟨rfl, hR.out _ (heap_new w _), Kp.alloc _ _ _⟩
end Go.Proofs.YtiagfmkinefidaaGreat.Pc
