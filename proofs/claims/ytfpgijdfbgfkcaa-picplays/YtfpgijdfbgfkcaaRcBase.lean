/- The document's pair: what it means that a world holds it; a chip is loaded and stored as a whole, its cells never opened. -/
import Derived.Test.YtfpgijdfbgfkcaaPcOps
import Derived.Laws.CopyRow
import Derived.Deep.MidRow
namespace Go.Proofs.Ytfpgijdfbgfkcaa
open Go.ChangeShapes Go.WideShapes Go.ChangeAt Go.RowKit
set_option linter.unusedVariables false
set_option maxRecDepth 20000

structure RC where
  asks : Nat → Bool
  srv : Nat → Bool
  msk : Nat → Bool
  up : Nat → Bool
  base : Int
  told : Bool
  ends : Bool
  wp : Option Addr
  wl : Nat
  wc : Nat

def chV (r : RC) : Array Value := #[.bool (r.asks 0), .bool (r.asks 1), .bool (r.asks 2), .bool (r.asks 3), .bool (r.asks 4), .bool (r.asks 5), .bool (r.asks 6), .bool (r.asks 7), .bool (r.srv 0), .bool (r.srv 1), .bool (r.srv 2), .bool (r.srv 3), .bool (r.srv 4), .bool (r.srv 5), .bool (r.srv 6), .bool (r.srv 7), .bool (r.msk 0), .bool (r.msk 1), .bool (r.msk 2), .bool (r.msk 3), .bool (r.msk 4), .bool (r.msk 5), .bool (r.msk 6), .bool (r.msk 7), .bool (r.up 0), .bool (r.up 1), .bool (r.up 2), .bool (r.up 3), .bool (r.up 4), .bool (r.up 5), .bool (r.up 6), .bool (r.up 7), .int .i64 r.base, .bool r.told, .bool r.ends, .slice r.wp r.wl r.wc]

def RC.zero : RC := ⟨fun _ => false, fun _ => false, fun _ => false, fun _ => false, 0, false, false, none, 0, 0⟩

theorem chV_size (r : RC) : (chV r).size = 36 := rfl

theorem one_chV (r : RC) : ∀ v ∈ (chV r).toList, v.oneCell' = true := by
  intro v hv
  simp only [chV, List.mem_cons, List.not_mem_nil, or_false] at hv
  rcases hv with rfl | rfl | rfl | rfl | rfl | rfl | rfl | rfl | rfl | rfl | rfl | rfl | rfl | rfl | rfl | rfl | rfl | rfl | rfl | rfl | rfl | rfl | rfl | rfl | rfl | rfl | rfl | rfl | rfl | rfl | rfl | rfl | rfl | rfl | rfl | rfl <;> rfl

/-- Whole chips: the type's number and its size are letters. -/
structure VlC (T : TypeId) (n : Nat) (Z : Array Value) (fs : Array Field) (ps : Array (Nat × Nat)) : Prop where
  t : T = 52
  s : n = 36
  z : Z = chV RC.zero
  agg : ∀ w, (isAgg T).run Try.prog w = .ok true w
  size : ∀ w, (sizeOf T).run Try.prog w = .ok n w
  zero : ∀ w, (zeroValue T).run Try.prog w = .ok (.agg Z) w
  under : ∀ w, (underlying T).run Try.prog w = .ok (.struct fs) w
  map : ∀ w, (Array.mapM (fun f : Field => Prod.mk f.offset <$> sizeOf f.type) fs).run Try.prog w = .ok ps w
  zs : Z.size = n

theorem vlC : ∃ T n Z fs ps, VlC T n Z fs ps :=
  ⟨_, _, _, (match Try.prog.underlying 52 with | some (.struct f) => f | _ => #[]), #[(0, 8), (8, 8), (16, 8), (24, 8), (32, 1), (33, 1), (34, 1), (35, 1)], rfl, rfl, rfl, fun w => by kernel_rfl, fun w => by kernel_rfl, fun w => by kernel_rfl, fun w => by kernel_rfl, fun w => by kernel_rfl, rfl⟩

theorem VlC.ops {T : TypeId} {n : Nat} {Z : Array Value} {fs : Array Field} {ps : Array (Nat × Nat)} (h : VlC T n Z fs ps) :
    (∀ x, Op.load 52 x = Op.load T x) ∧ (∀ x y, Op.store 52 x y = Op.store T x y) ∧ Op.alloc 52 = Op.alloc T ∧ ∀ x, Op.box 52 x = Op.box T x := by
  rw [h.t]
  exact ⟨fun _ => rfl, fun _ _ => rfl, rfl, fun _ => rfl⟩

/-- A chip in a block of its own. -/
def CAt (w : World) (q : Nat) (r : RC) : Prop := w.heap[q]? = some (.cells (chV r) 52 (0, 0))

/-- The pair. -/
structure RAt (w : World) (R : Nat) (a b : RC) : Prop where
  blk : w.heap[R]? = some (.cells (chV a ++ chV b) 55 (0, 0))

theorem CAt.kept {S : Nat → Prop} {w w' : World} {q : Nat} {r : RC} (h : CAt w q r) (k : Kp S w w') (hS : ¬ S q) : CAt w' q r := heap_kept h k hS
theorem RAt.kept {S : Nat → Prop} {w w' : World} {R : Nat} {a b : RC} (h : RAt w R a b) (k : Kp S w w') (hS : ¬ S R) : RAt w' R a b := ⟨heap_kept h.blk k hS⟩
theorem CAt.lt {w : World} {q : Nat} {r : RC} (h : CAt w q r) : q < w.heap.size := heap_lt h
theorem RAt.lt {w : World} {R : Nat} {a b : RC} (h : RAt w R a b) : R < w.heap.size := heap_lt h.blk

theorem Kp.setRow {S : Nat → Prop} (w : World) {g : Nat} (hp : S g) (cs : Array Value) : Kp S w (w.setRow g cs) :=
  ⟨rfl, rfl, rfl, by simp [World.setRow], fun k hk hs => setRow_other w g k cs (fun e => hs (e ▸ hp))⟩

section
variable {T : TypeId} {n : Nat} {Z : Array Value} {fs : Array Field} {ps : Array (Nat × Nat)}

theorem VlC.load (h : VlC T n Z fs ps) {w : World} {q o : Nat} {r : RC} (hr : w.rangeAt q o (chV r).toList) : (loadCellsFrom ⟨q, o, none⟩ 0 n #[]).run Try.prog w = .ok (chV r) w := by
  have e := run_loadCells_list (P := Try.prog) w ⟨q, o, none⟩ (chV r).toList (fun j v hv => by rw [Addr.add_mid]; exact hr j v hv)
  rw [h.s]
  exact e

theorem VlC.get (h : VlC T n Z fs ps) {w : World} {q : Nat} {r : RC} (hq : CAt w q r) : (loadCellsFrom ⟨q, 0, none⟩ 0 n #[]).run Try.prog w = .ok (chV r) w :=
  h.load (fun j v hv => by
    rw [cell_of_row w q (0 + j) _ _ _ hq, Nat.zero_add, ← Array.getElem?_toList]
    exact hv)

theorem VlC.getA (h : VlC T n Z fs ps) {w : World} {R : Nat} {a b : RC} (hq : RAt w R a b) : (loadCellsFrom ⟨R, 0, none⟩ 0 n #[]).run Try.prog w = .ok (chV a) w :=
  h.load (fun j v hv => by
    rw [cell_of_row w R (0 + j) _ _ _ hq.blk, Nat.zero_add, ← Array.getElem?_toList, Array.toList_append, List.getElem?_append_left (List.getElem?_eq_some_iff.1 hv).1]
    exact hv)

theorem VlC.getB (h : VlC T n Z fs ps) {w : World} {R : Nat} {a b : RC} (hq : RAt w R a b) : (loadCellsFrom ⟨R, 36, none⟩ 0 n #[]).run Try.prog w = .ok (chV b) w :=
  h.load (fun j v hv => by
    rw [cell_of_row w R (36 + j) _ _ _ hq.blk, ← Array.getElem?_toList, Array.toList_append, List.getElem?_append_right (by show 36 ≤ 36 + j; omega), show 36 + j - (chV a).toList.length = j by show 36 + j - 36 = j; omega]
    exact hv)

/-- A whole chip into a block of its own. -/
theorem put_ch {w : World} {q : Nat} {c : Array Value} {T : TypeId} (h : w.heap[q]? = some (.cells c T (0, 0))) (hc : c.size = 36) (r : RC) : (storeCells ⟨q, 0, none⟩ (chV r).toList).run Try.prog w = .ok () (w.setRow q (chV r)) := by
  have e := run_storeCells_at Try.prog q 0 T (chV r).toList 0 c w h (by simp [hc, chV_size]) (one_chV r)
  rw [e]
  have e2 : (List.take (0 + 0) c.toList ++ (chV r).toList ++ List.drop (0 + 0 + (chV r).toList.length) c.toList).toArray = chV r := by
    have h1 : List.drop (0 + 0 + (chV r).toList.length) c.toList = [] := List.drop_eq_nil_of_le (by simp [hc, chV_size])
    rw [h1]
    simp
  rw [e2]

theorem put_A {w : World} {R : Nat} {a b : RC} (h : RAt w R a b) (r : RC) : (storeCells ⟨R, 0, none⟩ (chV r).toList).run Try.prog w = .ok () (w.setRow R (chV r ++ chV b)) := by
  have e := run_storeCells_at Try.prog R 0 _ (chV r).toList 0 _ w h.blk (by simp [chV_size]) (one_chV r)
  rw [e]
  have e2 : (List.take (0 + 0) (chV a ++ chV b).toList ++ (chV r).toList ++ List.drop (0 + 0 + (chV r).toList.length) (chV a ++ chV b).toList).toArray = chV r ++ chV b := by
    apply Array.ext'
    rw [Array.toList_append, Array.toList_append, Nat.add_zero, List.take_zero, List.nil_append, Nat.zero_add, show (chV r).toList.length = (chV a).toList.length from rfl, List.drop_left]
  rw [e2]

theorem put_B {w : World} {R : Nat} {a b : RC} (h : RAt w R a b) (r : RC) : (storeCells ⟨R, 36, none⟩ (chV r).toList).run Try.prog w = .ok () (w.setRow R (chV a ++ chV r)) := by
  have e := run_storeCells_at Try.prog R 36 _ (chV r).toList 0 _ w h.blk (by simp [chV_size]) (one_chV r)
  rw [e]
  have e2 : (List.take (36 + 0) (chV a ++ chV b).toList ++ (chV r).toList ++ List.drop (36 + 0 + (chV r).toList.length) (chV a ++ chV b).toList).toArray = chV a ++ chV r := by
    apply Array.ext'
    rw [Array.toList_append, Array.toList_append, Nat.add_zero, show List.drop (36 + (chV r).toList.length) ((chV a).toList ++ (chV b).toList) = [] from List.drop_eq_nil_of_le (by rw [List.length_append]; exact Nat.le_refl 72), show (36 : Nat) = (chV a).toList.length from rfl, List.take_left, List.append_nil]
  rw [e2]

theorem RAt.putA {w : World} {R : Nat} {a b : RC} (h : RAt w R a b) (r : RC) : RAt (w.setRow R (chV r ++ chV b)) R r b := ⟨setRow_heap w R _ _ _ _ h.blk⟩
theorem RAt.putB {w : World} {R : Nat} {a b : RC} (h : RAt w R a b) (r : RC) : RAt (w.setRow R (chV a ++ chV r)) R a r := ⟨setRow_heap w R _ _ _ _ h.blk⟩
theorem CAt.put {w : World} {q : Nat} {a : RC} (h : CAt w q a) (r : RC) : CAt (w.setRow q (chV r)) q r := setRow_heap w q _ _ _ _ h

/-- A new chip is laid. -/
theorem setRow_alloc (W : World) (c A : Array Value) (T : TypeId) : (W.alloc (.cells c T)).setRow W.heap.size A = W.alloc (.cells A T) := by
  unfold World.setRow World.alloc
  congr 1
  apply Array.ext_getElem?
  intro i
  rw [Array.getElem?_modify]
  by_cases h : W.heap.size = i
  · subst h; simp
  · simp only [h, if_false]
    by_cases h2 : i < W.heap.size
    · rw [Array.getElem?_push_lt h2, Array.getElem?_push_lt h2]
    · rw [Array.getElem?_eq_none (by simp; omega), Array.getElem?_eq_none (by simp; omega)]

theorem VlC.new (h : VlC T n Z fs ps) (r : RC) (W : World) : (storeCells ⟨W.heap.size, 0, none⟩ (chV r).toList).run Try.prog (W.alloc (.cells Z T)) = .ok () (W.alloc (.cells (chV r) T)) := by
  rw [← setRow_alloc W Z (chV r) T, h.t]
  exact put_ch (heap_new W (.cells Z 52)) (by rw [h.z]; rfl) r

theorem VlC.at (h : VlC T n Z fs ps) (r : RC) (W : World) : CAt (W.alloc (.cells (chV r) T)) W.heap.size r := by
  rw [h.t]; exact heap_new _ _
end

/-! the cells of a chip -/
theorem ch_asks (r : RC) {k : Nat} (h : k < 8) : (chV r)[k]? = some (.bool (r.asks k)) := by
  rcases (by omega : k = 0 ∨ k = 1 ∨ k = 2 ∨ k = 3 ∨ k = 4 ∨ k = 5 ∨ k = 6 ∨ k = 7) with rfl | rfl | rfl | rfl | rfl | rfl | rfl | rfl <;> rfl
theorem ch_srv (r : RC) {k : Nat} (h : k < 8) : (chV r)[8 + k]? = some (.bool (r.srv k)) := by
  rcases (by omega : k = 0 ∨ k = 1 ∨ k = 2 ∨ k = 3 ∨ k = 4 ∨ k = 5 ∨ k = 6 ∨ k = 7) with rfl | rfl | rfl | rfl | rfl | rfl | rfl | rfl <;> rfl
theorem ch_msk (r : RC) {k : Nat} (h : k < 8) : (chV r)[16 + k]? = some (.bool (r.msk k)) := by
  rcases (by omega : k = 0 ∨ k = 1 ∨ k = 2 ∨ k = 3 ∨ k = 4 ∨ k = 5 ∨ k = 6 ∨ k = 7) with rfl | rfl | rfl | rfl | rfl | rfl | rfl | rfl <;> rfl
theorem ch_up (r : RC) {k : Nat} (h : k < 8) : (chV r)[24 + k]? = some (.bool (r.up k)) := by
  rcases (by omega : k = 0 ∨ k = 1 ∨ k = 2 ∨ k = 3 ∨ k = 4 ∨ k = 5 ∨ k = 6 ∨ k = 7) with rfl | rfl | rfl | rfl | rfl | rfl | rfl | rfl <;> rfl

def upd (f : Nat → Bool) (k : Nat) (b : Bool) : Nat → Bool := fun j => if j = k then b else f j

theorem set_asks (r : RC) {k : Nat} (h : k < 8) (b : Bool) : (chV r).setIfInBounds k (.bool b) = chV { r with asks := upd r.asks k b } := by
  rcases (by omega : k = 0 ∨ k = 1 ∨ k = 2 ∨ k = 3 ∨ k = 4 ∨ k = 5 ∨ k = 6 ∨ k = 7) with rfl | rfl | rfl | rfl | rfl | rfl | rfl | rfl <;> rfl
theorem set_srv (r : RC) {k : Nat} (h : k < 8) (b : Bool) : (chV r).setIfInBounds (8 + k) (.bool b) = chV { r with srv := upd r.srv k b } := by
  rcases (by omega : k = 0 ∨ k = 1 ∨ k = 2 ∨ k = 3 ∨ k = 4 ∨ k = 5 ∨ k = 6 ∨ k = 7) with rfl | rfl | rfl | rfl | rfl | rfl | rfl | rfl <;> rfl
theorem set_msk (r : RC) {k : Nat} (h : k < 8) (b : Bool) : (chV r).setIfInBounds (16 + k) (.bool b) = chV { r with msk := upd r.msk k b } := by
  rcases (by omega : k = 0 ∨ k = 1 ∨ k = 2 ∨ k = 3 ∨ k = 4 ∨ k = 5 ∨ k = 6 ∨ k = 7) with rfl | rfl | rfl | rfl | rfl | rfl | rfl | rfl <;> rfl
theorem set_up (r : RC) {k : Nat} (h : k < 8) (b : Bool) : (chV r).setIfInBounds (24 + k) (.bool b) = chV { r with up := upd r.up k b } := by
  rcases (by omega : k = 0 ∨ k = 1 ∨ k = 2 ∨ k = 3 ∨ k = 4 ∨ k = 5 ∨ k = 6 ∨ k = 7) with rfl | rfl | rfl | rfl | rfl | rfl | rfl | rfl <;> rfl

theorem CAt.cell {w : World} {q : Nat} {r : RC} (h : CAt w q r) {j : Nat} {v : Value} (e : (chV r)[j]? = some v) : w.cell? ⟨q, j, none⟩ = some v := by
  rw [cell_of_row w q j _ _ _ h]; exact e
theorem CAt.fz {w : World} {q : Nat} {r : RC} (h : CAt w q r) (j : Nat) : w.frozen? ⟨q, j, none⟩ = false := frozen_of_row w q j _ _ h
theorem CAt.set {w : World} {q : Nat} {r r' : RC} (h : CAt w q r) {j : Nat} {v : Value} (e : (chV r).setIfInBounds j v = chV r') : CAt (w.setCell ⟨q, j, none⟩ v) q r' := by
  unfold CAt
  rw [heap_set h, e]
theorem RAt.cellA {w : World} {R : Nat} {a b : RC} (h : RAt w R a b) {j : Nat} {v : Value} (e : (chV a)[j]? = some v) : w.cell? ⟨R, j, none⟩ = some v := by
  rw [cell_of_row w R j _ _ _ h.blk, Array.getElem?_append_left (Array.getElem?_eq_some_iff.1 e).1]; exact e
theorem RAt.cellB {w : World} {R : Nat} {a b : RC} (h : RAt w R a b) {j : Nat} {v : Value} (e : (chV b)[j]? = some v) : w.cell? ⟨R, 36 + j, none⟩ = some v := by
  rw [cell_of_row w R (36 + j) _ _ _ h.blk, Array.getElem?_append_right (by show 36 ≤ 36 + j; omega), show 36 + j - (chV a).size = j by show 36 + j - 36 = j; omega]; exact e
theorem RAt.fz {w : World} {R : Nat} {a b : RC} (h : RAt w R a b) (j : Nat) : w.frozen? ⟨R, j, none⟩ = false := frozen_of_row w R j _ _ h.blk
theorem RAt.setA {w : World} {R : Nat} {a a' b : RC} (h : RAt w R a b) {j : Nat} {v : Value} (hj : j < 36) (e : (chV a).setIfInBounds j v = chV a') : RAt (w.setCell ⟨R, j, none⟩ v) R a' b := by
  refine ⟨?_⟩
  rw [heap_set h.blk, Array.setIfInBounds_append_left (by show j < 36; exact hj), e]
theorem RAt.setB {w : World} {R : Nat} {a b b' : RC} (h : RAt w R a b) {j : Nat} {v : Value} (hj : j < 36) (e : (chV b).setIfInBounds j v = chV b') : RAt (w.setCell ⟨R, 36 + j, none⟩ v) R a b' := by
  refine ⟨?_⟩
  rw [heap_set h.blk, Array.setIfInBounds_append_right (by show 36 ≤ 36 + j; omega), show 36 + j - (chV a).size = j by show 36 + j - 36 = j; omega, e]
end Go.Proofs.Ytfpgijdfbgfkcaa
