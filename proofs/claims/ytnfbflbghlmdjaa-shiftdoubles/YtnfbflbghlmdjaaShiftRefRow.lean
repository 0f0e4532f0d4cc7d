/- The contract of the document's Double of layer 2 (package drawloomref02), its row of bits: for every input within its kinds it returns what is named, and the world has at most new blocks. -/
import Derived.Test.YtnfbflbghlmdjaaShiftRefMov
import Derived.Test.YtnfbflbghlmdjaaShiftFacts2
import Derived.Test.YtnfbflbghlmdjaaShiftDouble
namespace Go.Proofs.Ytnfbflbghlmdjaa
open Go.ChangeShapes Go.WideShapes Go.ChangeAt Go.RowKit
set_option linter.unusedVariables false

def val (l : Bool) (W : Nat) (x y : Int) (j i : Nat) : Bool := if i % W < j then tb (dN l W x y) i else false

def Row (wr : World) (B n : Nat) (v : Nat → Bool) : Prop := ∀ i, i < n → wr.cell? ⟨B, i, none⟩ = some (.bool (v i)) ∧ wr.frozen? ⟨B, i, none⟩ = false

theorem addr_ne {B p q : Nat} (h : p ≠ q) : (⟨B, p, none⟩ : Addr) ≠ ⟨B, q, none⟩ := fun e => h (by injection e)

theorem Row.c2 {wr : World} {B n : Nat} {v : Nat → Bool} (h : Row wr B n v) {p q : Nat} (hpq : p ≠ q) (hq : q < n) (u : Value) : (wr.setCell ⟨B, p, none⟩ u).cell? ⟨B, q, none⟩ = some (.bool (v q)) :=
  (World.cell?_setCell_other _ _ _ _ (addr_ne hpq)).trans (h q hq).1

theorem Row.c3 {wr : World} {B n : Nat} {v : Nat → Bool} (h : Row wr B n v) {p q r : Nat} (hpr : p ≠ r) (hqr : q ≠ r) (hr : r < n) (u u' : Value) : ((wr.setCell ⟨B, p, none⟩ u).setCell ⟨B, q, none⟩ u').cell? ⟨B, r, none⟩ = some (.bool (v r)) :=
  (World.cell?_setCell_other _ _ _ _ (addr_ne hqr)).trans (h.c2 hpr hr u)

theorem Row.set {wr : World} {B n : Nat} {v v' : Nat → Bool} (h : Row wr B n v) {p : Nat} {u : Bool} (hu : v' p = u) (hv : ∀ i, i < n → i ≠ p → v' i = v i) : Row (wr.setCell ⟨B, p, none⟩ (.bool u)) B n v' := fun i hi => by
  refine ⟨?_, by rw [World.frozen?_setCell]; exact (h i hi).2⟩
  by_cases e : i = p
  · subst e
    rw [World.cell?_setCell_same (h := (h i hi).1), hu]
  · rw [World.cell?_setCell_other _ _ _ _ (addr_ne (Ne.symm e)), (h i hi).1, hv i hi e]

theorem Row.set3 {wr : World} {B n : Nat} {v v' : Nat → Bool} (h : Row wr B n v) {p q r : Nat} {u1 u2 u3 : Bool} (pq : p ≠ q) (pr : p ≠ r) (qr : q ≠ r) (h1 : v' p = u1) (h2 : v' q = u2) (h3 : v' r = u3) (hv : ∀ i, i < n → i ≠ p → i ≠ q → i ≠ r → v' i = v i) :
    Row (((wr.setCell ⟨B, p, none⟩ (.bool u1)).setCell ⟨B, q, none⟩ (.bool u2)).setCell ⟨B, r, none⟩ (.bool u3)) B n v' := by
  have s1 : Row (wr.setCell ⟨B, p, none⟩ (.bool u1)) B n (fun i => if i = p then u1 else v i) := h.set (by simp) (fun i _ e => by simp [e])
  have s2 : Row ((wr.setCell ⟨B, p, none⟩ (.bool u1)).setCell ⟨B, q, none⟩ (.bool u2)) B n (fun i => if i = q then u2 else if i = p then u1 else v i) := s1.set (by simp) (fun i _ e => by simp [e])
  refine s2.set h3 (fun i hi e => ?_)
  by_cases e2 : i = q
  · subst e2; simp [h2]
  · by_cases e1 : i = p
    · subst e1; simp [e2, h1]
    · simp [e1, e2, hv i hi e1 e2 e]

theorem row_step {wr : World} {B W : Nat} (hW : W = 16 ∨ W = 32) {l : Bool} {x y : Int} (x0 : 0 ≤ x) (x1 : x < ((2 ^ W : Nat) : Int)) (y0 : 0 ≤ y) (y1 : y < ((2 ^ W : Nat) : Int)) {j : Nat} (hj : j < W) (h : Row wr B (3 * W) (val l W x y j)) :
    Row (((wr.setCell ⟨B, j, none⟩ (.bool (tb (if l = true then y else x) j))).setCell ⟨B, W + j, none⟩ (.bool (tb y j))).setCell ⟨B, 2 * W + j, none⟩ (.bool (tb (if l = true then x else y) j))) B (3 * W) (val l W x y (j + 1)) := by
  have T := rows_bits x0 x1 y0 y1 l
  have m1 : j % W = j := Nat.mod_eq_of_lt hj
  have m2 : (W + j) % W = j := by rw [Nat.add_mod_left]; exact m1
  have m3 : (2 * W + j) % W = j := by rw [Nat.mul_comm, Nat.mul_add_mod]; exact m1
  refine h.set3 (by omega) (by omega) (by omega) ?_ ?_ ?_ ?_
  · unfold val; rw [m1, if_pos (by omega), T.2.2.2 j hj]
  · unfold val; rw [m2, if_pos (by omega), T.2.2.1 j hj]
  · unfold val; rw [m3, if_pos (by omega), T.2.1]
  · intro i hi e1 e2 e3
    unfold val
    have : i % W ≠ j := by rcases hW with rfl | rfl <;> omega
    by_cases c : i % W < j
    · rw [if_pos c, if_pos (by omega)]
    · rw [if_neg c, if_neg (by omega)]

theorem row_done {wr : World} {B W : Nat} (w0 : 0 < W) {l : Bool} {x y : Int} (h : Row wr B (3 * W) (val l W x y W)) : Row wr B (3 * W) (tb (dN l W x y)) := fun i hi => by
  have q := h i hi
  unfold val at q
  rw [if_pos (Nat.mod_lt i w0)] at q
  exact q

def num (g : Nat → Bool) : Nat → Int
  | 0 => 0
  | j + 1 => num g j + (if g j = true then 2 ^ j else 0)

theorem num_bd (g : Nat → Bool) (j : Nat) : 0 ≤ num g j ∧ num g j < 2 ^ j := by
  induction j with
  | zero => simp [num]
  | succ j ih =>
    have p : (0 : Int) < 2 ^ j := Int.pow_pos (by decide)
    have e : (2 : Int) ^ (j + 1) = 2 ^ j * 2 := Int.pow_succ 2 j
    simp only [num]
    split <;> omega

theorem num_bit (g : Nat → Bool) (j i : Nat) : tb (num g j) i = (decide (i < j) && g i) := by
  induction j with
  | zero => simp [num, tb]
  | succ j ih =>
    have b := num_bd g j
    have b1 : num g j < ((2 ^ j : Nat) : Int) := by rw [← pw_cast]; exact b.2
    have e : num g (j + 1) = num g j + (if g j = true then 1 else 0) * ((2 ^ j : Nat) : Int) := by
      rw [← pw_cast]; simp only [num]; split <;> omega
    rw [e]
    have u0 : (0 : Int) ≤ (if g j = true then 1 else 0) := by split <;> decide
    by_cases hi : i < j
    · rw [tb_lo b.1 _ u0 j i hi, ih, decide_eq_true hi, decide_eq_true (by omega : i < j + 1)]
    · obtain ⟨d, rfl⟩ : ∃ d, i = j + d := ⟨i - j, by omega⟩
      rw [tb_up b.1 _ u0 j d b1]
      cases d with
      | zero =>
        rw [decide_eq_true (by omega : j + 0 < j + 1), Nat.add_zero]
        cases g j <;> decide
      | succ d =>
        rw [decide_eq_false (by omega : ¬ j + (d + 1) < j + 1)]
        cases g j <;> simp [tb, Nat.testBit_succ]

theorem num_is {W : Nat} {l : Bool} {x y : Int} (k : Nat) (n0 : 0 ≤ dN l W x y) (g : Nat → Bool) (hg : ∀ i, i < W → g i = tb (dN l W x y) ((if l = true then 2 * W - k else k) + i)) : num g W = dR l W x y k := by
  refine tb_ext (num_bd g W).1 (dR_bd _ _ _ _ _).1 fun i => ?_
  unfold dR
  rw [num_bit, tb_mod (Int.ediv_nonneg n0 (Int.le_of_lt (pw_pos _))), tb_shr n0]
  by_cases hi : i < W
  · rw [hg i hi]
  · rw [decide_eq_false hi]; rfl

theorem bne_swap (a b : Bool) : (a != b) = (b != a) := by cases a <;> cases b <;> rfl

theorem start_row (w : World) (n : Nat) (W : Nat) (l : Bool) (x y : Int) (t : Nat) : Row (w.alloc (.cells (Array.replicate n (.bool false)) t)) w.heap.size n (val l W x y 0) := fun i hi => by
  refine ⟨?_, ?_⟩
  · rw [World.cell?_alloc_at _ _ _ _ rfl]
    have : val l W x y 0 i = false := by unfold val; rw [if_neg (by omega)]
    rw [this]
    simp [hi]
  · simp [go_sem]
end Go.Proofs.Ytnfbflbghlmdjaa
