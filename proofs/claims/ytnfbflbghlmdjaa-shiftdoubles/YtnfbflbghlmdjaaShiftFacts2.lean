/- Plain facts on two shifts behind one another, and on double shifts as two shifts: no Go text in sight; each under the bounds that it names. -/
import Derived.Test.YtnfbflbghlmdjaaShiftFacts
namespace Go.Proofs.Ytnfbflbghlmdjaa
open Go.RowKit
set_option linter.unusedVariables false

theorem div_div {x : Int} (m n : Nat) : x / ((2 ^ m : Nat) : Int) / ((2 ^ n : Nat) : Int) = x / ((2 ^ (m + n) : Nat) : Int) := by
  rw [Int.ediv_ediv_of_nonneg (Int.le_of_lt (pw_pos m)), ← Int.natCast_mul, ← Nat.pow_add]

/-- two moves of one kind are one -/
theorem mv_sum {s H M : Int} {W : Nat} (hS : Sw s H M W) {x : Int} (x0 : 0 ≤ x) (x1 : x < M) (op : Int) (o0 : 0 ≤ op) (o1 : op ≤ 7) (c : Bool) {m n : Nat} (m1 : 1 ≤ m) (n1 : 1 ≤ n) (h : m + n ≤ 31) :
    mvR op H M W (mvR op H M W x m c) n (mvC op H M W x m c) = mvR op H M W x (m + n) c ∧ mvC op H M W (mvR op H M W x m c) n (mvC op H M W x m c) = mvC op H M W x (m + n) c := by
  have p := hS.pow
  have hx : x < ((2 ^ W : Nat) : Int) := by rw [← p.1]; exact x1
  have hR : isR W ∧ isR (W + 1) := by rcases hS with ⟨rfl, rfl, rfl, rfl⟩ | ⟨rfl, rfl, rfl, rfl⟩ | ⟨rfl, rfl, rfl, rfl⟩ <;> (unfold isR; decide)
  have e : ((2 ^ (W + 1) : Nat) : Int) = 2 * M := by rw [p.1, Nat.pow_succ]; omega
  have y : 0 ≤ x + flg c M ∧ x + flg c M < ((2 ^ (W + 1) : Nat) : Int) := by rw [e]; unfold flg; split <;> omega
  have md : ∀ R, R = W ∨ R = W + 1 → (4 * R - m + (4 * R - n)) % R = (4 * R - (m + n)) % R := fun R hR => by
    rw [show 4 * R - m + (4 * R - n) = 4 * R - (m + n) + 4 * R by omega, Nat.add_mul_mod_self_right]
  have cases : op = 0 ∨ op = 1 ∨ op = 2 ∨ op = 3 ∨ op = 5 ∨ op = 7 ∨ (op = 4 ∨ op = 6) := by omega
  rcases cases with rfl | rfl | rfl | rfl | rfl | rfl | h46
  · show turn W (turn W x m) n = turn W x (m + n) ∧ tb (turn W (turn W x m) n) 0 = tb (turn W x (m + n)) 0
    rw [turn_turn hR.1 x0 hx]; exact ⟨rfl, rfl⟩
  · show turn W (turn W x (4 * W - m)) (4 * W - n) = turn W x (4 * W - (m + n)) ∧ tb (turn W (turn W x (4 * W - m)) (4 * W - n)) (W - 1) = tb (turn W x (4 * W - (m + n))) (W - 1)
    rw [turn_turn hR.1 x0 hx, turn_mod W x (md W (Or.inl rfl))]; exact ⟨rfl, rfl⟩
  · have t := turn_bd (W + 1) (x + flg c M) m
    have g := wide_parts hS t.1 t.2
    show turn (W + 1) (turn (W + 1) (x + flg c M) m % M + flg (tb (turn (W + 1) (x + flg c M) m) W) M) n % M = turn (W + 1) (x + flg c M) (m + n) % M ∧ tb (turn (W + 1) (turn (W + 1) (x + flg c M) m % M + flg (tb (turn (W + 1) (x + flg c M) m) W) M) n) W = tb (turn (W + 1) (x + flg c M) (m + n)) W
    rw [g, turn_turn hR.2 y.1 y.2]; exact ⟨rfl, rfl⟩
  · have t := turn_bd (W + 1) (x + flg c M) (4 * (W + 1) - m)
    have g := wide_parts hS t.1 t.2
    show turn (W + 1) (turn (W + 1) (x + flg c M) (4 * (W + 1) - m) % M + flg (tb (turn (W + 1) (x + flg c M) (4 * (W + 1) - m)) W) M) (4 * (W + 1) - n) % M = turn (W + 1) (x + flg c M) (4 * (W + 1) - (m + n)) % M ∧ tb (turn (W + 1) (turn (W + 1) (x + flg c M) (4 * (W + 1) - m) % M + flg (tb (turn (W + 1) (x + flg c M) (4 * (W + 1) - m)) W) M) (4 * (W + 1) - n)) W = tb (turn (W + 1) (x + flg c M) (4 * (W + 1) - (m + n))) W
    rw [g, turn_turn hR.2 y.1 y.2, turn_mod (W + 1) (x + flg c M) (md (W + 1) (Or.inr rfl))]; exact ⟨rfl, rfl⟩
  · show x / ((2 ^ m : Nat) : Int) / ((2 ^ n : Nat) : Int) = x / ((2 ^ (m + n) : Nat) : Int) ∧ tb (x / ((2 ^ m : Nat) : Int)) (n - 1) = tb x (m + n - 1)
    rw [div_div, tb_shr x0, show m + (n - 1) = m + n - 1 by omega]; exact ⟨rfl, rfl⟩
  · have g := sgv_bd hS x0 x1
    have pm := pw_pos m
    have q0 : -H ≤ sgv M H x / ((2 ^ m : Nat) : Int) := by
      rw [Int.le_ediv_iff_mul_le pm]
      have : -H * ((2 ^ m : Nat) : Int) ≤ -H * 1 := Int.mul_le_mul_of_nonpos_left (by omega) (by omega)
      omega
    have q1 : sgv M H x / ((2 ^ m : Nat) : Int) < H := by
      rw [Int.ediv_lt_iff_lt_mul pm]
      have : H * 1 ≤ H * ((2 ^ m : Nat) : Int) := Int.mul_le_mul_of_nonneg_left (by omega) (by omega)
      omega
    show sgv M H (sgv M H x / ((2 ^ m : Nat) : Int) % M) / ((2 ^ n : Nat) : Int) % M = sgv M H x / ((2 ^ (m + n) : Nat) : Int) % M ∧ decide (sgv M H (sgv M H x / ((2 ^ m : Nat) : Int) % M) / ((2 ^ (n - 1) : Nat) : Int) % 2 = 1) = decide (sgv M H x / ((2 ^ (m + n - 1) : Nat) : Int) % 2 = 1)
    rw [sgv_mod hS q0 q1, div_div, div_div, show m + (n - 1) = m + n - 1 by omega]; exact ⟨rfl, rfl⟩
  · have pm := pw_pos m
    have pn := pw_pos n
    have z0 := Int.mul_nonneg x0 (Int.le_of_lt pm)
    have z1 := mod_bd (M := ((2 ^ W : Nat) : Int)) (pw_pos W) (x * ((2 ^ m : Nat) : Int))
    have z2 := Int.mul_nonneg z1.1 (Int.le_of_lt pn)
    have z3 := Int.mul_nonneg x0 (Int.le_of_lt (pw_pos (m + n)))
    have key : ∀ i, i ≤ W → tb (x * ((2 ^ m : Nat) : Int) % ((2 ^ W : Nat) : Int) * ((2 ^ n : Nat) : Int)) i = tb (x * ((2 ^ (m + n) : Nat) : Int)) i := fun i hi => by
      rw [tb_shl z1.1, tb_mod z0, tb_shl x0, tb_shl x0]
      by_cases h1 : m + n ≤ i
      · rw [decide_eq_true (by omega : n ≤ i), decide_eq_true (by omega : i - n < W), decide_eq_true (by omega : m ≤ i - n), decide_eq_true h1, show i - n - m = i - (m + n) by omega]; rfl
      · by_cases h2 : n ≤ i
        · rw [decide_eq_false (by omega : ¬ m ≤ i - n), decide_eq_false h1]; simp
        · rw [decide_eq_false h2, decide_eq_false h1]; rfl
    have goal : x * ((2 ^ m : Nat) : Int) % ((2 ^ W : Nat) : Int) * ((2 ^ n : Nat) : Int) % ((2 ^ W : Nat) : Int) = x * ((2 ^ (m + n) : Nat) : Int) % ((2 ^ W : Nat) : Int) := by
      refine tb_ext (mod_bd (pw_pos W) _).1 (mod_bd (pw_pos W) _).1 fun i => ?_
      rw [tb_mod z2, tb_mod z3]
      by_cases hi : i < W
      · rw [key i (by omega)]
      · rw [decide_eq_false hi]; rfl
    have k2 := key W (Nat.le_refl W)
    rw [← p.1] at goal k2
    rcases h46 with rfl | rfl
    · exact ⟨goal, k2⟩
    · exact ⟨goal, k2⟩

theorem sh_sum {s H M : Int} {W : Nat} (hS : Sw s H M W) (a : Int) (op : Int) (o0 : 0 ≤ op) (o1 : op ≤ 7) {f : Int} (f0 : 0 ≤ f) (f1 : f < 4294967296) {m n : Nat} (n1 : 1 ≤ n) (h : m + n ≤ 31) :
    shR op H M W (shR op H M W a m f) n (shF op H M W a m f) = shR op H M W a (m + n) f ∧ tb (shF op H M W (shR op H M W a m f) n (shF op H M W a m f)) 0 = tb (shF op H M W a (m + n) f) 0 := by
  have p := hS.pow
  have hx := mod_bd (M := M) (by omega) a
  by_cases hm : m = 0
  · subst hm
    have e1 : shR op H M W a 0 f = a % M := by unfold shR; rw [if_pos rfl]
    have e2 : shF op H M W a 0 f = f := by unfold shF; rw [if_pos rfl]
    rw [e1, e2, Nat.zero_add]
    unfold shR shF
    rw [if_neg (by omega), if_neg (by omega), if_neg (by omega), if_neg (by omega), mod_self' (by omega)]
    exact ⟨rfl, rfl⟩
  · have b := mvR_bd hS hx.1 hx.2 op m (tb f 0)
    have g := mv_sum hS hx.1 hx.2 op o0 o1 (tb f 0) (by omega) n1 h
    have e1 : shR op H M W a m f = mvR op H M W (a % M) m (tb f 0) := by unfold shR; rw [if_neg hm]
    have e2 : shF op H M W a m f = mvF op H M W (a % M) m f := by unfold shF; rw [if_neg hm]
    rw [e1, e2]
    unfold shR shF
    rw [if_neg (by omega), if_neg (by omega), if_neg (by omega), if_neg (by omega), mvF_cf (mvF_bd f0 f1 _ _ _ _ _ _).1 (mvF_bd f0 f1 _ _ _ _ _ _).2, mvF_cf f0 f1, mvF_cf f0 f1, Int.emod_eq_of_lt b.1 b.2]
    exact g

theorem dF_bd {f : Int} (f0 : 0 ≤ f) (f1 : f < 4294967296) (l : Bool) (H : Int) (W : Nat) (x y : Int) (k : Nat) : 0 ≤ dF l H W x y k f ∧ dF l H W x y k f < 4294967296 := by
  have b2 := bd2 f0 f1 1 2048 fl1 fl2048 (dC l W x y k) (dV l W x y k)
  exact byF_bd (bd1 b2.1 b2.2 16 fl16 false).1 (bd1 b2.1 b2.2 16 fl16 false).2 _ _

theorem dF_cf {f : Int} (f0 : 0 ≤ f) (f1 : f < 4294967296) (l : Bool) (H : Int) (W : Nat) (x y : Int) (k : Nat) : tb (dF l H W x y k f) 0 = dC l W x y k := by
  unfold dF byF
  generalize dC l W x y k = c
  generalize dV l W x y k = v
  generalize dR l W x y k = r
  have b1 := bd1 f0 f1 1 fl1 c
  have b2 := bd1 b1.1 b1.2 2048 fl2048 v
  have b3 := bd1 b2.1 b2.2 16 fl16 false
  have b4 := bd1 b3.1 b3.2 64 fl64 (r == 0)
  have b5 := bd1 b4.1 b4.2 128 fl128 (sgn H r)
  rw [tb_set4 b5.1, tb_set128 b4.1, tb_set64 b3.1, tb_set16 b2.1, tb_set2048 b1.1, tb_set1 f0]; simp

theorem rows_bits {W : Nat} {x y : Int} (x0 : 0 ≤ x) (x1 : x < ((2 ^ W : Nat) : Int)) (y0 : 0 ≤ y) (y1 : y < ((2 ^ W : Nat) : Int)) (l : Bool) :
    0 ≤ dN l W x y ∧ (∀ i, tb (dN l W x y) (2 * W + i) = tb (if l = true then x else y) i) ∧ (∀ i, i < W → tb (dN l W x y) (W + i) = tb y i) ∧ (∀ i, i < W → tb (dN l W x y) i = tb (if l = true then y else x) i) := by
  have pW := pw_pos W
  have e2 : ((2 ^ (2 * W) : Nat) : Int) = ((2 ^ W : Nat) : Int) * ((2 ^ W : Nat) : Int) := by rw [← Int.natCast_mul, ← Nat.pow_add, Nat.two_mul]
  have low : ∀ z : Int, 0 ≤ z → z < ((2 ^ W : Nat) : Int) → 0 ≤ z + y * ((2 ^ W : Nat) : Int) ∧ z + y * ((2 ^ W : Nat) : Int) < ((2 ^ (2 * W) : Nat) : Int) := fun z z0 z1 => by
    have h0 := Int.mul_nonneg y0 (Int.le_of_lt pW)
    refine ⟨by omega, ?_⟩
    rw [e2]
    have h1 : y * ((2 ^ W : Nat) : Int) ≤ (((2 ^ W : Nat) : Int) - 1) * ((2 ^ W : Nat) : Int) := Int.mul_le_mul_of_nonneg_right (by omega) (Int.le_of_lt pW)
    rw [Int.sub_mul, Int.one_mul] at h1
    omega
  have gen : ∀ z u : Int, 0 ≤ z → z < ((2 ^ W : Nat) : Int) → 0 ≤ u → 0 ≤ z + y * ((2 ^ W : Nat) : Int) + u * ((2 ^ (2 * W) : Nat) : Int) ∧ (∀ i, tb (z + y * ((2 ^ W : Nat) : Int) + u * ((2 ^ (2 * W) : Nat) : Int)) (2 * W + i) = tb u i) ∧ (∀ i, i < W → tb (z + y * ((2 ^ W : Nat) : Int) + u * ((2 ^ (2 * W) : Nat) : Int)) (W + i) = tb y i) ∧ (∀ i, i < W → tb (z + y * ((2 ^ W : Nat) : Int) + u * ((2 ^ (2 * W) : Nat) : Int)) i = tb z i) := fun z u z0 z1 u0 => by
    have b := low z z0 z1
    have hu := Int.mul_nonneg u0 (Int.le_of_lt (pw_pos (2 * W)))
    refine ⟨by omega, fun i => tb_up b.1 u u0 (2 * W) i b.2, fun i hi => ?_, fun i hi => ?_⟩
    · rw [tb_lo b.1 u u0 (2 * W) (W + i) (by omega), tb_up z0 y y0 W i z1]
    · rw [tb_lo b.1 u u0 (2 * W) i (by omega), tb_lo z0 y y0 W i hi]
  cases l
  · have g := gen x y x0 x1 y0
    have e : dN false W x y = x + y * ((2 ^ W : Nat) : Int) + y * ((2 ^ (2 * W) : Nat) : Int) := by
      show y * ((2 ^ (2 * W) : Nat) : Int) + y * ((2 ^ W : Nat) : Int) + x = _
      omega
    rw [e]; exact g
  · have g := gen y x y0 y1 x0
    have e : dN true W x y = y + y * ((2 ^ W : Nat) : Int) + x * ((2 ^ (2 * W) : Nat) : Int) := by
      show x * ((2 ^ (2 * W) : Nat) : Int) + y * ((2 ^ W : Nat) : Int) + y = _
      omega
    rw [e]; exact g
end Go.Proofs.Ytnfbflbghlmdjaa
