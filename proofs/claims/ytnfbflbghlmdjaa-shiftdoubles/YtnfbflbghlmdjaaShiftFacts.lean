/- Plain facts on what follows of the operations of layer 2: turns there and back, two counts in one, and double shifts of halves: no Go text in sight; each under the bounds that it names. -/
import Derived.Test.YtnfbflbghlmdjaaShiftDbl
namespace Go.Proofs.Ytnfbflbghlmdjaa
open Go.RowKit
set_option linter.unusedVariables false

theorem shR_bd {s H M : Int} {W : Nat} (hS : Sw s H M W) (op a : Int) (k : Nat) (f : Int) : 0 ≤ shR op H M W a k f ∧ shR op H M W a k f < M := by
  have p := hS.pow
  have hx := mod_bd (M := M) (by omega) a
  unfold shR
  split
  · exact hx
  · exact mvR_bd hS hx.1 hx.2 _ _ _

theorem shF_bd {f : Int} (f0 : 0 ≤ f) (f1 : f < 4294967296) (op H M : Int) (W : Nat) (a : Int) (k : Nat) : 0 ≤ shF op H M W a k f ∧ shF op H M W a k f < 4294967296 := by
  unfold shF
  split
  · exact ⟨f0, f1⟩
  · exact mvF_bd f0 f1 _ _ _ _ _ _

theorem shR_lt {s H M : Int} {W : Nat} (hS : Sw s H M W) (op a : Int) (k : Nat) (f : Int) : 0 ≤ shR op H M W a k f ∧ shR op H M W a k f < 4294967296 := by
  have p := hS.pow
  have h := shR_bd hS op a k f
  omega

/-- CF behind an operation -/
theorem mvF_cf {f : Int} (f0 : 0 ≤ f) (f1 : f < 4294967296) (op H M : Int) (W : Nat) (x : Int) (k : Nat) : tb (mvF op H M W x k f) 0 = mvC op H M W x k (tb f 0) := by
  generalize hc : mvC op H M W x k (tb f 0) = c
  generalize hv : mvV op H M W x k (tb f 0) = v
  generalize hr : mvR op H M W x k (tb f 0) = r
  have b1 := bd1 f0 f1 1 fl1 c
  have b2 := bd1 b1.1 b1.2 2048 fl2048 v
  have b3 := bd1 b2.1 b2.2 16 fl16 false
  have b4 := bd1 b3.1 b3.2 64 fl64 (r == 0)
  have b5 := bd1 b4.1 b4.2 128 fl128 (sgn H r)
  unfold mvF byF
  rw [hc, hv, hr]
  split
  · rw [tb_set2048 b1.1, tb_set1 f0]; simp
  · rw [tb_set4 b5.1, tb_set128 b4.1, tb_set64 b3.1, tb_set16 b2.1, tb_set2048 b1.1, tb_set1 f0]; simp

/-- a number of W + 1 bits is its lower W and the one above -/
theorem wide_parts {s H M : Int} {W : Nat} (hS : Sw s H M W) {n : Int} (n0 : 0 ≤ n) (n1 : n < ((2 ^ (W + 1) : Nat) : Int)) : n % M + flg (tb n W) M = n := by
  have p := hS.pow
  have e : ((2 ^ (W + 1) : Nat) : Int) = 2 * M := by rw [p.1, Nat.pow_succ]; omega
  rw [tb_div n n0 W, ← p.1]
  by_cases h : n < M
  · rw [Int.emod_eq_of_lt n0 h, Int.ediv_eq_zero_of_lt n0 h]; simp [flg]
  · have e1 : n % M = n - M := by rw [← Int.sub_emod_right, Int.emod_eq_of_lt (by omega) (by omega)]
    have e2 : n / M = 1 := by
      have h2 := Int.mul_ediv_add_emod n M
      rw [e1] at h2
      have : M * (n / M) = M * 1 := by omega
      exact Int.eq_of_mul_eq_mul_left (by omega) this
    rw [e1, e2]; simp [flg]

theorem mod_self' {M a : Int} (h : 0 < M) : a % M % M = a % M := Int.emod_emod_of_dvd a (Int.dvd_refl M)

/-- Rol and Ror undo one another -/
theorem back_turn {s H M : Int} {W : Nat} (hS : Sw s H M W) (a f : Int) {k : Nat} (k2 : k ≤ 31) :
    shR 1 H M W (shR 0 H M W a k f) k f = a % M ∧ shR 0 H M W (shR 1 H M W a k f) k f = a % M := by
  have p := hS.pow
  have hx := mod_bd (M := M) (by omega) a
  have hR : isR W := by rcases hS with ⟨rfl, rfl, rfl, rfl⟩ | ⟨rfl, rfl, rfl, rfl⟩ | ⟨rfl, rfl, rfl, rfl⟩ <;> (unfold isR; decide)
  by_cases hk : k = 0
  · unfold shR
    rw [if_pos hk, if_pos hk, if_pos hk, if_pos hk, mod_self' (by omega)]
    exact ⟨rfl, rfl⟩
  · have b0 := shR_bd hS 0 a k f
    have b1 := shR_bd hS 1 a k f
    have x1 : a % M < ((2 ^ W : Nat) : Int) := by rw [← p.1]; exact hx.2
    have e0 : shR 0 H M W a k f = turn W (a % M) k := by unfold shR; rw [if_neg hk]; rfl
    have e1 : shR 1 H M W a k f = turn W (a % M) (4 * W - k) := by unfold shR; rw [if_neg hk]; rfl
    have g0 : ∀ y, 0 ≤ y → y < M → shR 0 H M W y k f = turn W y k := fun y y0 y1 => by unfold shR; rw [if_neg hk, Int.emod_eq_of_lt y0 y1]; rfl
    have g1 : ∀ y, 0 ≤ y → y < M → shR 1 H M W y k f = turn W y (4 * W - k) := fun y y0 y1 => by unfold shR; rw [if_neg hk, Int.emod_eq_of_lt y0 y1]; rfl
    rw [g1 _ b0.1 b0.2, g0 _ b1.1 b1.2, e0, e1, turn_turn hR hx.1 x1, turn_turn hR hx.1 x1]
    exact ⟨turn_zero hx.1 x1 (by rw [show k + (4 * W - k) = W * 4 by omega]; exact Nat.mul_mod_right W 4), turn_zero hx.1 x1 (by rw [show 4 * W - k + k = W * 4 by omega]; exact Nat.mul_mod_right W 4)⟩

/-- Rcl and Rcr undo one another, CF too -/
theorem back_carry {s H M : Int} {W : Nat} (hS : Sw s H M W) (a : Int) {f : Int} (f0 : 0 ≤ f) (f1 : f < 4294967296) {k : Nat} (k2 : k ≤ 31) (op q : Int) (hq : op = 2 ∧ q = 3 ∨ op = 3 ∧ q = 2) :
    shR q H M W (shR op H M W a k f) k (shF op H M W a k f) = a % M ∧ tb (shF q H M W (shR op H M W a k f) k (shF op H M W a k f)) 0 = tb f 0 := by
  have p := hS.pow
  have hx := mod_bd (M := M) (by omega) a
  have hR : isR (W + 1) := by rcases hS with ⟨rfl, rfl, rfl, rfl⟩ | ⟨rfl, rfl, rfl, rfl⟩ | ⟨rfl, rfl, rfl, rfl⟩ <;> (unfold isR; decide)
  by_cases hk : k = 0
  · unfold shR shF
    rw [if_pos hk, if_pos hk, if_pos hk, if_pos hk, mod_self' (by omega)]
    exact ⟨rfl, rfl⟩
  · have e : ((2 ^ (W + 1) : Nat) : Int) = 2 * M := by rw [p.1, Nat.pow_succ]; omega
    have y : 0 ≤ a % M + flg (tb f 0) M ∧ a % M + flg (tb f 0) M < ((2 ^ (W + 1) : Nat) : Int) := by rw [e]; unfold flg; split <;> omega
    have hpart : (a % M + flg (tb f 0) M) % M = a % M ∧ tb (a % M + flg (tb f 0) M) W = tb f 0 := by
      have h2 := wide_parts hS y.1 y.2
      cases hb : tb f 0
      · rw [hb] at h2 y
        have e3 : a % M + flg false M = a % M := by simp [flg]
        rw [e3] at h2 ⊢
        refine ⟨mod_self' (by omega), ?_⟩
        exact tb_hi (by rw [← p.1]; exact hx.2) (Nat.le_refl W)
      · rw [hb] at y h2
        have e3 : a % M + flg true M = a % M + 1 * ((2 ^ W : Nat) : Int) := by rw [← p.1]; simp [flg]
        refine ⟨?_, ?_⟩
        · show (a % M + M) % M = a % M
          rw [Int.add_emod_right, mod_self' (by omega)]
        · rw [e3]
          have := tb_up hx.1 1 (by decide) W 0 (by rw [← p.1]; exact hx.2)
          rw [Nat.add_zero] at this
          rw [this]; decide
    have key : ∀ i j : Nat, (i + j) % (W + 1) = 0 → turn (W + 1) (turn (W + 1) (a % M + flg (tb f 0) M) i % M % M + flg (tb (turn (W + 1) (a % M + flg (tb f 0) M) i) W) M) j = a % M + flg (tb f 0) M := fun i j h => by
      have t := turn_bd (W + 1) (a % M + flg (tb f 0) M) i
      rw [mod_self' (by omega), wide_parts hS t.1 t.2, turn_turn hR y.1 y.2, turn_zero y.1 y.2 h]
    have z1 : (k + (4 * (W + 1) - k)) % (W + 1) = 0 := by rw [show k + (4 * (W + 1) - k) = (W + 1) * 4 by omega]; exact Nat.mul_mod_right _ 4
    have z2 : (4 * (W + 1) - k + k) % (W + 1) = 0 := by rw [show 4 * (W + 1) - k + k = (W + 1) * 4 by omega]; exact Nat.mul_mod_right _ 4
    unfold shR shF
    rw [if_neg hk, if_neg hk, if_neg hk, if_neg hk, mvF_cf (mvF_bd f0 f1 _ _ _ _ _ _).1 (mvF_bd f0 f1 _ _ _ _ _ _).2, mvF_cf f0 f1]
    rcases hq with ⟨rfl, rfl⟩ | ⟨rfl, rfl⟩
    · show turn (W + 1) (turn (W + 1) (a % M + flg (tb f 0) M) k % M % M + flg (tb (turn (W + 1) (a % M + flg (tb f 0) M) k) W) M) (4 * (W + 1) - k) % M = a % M ∧ tb (turn (W + 1) (turn (W + 1) (a % M + flg (tb f 0) M) k % M % M + flg (tb (turn (W + 1) (a % M + flg (tb f 0) M) k) W) M) (4 * (W + 1) - k)) W = tb f 0
      rw [key _ _ z1]; exact hpart
    · show turn (W + 1) (turn (W + 1) (a % M + flg (tb f 0) M) (4 * (W + 1) - k) % M % M + flg (tb (turn (W + 1) (a % M + flg (tb f 0) M) (4 * (W + 1) - k)) W) M) k % M = a % M ∧ tb (turn (W + 1) (turn (W + 1) (a % M + flg (tb f 0) M) (4 * (W + 1) - k) % M % M + flg (tb (turn (W + 1) (a % M + flg (tb f 0) M) (4 * (W + 1) - k)) W) M) k) W = tb f 0
      rw [key _ _ z2]; exact hpart
end Go.Proofs.Ytnfbflbghlmdjaa
