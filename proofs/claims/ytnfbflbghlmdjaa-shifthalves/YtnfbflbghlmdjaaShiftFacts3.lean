/- Plain facts on double shifts as two shifts: no Go text in sight; each under the bounds that it names. -/
import Derived.Test.YtnfbflbghlmdjaaShiftFacts2
namespace Go.Proofs.Ytnfbflbghlmdjaa
open Go.RowKit
set_option linter.unusedVariables false

theorem halves {s H M : Int} {W : Nat} (hS : Sw s H M W) (a b f : Int) {k : Nat} (k1 : 1 ≤ k) (kW : k < W) :
    dR true W (a % M) (b % M) k = bits .or .u32 (shR 4 H M W a k f) (shR 5 H M W b (W - k) f) ∧ dR false W (a % M) (b % M) k = bits .or .u32 (shR 5 H M W a k f) (shR 4 H M W b (W - k) f) ∧
    dC true W (a % M) (b % M) k = mvC 4 H M W (a % M) k (tb f 0) ∧ dC false W (a % M) (b % M) k = mvC 5 H M W (a % M) k (tb f 0) := by
  have p := hS.pow
  have hx := mod_bd (M := M) (by omega) a
  have hy := mod_bd (M := M) (by omega) b
  have x1 : a % M < ((2 ^ W : Nat) : Int) := by rw [← p.1]; exact hx.2
  have y1 : b % M < ((2 ^ W : Nat) : Int) := by rw [← p.1]; exact hy.2
  have e4 : ∀ (z : Int) (j : Nat), j ≠ 0 → shR 4 H M W z j f = z % M * ((2 ^ j : Nat) : Int) % ((2 ^ W : Nat) : Int) := fun z j hj => by
    unfold shR; rw [if_neg hj, ← p.1]; rfl
  have e5 : ∀ (z : Int) (j : Nat), j ≠ 0 → shR 5 H M W z j f = z % M / ((2 ^ j : Nat) : Int) := fun z j hj => by
    unfold shR; rw [if_neg hj]; rfl
  have bd : ∀ op z j, 0 ≤ shR op H M W z j f ∧ shR op H M W z j f < 4294967296 := fun op z j => shR_lt hS op z j f
  have T := rows_bits hx.1 x1 hy.1 y1 true
  have F := rows_bits hx.1 x1 hy.1 y1 false
  have t4 : ∀ (z : Int) (j i : Nat), j ≠ 0 → tb (shR 4 H M W z j f) i = (decide (i < W) && (decide (j ≤ i) && tb (z % M) (i - j))) := fun z j i hj => by
    have hz := mod_bd (M := M) (by omega) z
    rw [e4 z j hj, tb_mod (Int.mul_nonneg hz.1 (Int.le_of_lt (pw_pos j))), tb_shl hz.1]
  have t5 : ∀ (z : Int) (j i : Nat), j ≠ 0 → tb (shR 5 H M W z j f) i = tb (z % M) (j + i) := fun z j i hj => by
    have hz := mod_bd (M := M) (by omega) z
    rw [e5 z j hj, tb_shr hz.1]
  refine ⟨?_, ?_, ?_, ?_⟩
  · have o := or_bd (bd 4 a k).1 (bd 4 a k).2 (bd 5 b (W - k)).1 (bd 5 b (W - k)).2
    refine tb_ext (dR_bd _ _ _ _ _).1 o.1 fun i => ?_
    rw [tb_or (bd 4 a k).1 (bd 4 a k).2 (bd 5 b (W - k)).1 (bd 5 b (W - k)).2, t4 a k i (by omega), t5 b (W - k) i (by omega)]
    show tb (dN true W (a % M) (b % M) / ((2 ^ (2 * W - k) : Nat) : Int) % ((2 ^ W : Nat) : Int)) i = _
    rw [tb_mod (Int.ediv_nonneg T.1 (Int.le_of_lt (pw_pos _))), tb_shr T.1]
    by_cases hi : i < W
    · by_cases hk : k ≤ i
      · rw [show 2 * W - k + i = 2 * W + (i - k) by omega, T.2.1, decide_eq_true hi, decide_eq_true hk, tb_hi y1 (by omega : W ≤ W - k + i)]
        simp
      · rw [show 2 * W - k + i = W + (W - k + i) by omega, T.2.2.1 _ (by omega), decide_eq_true hi, decide_eq_false hk]
        simp
    · rw [decide_eq_false hi, tb_hi y1 (by omega : W ≤ W - k + i)]; rfl
  · have o := or_bd (bd 5 a k).1 (bd 5 a k).2 (bd 4 b (W - k)).1 (bd 4 b (W - k)).2
    refine tb_ext (dR_bd _ _ _ _ _).1 o.1 fun i => ?_
    rw [tb_or (bd 5 a k).1 (bd 5 a k).2 (bd 4 b (W - k)).1 (bd 4 b (W - k)).2, t5 a k i (by omega), t4 b (W - k) i (by omega)]
    show tb (dN false W (a % M) (b % M) / ((2 ^ k : Nat) : Int) % ((2 ^ W : Nat) : Int)) i = _
    rw [tb_mod (Int.ediv_nonneg F.1 (Int.le_of_lt (pw_pos _))), tb_shr F.1]
    by_cases hi : i < W
    · by_cases hk : W - k ≤ i
      · rw [show k + i = W + (i - (W - k)) by omega, F.2.2.1 _ (by omega), decide_eq_true hi, decide_eq_true hk, tb_hi x1 (by omega : W ≤ W + (i - (W - k)))]
        simp
      · rw [F.2.2.2 _ (by omega), decide_eq_true hi, decide_eq_false hk]
        simp
    · rw [decide_eq_false hi, tb_hi x1 (by omega : W ≤ k + i)]; rfl
  · show tb (dN true W (a % M) (b % M)) (3 * W - k) = tb (a % M * ((2 ^ k : Nat) : Int)) W
    rw [tb_shl hx.1, show 3 * W - k = 2 * W + (W - k) by omega, T.2.1, decide_eq_true (by omega : k ≤ W)]; simp
  · show tb (dN false W (a % M) (b % M)) (k - 1) = tb (a % M) (k - 1)
    rw [F.2.2.2 _ (by omega)]; simp

theorem cf_halves {s H M : Int} {W : Nat} (hS : Sw s H M W) (a b : Int) {f : Int} (f0 : 0 ≤ f) (f1 : f < 4294967296) {k : Nat} (k1 : 1 ≤ k) (kW : k < W) :
    hasF (dF true H W (a % M) (b % M) k f) 1 = hasF (shF 4 H M W a k f) 1 ∧ hasF (dF false H W (a % M) (b % M) k f) 1 = hasF (shF 5 H M W a k f) 1 := by
  have h := halves hS a b f k1 kW
  have e : ∀ op, shF op H M W a k f = mvF op H M W (a % M) k f := fun op => by unfold shF; rw [if_neg (by omega)]
  rw [hasF_1 (dF_bd f0 f1 _ _ _ _ _ _).1, hasF_1 (dF_bd f0 f1 _ _ _ _ _ _).1, hasF_1 (shF_bd f0 f1 _ _ _ _ _ _).1, hasF_1 (shF_bd f0 f1 _ _ _ _ _ _).1, dF_cf f0 f1, dF_cf f0 f1, e, e, mvF_cf f0 f1, mvF_cf f0 f1]
  exact ⟨h.2.2.1, h.2.2.2⟩
end Go.Proofs.Ytnfbflbghlmdjaa
