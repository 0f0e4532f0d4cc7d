/- Plain facts on signed products and quotients of 32 bits: no Go text in sight; each under the bounds that it names. -/
import Derived.Test.YtecfkgnffhiemaaMulFacts
namespace Go.Proofs.Ytecfkgnffhiemaa
open Go.RowKit
set_option linter.unusedVariables false

theorem sgv_back {a : Int} (h0 : -2147483648 ≤ a) (h1 : a < 2147483648) : sgv 4294967296 2147483648 (a % 4294967296) = a := by
  unfold sgv; split <;> omega

theorem mulP_back {a b : Int} (h0 : -2147483648 ≤ a) (h1 : a < 2147483648) (k0 : -2147483648 ≤ b) (k1 : b < 2147483648) : mulP true 4294967296 2147483648 (a % 4294967296) (b % 4294967296) = a * b := by
  show sgv 4294967296 2147483648 (a % 4294967296 % 4294967296) * sgv 4294967296 2147483648 (b % 4294967296 % 4294967296) = a * b
  rw [Int.emod_emod_of_dvd _ (Int.dvd_refl _), Int.emod_emod_of_dvd _ (Int.dvd_refl _), sgv_back h0 h1, sgv_back k0 k1]

/-- a signed product is its halves put together -/
theorem join_s (P : Int) : P / 4294967296 % 4294967296 * 4294967296 + P % 4294967296 = P % 18446744073709551616 := by omega

theorem divA_back {a : Int} (h0 : -2147483648 ≤ a) (h1 : a < 2147483648) : divA 4294967296 2147483648 (a % 4294967296) (a % 18446744073709551616 / 4294967296 % 4294967296) = a := by
  unfold divA
  have e : divN 4294967296 (a % 4294967296) (a % 18446744073709551616 / 4294967296 % 4294967296) = a % 18446744073709551616 := by
    unfold divN; omega
  rw [e]
  show sgv 18446744073709551616 9223372036854775808 (a % 18446744073709551616) = a
  unfold sgv; split <;> omega

theorem tdiv_small {a b : Int} (h0 : -2147483648 ≤ a) (h1 : a < 2147483648) (hb : b ≠ 0) : -2147483648 ≤ a.tdiv b ∧ a.tdiv b ≤ 2147483648 ∧ (a.tdiv b = 2147483648 ↔ a = -2147483648 ∧ b = -1) := by
  have h : (a.tdiv b).natAbs = a.natAbs / b.natAbs := Int.natAbs_tdiv a b
  have h2 : (a.tdiv b).natAbs ≤ a.natAbs := by rw [h]; exact Nat.div_le_self _ _
  refine ⟨by omega, by omega, ?_, ?_⟩
  · intro e
    have n1 : a.natAbs = 2147483648 := by omega
    have ha : a = -2147483648 := by omega
    subst ha
    refine ⟨rfl, ?_⟩
    by_cases h1' : b.natAbs = 1
    · have : b = 1 ∨ b = -1 := by omega
      rcases this with rfl | rfl
      · simp at e
      · rfl
    · have hb2 : 2 ≤ b.natAbs := by omega
      have : (-2147483648 : Int).natAbs / b.natAbs ≤ (-2147483648 : Int).natAbs / 2 := Nat.div_le_div_left hb2 (by decide)
      rw [← h, e] at this
      simp at this
  · rintro ⟨rfl, rfl⟩; rfl

theorem tmod_small {a b : Int} (h0 : -2147483648 ≤ a) (h1 : a < 2147483648) (hb : b ≠ 0) : -2147483648 ≤ a.tmod b ∧ a.tmod b < 2147483648 := by
  have h : (a.tmod b).natAbs = a.natAbs % b.natAbs := Int.natAbs_tmod a b
  have h2 : (a.tmod b).natAbs ≤ a.natAbs := by rw [h]; exact Nat.mod_le _ _
  by_cases hs : 0 ≤ a
  · omega
  · have : a.tmod b ≤ 0 := by
      have := Int.tmod_nonneg b (a := -a) (by omega)
      rw [Int.neg_tmod] at this
      omega
    omega

theorem signs_none {a b : Int} (h0 : -2147483648 ≤ a) (h1 : a < 2147483648) (k0 : -2147483648 ≤ b) (k1 : b < 2147483648) (h : b = 0 ∨ (b = -1 ∧ a = -2147483648)) :
    divO true 4294967296 2147483648 (a % 4294967296) (a % 18446744073709551616 / 4294967296 % 4294967296) (b % 4294967296) = false := by
  unfold divO
  rw [divA_back h0 h1, Int.emod_emod_of_dvd _ (Int.dvd_refl _), sgv_back k0 k1]
  rcases h with rfl | ⟨rfl, rfl⟩
  · rfl
  · rfl

theorem signs_some {a b : Int} (h0 : -2147483648 ≤ a) (h1 : a < 2147483648) (k0 : -2147483648 ≤ b) (k1 : b < 2147483648) (hb : b ≠ 0) (h : ¬ (b = -1 ∧ a = -2147483648)) :
    divO true 4294967296 2147483648 (a % 4294967296) (a % 18446744073709551616 / 4294967296 % 4294967296) (b % 4294967296) = true ∧
    ansQ true 4294967296 2147483648 (a % 4294967296) (a % 18446744073709551616 / 4294967296 % 4294967296) (b % 4294967296) = a.tdiv b % 4294967296 ∧
    ansR true 4294967296 2147483648 (a % 4294967296) (a % 18446744073709551616 / 4294967296 % 4294967296) (b % 4294967296) = a.tmod b % 4294967296 := by
  have t := tdiv_small h0 h1 hb
  have o : divO true 4294967296 2147483648 (a % 4294967296) (a % 18446744073709551616 / 4294967296 % 4294967296) (b % 4294967296) = true := by
    unfold divO
    rw [divA_back h0 h1, Int.emod_emod_of_dvd _ (Int.dvd_refl _), sgv_back k0 k1, if_neg (by omega), if_pos rfl, decide_eq_true (by omega), decide_eq_true (by
      have : a.tdiv b ≠ 2147483648 := fun e => h ⟨(t.2.2.1 e).2, (t.2.2.1 e).1⟩
      omega)]
    rfl
  refine ⟨o, ?_, ?_⟩
  · unfold ansQ; rw [o, if_pos rfl]; unfold divQ; rw [if_pos rfl, divA_back h0 h1, Int.emod_emod_of_dvd _ (Int.dvd_refl _), sgv_back k0 k1]
  · unfold ansR; rw [o, if_pos rfl]; unfold divR; rw [if_pos rfl, divA_back h0 h1, Int.emod_emod_of_dvd _ (Int.dvd_refl _), sgv_back k0 k1]
end Go.Proofs.Ytecfkgnffhiemaa
