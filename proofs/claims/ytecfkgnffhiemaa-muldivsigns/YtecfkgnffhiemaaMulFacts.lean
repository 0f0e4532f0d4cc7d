/- Plain facts on products and quotients there and back: no Go text in sight; each under the bounds that it names. -/
import Derived.Test.YtecfkgnffhiemaaMulDivs
namespace Go.Proofs.Ytecfkgnffhiemaa
open Go.RowKit
set_option linter.unusedVariables false

/-- a product is its halves put together -/
theorem mul_join {s H M : Int} {W : Nat} (hS : Sw s H M W) (a b : Int) : mulU false M H a b * M + mulL false M H a b = a % M * (b % M) := by
  have p := hS.pow
  have ha := mod_bd p.2.2.2.2.2.1 a
  have hb := mod_bd p.2.2.2.2.2.1 b
  have h0 : 0 ≤ a % M * (b % M) := Int.mul_nonneg ha.1 hb.1
  have h1 : a % M * (b % M) < M * M := Int.lt_of_le_of_lt (Int.mul_le_mul_of_nonneg_left (Int.le_of_lt hb.2) ha.1) (Int.mul_lt_mul_of_pos_right ha.2 p.2.2.2.2.2.1)
  unfold mulU mulL
  rw [show mulP false M H a b = a % M * (b % M) from rfl]
  generalize a % M * (b % M) = P at *
  have q0 : 0 ≤ P / M := Int.ediv_nonneg h0 (by omega)
  have q1 : P / M < M := Int.ediv_lt_of_lt_mul p.2.2.2.2.2.1 h1
  rw [Int.emod_eq_of_lt q0 q1]
  have := Int.mul_ediv_add_emod P M
  rw [Int.mul_comm]
  omega

theorem divN_join {s H M : Int} {W : Nat} (hS : Sw s H M W) (a b : Int) : divN M (mulL false M H a b) (mulU false M H a b) = a % M * (b % M) := by
  have l := mulL_bd hS false a b
  have u := mulU_bd hS false a b
  unfold divN
  rw [Int.emod_eq_of_lt l.1 l.2, Int.emod_eq_of_lt u.1 u.2]
  exact mul_join hS a b

/-- a product divided by a part that is not 0 is the other one -/
theorem div_back {s H M : Int} {W : Nat} (hS : Sw s H M W) (a b : Int) (hb : b % M ≠ 0) :
    divO false M H (mulL false M H a b) (mulU false M H a b) b = true ∧ ansQ false M H (mulL false M H a b) (mulU false M H a b) b = a % M ∧ ansR false M H (mulL false M H a b) (mulU false M H a b) b = 0 := by
  have p := hS.pow
  have ha := mod_bd p.2.2.2.2.2.1 a
  have hy := mod_bd p.2.2.2.2.2.1 b
  have e := divN_join hS a b
  have q : divN M (mulL false M H a b) (mulU false M H a b) / (b % M) = a % M := by rw [e]; exact Int.mul_ediv_cancel _ hb
  have r : divN M (mulL false M H a b) (mulU false M H a b) % (b % M) = 0 := by rw [e]; exact Int.mul_emod_left _ _
  have o : divO false M H (mulL false M H a b) (mulU false M H a b) b = true := by
    unfold divO; rw [if_neg hb, if_neg (by decide), q, decide_eq_true ha.2]
  refine ⟨o, ?_, ?_⟩
  · unfold ansQ; rw [o, if_pos rfl]; unfold divQ; rw [if_neg (by decide)]; exact q
  · unfold ansR; rw [o, if_pos rfl]; unfold divR; rw [if_neg (by decide)]; exact r

theorem div_fits {s H M : Int} {W : Nat} (hS : Sw s H M W) (a b c : Int) (hz : c % M ≠ 0) : divO false M H a b c = decide (b % M < c % M) := by
  have p := hS.pow
  have ha := mod_bd p.2.2.2.2.2.1 a
  have hy := mod_bd p.2.2.2.2.2.1 b
  have hc := mod_bd p.2.2.2.2.2.1 c
  have z0 : 0 < c % M := by omega
  unfold divO
  rw [if_neg hz, if_neg (by decide)]
  congr 1
  rw [eq_iff_iff, Int.ediv_lt_iff_lt_mul z0]
  unfold divN
  constructor
  · intro h
    refine Int.lt_of_not_ge fun hn => ?_
    have k : M * (c % M) ≤ b % M * M := by rw [Int.mul_comm M]; exact Int.mul_le_mul_of_nonneg_right hn (by omega)
    omega
  · intro h
    have k : (b % M + 1) * M ≤ c % M * M := Int.mul_le_mul_of_nonneg_right (by omega) (by omega)
    rw [Int.add_mul, Int.one_mul] at k
    rw [Int.mul_comm M]
    omega

/-- what is divided is the quotient times the divisor, and what is left -/
theorem div_whole {s H M : Int} {W : Nat} (hS : Sw s H M W) (a b c : Int) (hz : c % M ≠ 0) (h : b % M < c % M) :
    ansR false M H a b c < c % M ∧ ansQ false M H a b c * (c % M) + ansR false M H a b c = b % M * M + a % M ∧ 0 ≤ ansQ false M H a b c * (c % M) := by
  have p := hS.pow
  have hc := mod_bd p.2.2.2.2.2.1 c
  have z0 : 0 < c % M := by omega
  have o : divO false M H a b c = true := by rw [div_fits hS a b c hz, decide_eq_true h]
  have bn := divN_bd hS a b
  unfold ansR ansQ
  rw [o, if_pos rfl, if_pos rfl]
  unfold divR divQ
  rw [if_neg (by decide), if_neg (by decide)]
  refine ⟨(mod_bd z0 _).2, ?_, Int.mul_nonneg (Int.ediv_nonneg bn.1 hc.1) hc.1⟩
  have e := Int.mul_ediv_add_emod (divN M a b) (c % M)
  rw [Int.mul_comm] at e
  exact e
end Go.Proofs.Ytecfkgnffhiemaa
