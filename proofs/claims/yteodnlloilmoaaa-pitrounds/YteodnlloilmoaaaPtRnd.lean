/- Plain facts for PitRounds. -/
import Derived.Test.YteodnlloilmoaaaPtFacts
import Derived.Test.YteodnlloilmoaaaPitNilLaw
namespace Go.Proofs.Yteodnlloilmoaaa
open Go.ChangeShapes Go.WideShapes Go.ChangeAt Go.RowKit
set_option linter.unusedVariables false

/-! plain facts: where the remainder stands, k steps on -/
def pos (p L k : Int) : Int := if p + k < L then p + k else p + k - L
def gB (p L h k : Int) : Bool := decide (pos p L k < h)
def dN (p L h k : Int) : Int := if (if p < h then h - p else h - p + L) ≤ k then 1 else 0
def uN (p L k : Int) : Int := if L - p ≤ k then 1 else 0

theorem pos_eq {n L k : Int} (L0 : 2 ≤ L) (k0 : 0 ≤ k) (k1 : k ≤ L) : (n + k) % L = pos (n % L) L k := by
  have r := rem_bd (n := n) (l := L) (by omega)
  rw [← Int.emod_add_emod]
  generalize n % L = p at r ⊢
  unfold pos
  by_cases g : p + k < L
  · rw [if_pos g]
    exact Int.emod_eq_of_lt (by omega) g
  · rw [if_neg g, ← Int.sub_emod_right]
    exact Int.emod_eq_of_lt (by omega) (by omega)

section
variable {p L h k : Int}
theorem step_d (p0 : 0 ≤ p) (p1 : p < L) (h0 : 1 ≤ h) (h1 : h < L) (k0 : 0 ≤ k) (k1 : k < L) (a : gB p L h k = true) (b : gB p L h (k + 1) = false) : dN p L h k + 1 = dN p L h (k + 1) := by
  unfold gB pos at a b
  simp only [decide_eq_true_eq, decide_eq_false_iff_not] at a b
  unfold dN
  split at a <;> split at b <;> (repeat' split) <;> omega
theorem step_u (p0 : 0 ≤ p) (p1 : p < L) (h0 : 1 ≤ h) (h1 : h < L) (k0 : 0 ≤ k) (k1 : k < L) (a : gB p L h k = false) (b : gB p L h (k + 1) = true) : uN p L k + 1 = uN p L (k + 1) := by
  unfold gB pos at a b
  simp only [decide_eq_true_eq, decide_eq_false_iff_not] at a b
  unfold uN
  split at a <;> split at b <;> (repeat' split) <;> omega
theorem stay_d (p0 : 0 ≤ p) (p1 : p < L) (h0 : 1 ≤ h) (h1 : h < L) (k0 : 0 ≤ k) (k1 : k < L) (a : ¬ (gB p L h k = true ∧ gB p L h (k + 1) = false)) : dN p L h k = dN p L h (k + 1) := by
  unfold gB pos at a
  simp only [decide_eq_true_eq, decide_eq_false_iff_not] at a
  unfold dN
  split at a <;> split at a <;> (repeat' split) <;> omega
theorem stay_u (p0 : 0 ≤ p) (p1 : p < L) (h0 : 1 ≤ h) (h1 : h < L) (k0 : 0 ≤ k) (k1 : k < L) (a : ¬ (gB p L h k = false ∧ gB p L h (k + 1) = true)) : uN p L k = uN p L (k + 1) := by
  unfold gB pos at a
  simp only [decide_eq_true_eq, decide_eq_false_iff_not] at a
  unfold uN
  split at a <;> split at a <;> (repeat' split) <;> omega
theorem d_0 (p0 : 0 ≤ p) (p1 : p < L) (h0 : 1 ≤ h) (h1 : h < L) : dN p L h 0 = 0 := by unfold dN; repeat' split <;> omega
theorem u_0 (p0 : 0 ≤ p) (p1 : p < L) : uN p L 0 = 0 := by unfold uN; split <;> omega
theorem d_L (p0 : 0 ≤ p) (p1 : p < L) (h0 : 1 ≤ h) (h1 : h < L) : dN p L h L = 1 := by unfold dN; repeat' split <;> omega
theorem u_L (p0 : 0 ≤ p) (p1 : p < L) : uN p L L = 1 := by unfold uN; split <;> omega
theorem g_L (p0 : 0 ≤ p) (p1 : p < L) : gB p L h L = gB p L h 0 := by
  unfold gB pos
  rw [if_neg (by omega), if_pos (by omega)]
  congr 1
  rw [show p + L - L = p + 0 by omega]
theorem dN_bd (p L h k : Int) : 0 ≤ dN p L h k ∧ dN p L h k ≤ 1 := by unfold dN; repeat' split <;> omega
theorem uN_bd (p L k : Int) : 0 ≤ uN p L k ∧ uN p L k ≤ 1 := by unfold uN; split <;> omega
end

/-- The line of a mode. -/
theorem cnS_line0 (l : Int) {now : Int} (n0 : 0 ≤ now) (n1 : now < 18446744073709551616) : (fS 0 l 0).line now = decide (big l ≤ now) := by
  have e := cnS_steps 0 l n0 n1
  have h : (fS 0 l 0).line now = decide ((cnS 0 l).whole ≤ (cnS 0 l).steps now) := rfl
  rw [h, e]
  rfl
theorem cnS_line3 (l : Int) {now : Int} (n0 : 0 ≤ now) (n1 : now < 18446744073709551616) : (fS 3 l 0).line now = decide (now % big l < (big l + 1) / 2) := by
  have e := cnS_steps 3 l n0 n1
  have h : (fS 3 l 0).line now = decide ((cnS 3 l).steps now % (cnS 3 l).whole < ((cnS 3 l).whole + 1) / 2) := rfl
  rw [h, e]
  rfl
theorem cnS_line2 (l : Int) {now : Int} (l0 : 0 ≤ l) (l1 : l < 65536) (n0 : 0 ≤ now) (n1 : now < 18446744073709551616) : (fS 2 l 0).line now = decide (now % big l < big l - 1) := by
  have e := cnS_steps 2 l n0 n1
  have h : (fS 2 l 0).line now = ((cnS 2 l).steps now % (cnS 2 l).whole != (cnS 2 l).whole - 1) := rfl
  rw [h, e]
  have b := big_bd l0 l1
  have r := rem_bd (n := now) b.1
  show (now % big l != big l - 1) = _
  by_cases g : now % big l = big l - 1
  · rw [g]; simp
  · have : now % big l < big l - 1 := by omega
    simp [g, this]

/-- The line of the p of a mode, from a time on. -/
theorem line_from {m L h n : Int} (hm : m = 2 ∧ h = L - 1 ∨ m = 3 ∧ h = (L + 1) / 2) (L0 : 2 ≤ L) (L1 : L < 2000) (n0 : 0 ≤ n) (n1 : n < 4294967296) {k : Int} (k0 : 0 ≤ k) (k1 : k ≤ L) : (fS m L 0).line (n + k) = gB (n % L) L h k := by
  have e : big L = L := by unfold big; rw [if_neg (by omega)]
  unfold gB
  rw [← pos_eq L0 k0 k1]
  rcases hm with ⟨rfl, rfl⟩ | ⟨rfl, rfl⟩
  · rw [cnS_line2 L (by omega) (by omega) (by omega) (by omega), e]
  · rw [cnS_line3 L (by omega) (by omega), e]

end Go.Proofs.Yteodnlloilmoaaa
