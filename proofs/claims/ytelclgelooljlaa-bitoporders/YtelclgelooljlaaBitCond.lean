/- The contract of bitop.Cond: for every input within its kinds it returns what is named, and the world has at most new blocks. -/
import Derived.Test.YtelclgelooljlaaBitLeaf
namespace Go.Proofs.Ytelclgelooljlaa
open Go.ChangeShapes Go.WideShapes Go.ChangeAt Go.RowKit
set_option linter.unusedVariables false

theorem and_has {f : Int} (f0 : 0 ≤ f) (f1 : f < 4294967296) {j : Nat} (hj : j < 32) : (bits .and .u32 f ((2 ^ j : Nat) : Int) != 0) = hasF f ((2 ^ j : Nat) : Int) := by
  rw [and_pow f0 f1 j hj, hasF_tb f0]

theorem btConds_any (f : Int) (w : World) (f0 : 0 ≤ f) (f1 : f < 4294967296) :
    Calls Try.prog 21 #[.int .u32 f] w fun e w' =>
      e = .returned (.agg #[.bool (hasF f 2048), .bool (hasF f 1), .bool (hasF f 64), .bool (hasF f 1 || hasF f 64), .bool (hasF f 128), .bool (hasF f 4), .bool (hasF f 128 != hasF f 2048), .bool (hasF f 64 || (hasF f 128 != hasF f 2048))]) ∧ Grown w w' := by
  have h0 : (bits .and .u32 f 1 != 0) = hasF f 1 := and_has f0 f1 (j := 0) (by decide)
  have h2 : (bits .and .u32 f 4 != 0) = hasF f 4 := and_has f0 f1 (j := 2) (by decide)
  have h6 : (bits .and .u32 f 64 != 0) = hasF f 64 := and_has f0 f1 (j := 6) (by decide)
  have h7 : (bits .and .u32 f 128 != 0) = hasF f 128 := and_has f0 f1 (j := 7) (by decide)
  have h11 : (bits .and .u32 f 2048 != 0) = hasF f 2048 := and_has f0 f1 (j := 11) (by decide)
  revert h0 h2 h6 h7 h11
  generalize hasF f 1 = c
  generalize hasF f 4 = p
  generalize hasF f 64 = z
  generalize hasF f 128 = s
  generalize hasF f 2048 = o
  intro h0 h2 h6 h7 h11
  cases c <;> cases z
  all_goals
    go_enter Try.func21, Try.ntmps21
    go_wp2
    cases s <;> cases o <;> (refine bodyPost_ret ?_ rfl ⟨rfl, Grown.alloc (Grown.refl _) _ _⟩; simp [results, Try.results21, go_sem])

end Go.Proofs.Ytelclgelooljlaa
