/- The walk of the statement BitopConds: for every input within its kinds it returns true, and the world has at most new blocks. -/
import Derived.Test.YtelclgelooljlaaBitAwake
import Derived.Test.YtelclgelooljlaaBitRefCond
namespace Go.Proofs.Ytelclgelooljlaa
open Go.ChangeShapes Go.WideShapes Go.ChangeAt Go.RowKit
set_option linter.unusedVariables false

theorem BitopConds_walk (a0 a1 : Int) (w0 : (Lit.int .i64 a0).wf = true) (w1 : (Lit.int .u32 a1).wf = true) (w : World) :
    Calls Try.prog 4 #[.int .i64 a0, .int .u32 a1] w fun e w' => e = .returned (.bool true) ∧ Grown w w' := by
  have b1 := bounds_u32 w1
  have f0 : 0 ≤ a1 := b1.1
  have f1 : a1 < 4294967296 := by omega
  clear w0 w1 b1
  by_cases h : 0 ≤ a0 ∧ a0 ≤ 15
  · go_enter Try.func4, Try.ntmps4
    go_wp2_with fail
    refine (awake_any _).mono ?_; rintro e w1 ⟨rfl, h1⟩
    go_wp2_with fail
    refine (btCond_ok _ _ _ h.1 h.2 f0 f1).mono ?_; rintro e w2 ⟨rfl, h2⟩
    go_wp2_with fail
    refine (rCond_ok _ _ _ h.1 h.2 f0 f1).mono ?_; rintro e w3 ⟨rfl, hw⟩; replace hw := hw.symm; subst hw
    go_wp2
    go_ret
    exact ⟨rfl, Grown.trans h1 h2⟩
  · have ho : a0 < 0 ∨ 15 < a0 := by omega
    go_enter Try.func4, Try.ntmps4
    go_wp2_with fail
    refine (awake_any _).mono ?_; rintro e w1 ⟨rfl, h1⟩
    go_wp2_with fail
    refine (btCond_no _ _ _ ho).mono ?_; rintro e w2 ⟨rfl, h2⟩
    go_wp2_with fail
    refine (rCond_no _ _ _ ho).mono ?_; rintro e w3 ⟨rfl, hw⟩; replace hw := hw.symm; subst hw
    go_wp2
    go_ret
    exact ⟨rfl, Grown.trans h1 h2⟩
end Go.Proofs.Ytelclgelooljlaa
