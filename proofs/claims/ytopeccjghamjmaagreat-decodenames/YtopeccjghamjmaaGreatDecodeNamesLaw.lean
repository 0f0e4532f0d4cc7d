/- DecodeNames: the walk. -/
import Derived.Test.YtopeccjghamjmaaGreatDecFrame
namespace Go.Proofs.YtopeccjghamjmaaGreat
open Go.ChangeShapes Go.WideShapes Go.ChangeAt Go.RowKit
set_option linter.unusedVariables false

theorem DecodeNames_walk (w : World) :
    Calls Tryz.prog 3 #[] w fun e w' => e = .returned (.bool true) ∧ Below w.heap.size w w' := by
  have cA := awake_ok tabOk w
  go_enter Tryz.func3, Tryz.ntmps3
  go_wp2_with fail
  refine cA.mono ?_; rintro e w1 ⟨rfl, k1⟩
  clear cA
  go_wp2
  go_ret
  exact ⟨rfl, k1.below⟩

end Go.Proofs.YtopeccjghamjmaaGreat
