/- ExecNames: the numbers of operations and segments are the document's. -/
import Derived.Test.YtiagfmkinefidaaGreatEx33
namespace Go.Proofs.YtiagfmkinefidaaGreat
open Go.ChangeShapes Go.WideShapes Go.ChangeAt Go.RowKit Go.Maps
set_option linter.unusedVariables false
set_option maxRecDepth 20000

theorem ExecNames_walk (w : World) : Calls Tryz.prog 3 #[] w fun e w' => e = .returned (.bool true) ∧ Below w.heap.size w w' := by
  have cA := Rm.awake17 w
  go_enter Tryz.func3, Tryz.ntmps3
  go_wp2_with fail
  refine cA.mono ?_; rintro e w1 ⟨rfl, k1⟩
  clear cA
  go_wp2
  go_ret
  exact ⟨rfl, k1.below (Nat.le_refl _) (fun _ f => f.elim)⟩
end Go.Proofs.YtiagfmkinefidaaGreat
