/- The walk of the statement TlbNames: the number and the limit. -/
import Derived.Test.YtljlcejnadmgkaaTlAwake
import Derived.Test.YtljlcejnadmgkaaPgLaw0
namespace Go.Proofs.Ytljlcejnadmgkaa
open Go.ChangeShapes Go.WideShapes Go.ChangeAt Go.RowKit Go.Maps
set_option linter.unusedVariables false

theorem TlbNames_walk (w : World) : Calls Try.prog 3 #[] w fun e w' => e = .returned (.bool true) ∧ Below w.heap.size w w' := by
  go_enter Try.func3, Try.ntmps3
  go_wp2_with fail
  refine (tlAwake_any _).mono ?_; rintro e w1 ⟨rfl, k1⟩
  go_wp2
  go_ret
  exact ⟨rfl, k1.every⟩
end Go.Proofs.Ytljlcejnadmgkaa
