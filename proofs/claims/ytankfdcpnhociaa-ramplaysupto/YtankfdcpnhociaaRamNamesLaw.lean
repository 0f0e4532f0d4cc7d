/- The walk of the statement RamNames: it returns true, and what lay before is as it was. -/
import Derived.Test.YtankfdcpnhociaaRamAwake
namespace Go.Proofs.Ytankfdcpnhociaa
open Go.ChangeShapes Go.WideShapes Go.ChangeAt Go.RowKit
set_option linter.unusedVariables false

theorem Kp.all {w w' : World} (h : Kp noB w w') : Below w.heap.size w w' := h.below (Nat.le_refl _) (fun k f => f.elim)

theorem RamNames_walk (w : World) : Calls Try.prog 3 #[] w fun e w' => e = .returned (.bool true) ∧ Below w.heap.size w w' := by
  go_enter Try.func3, Try.ntmps3
  go_wp2_with fail
  refine (awake_any _).mono ?_; rintro e w1 ⟨rfl, h1⟩
  go_wp2
  go_ret
  exact ⟨rfl, h1.all⟩
end Go.Proofs.Ytankfdcpnhociaa
