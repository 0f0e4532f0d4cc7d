/- The walk of EncodeNames. -/
import Derived.Test.YtolnaodlghahlaaGreatDoorEnAwake
namespace Go.Proofs.YtolnaodlghahlaaGreatDoor
open Go.ChangeShapes Go.WideShapes Go.ChangeAt Go.RowKit
set_option linter.unusedVariables false

theorem EncodeNames_walk (w : World) : Calls Tryz.prog 3 #[] w fun e w' => e = .returned (.bool true) ∧ Below w.heap.size w w' := by
  have HA : Hid _ := eawake_ok w
  go_enter Tryz.func3, Tryz.ntmps3
  go_wp2_with fail
  refine Calls.mono HA.out ?_; rintro e w1 ⟨rfl, k1⟩
  have HB : Hid (Below w.heap.size w w1) := ⟨k1.os, k1.tape, k1.output, k1.size, fun k hk => k1.block k hk id⟩
  clear k1
  go_wp2
  go_ret
  exact ⟨rfl, HB.out⟩
end Go.Proofs.YtolnaodlghahlaaGreatDoor
