/- A sum with any number of four bytes. -/
import Derived.Test.YtolnaodlghahlaaGreatDoorEnMeans
namespace Go.Proofs.YtolnaodlghahlaaGreatDoor
open Go.ChangeShapes Go.WideShapes Go.ChangeAt Go.RowKit
set_option linter.unusedVariables false
set_option maxRecDepth 20000

theorem n4 (y0 y1 y2 y3 : Int) (sub a : Nat) (hs : sub < 8) (ha : a < 8) : decL [129, 192 + 8 * sub + a, y0, y1, y2, y3] = (⟨1, sub, 4, ⟨1, a, 4, 0, 0, 0, 0, 0, 0⟩, ⟨3, 0, 0, 0, 0, 0, 0, 0, 0 + y0 * 256 ^ 0 + y1 * 256 ^ 1 + y2 * 256 ^ 2 + y3 * 256 ^ 3⟩, Opd.zero, 0, 6⟩, 0) := by
  obtain rfl | rfl | rfl | rfl | rfl | rfl | rfl | rfl : sub = 0 ∨ sub = 1 ∨ sub = 2 ∨ sub = 3 ∨ sub = 4 ∨ sub = 5 ∨ sub = 6 ∨ sub = 7 := by omega
  all_goals
    obtain rfl | rfl | rfl | rfl | rfl | rfl | rfl | rfl : a = 0 ∨ a = 1 ∨ a = 2 ∨ a = 3 ∨ a = 4 ∨ a = 5 ∨ a = 6 ∨ a = 7 := by omega
  all_goals kernel_rfl
end Go.Proofs.YtolnaodlghahlaaGreatDoor
