/- The contract of the statements' head of layer 2: it returns true, and the world has at most new blocks. Then the statement ShiftNames. -/
import Derived.Test.YtnfbflbghlmdjaaShiftDo
import Derived.Test.YtnfbflbghlmdjaaShiftDouble
namespace Go.Proofs.Ytnfbflbghlmdjaa
open Go.ChangeShapes Go.WideShapes Go.ChangeAt Go.RowKit
set_option linter.unusedVariables false

theorem sw1 : Sw 1 128 256 8 := Or.inl ⟨rfl, rfl, rfl, rfl⟩

theorem sw2 : Sw 2 32768 65536 16 := Or.inr (Or.inl ⟨rfl, rfl, rfl, rfl⟩)

theorem sd2 : Sd 2 32768 65536 16 := Or.inl ⟨rfl, rfl, rfl, rfl⟩

theorem wake1 (w : World) : Calls Try.prog 10 #[.int .i64 0, .int .i64 1, .int .u32 129, .int .u32 1, .int .u32 0] w fun e w' => e = .returned (.tuple #[.int .u32 3, .int .u32 2049, .int .i64 0]) ∧ Grown w w' := by
  have h := Do_ok sw1 0 129 1 0 1 w (by decide) (by decide) (by decide) (by decide) (by decide) (by decide) (by decide) (by decide) (by decide)
  have e1 : shR 0 128 256 8 129 1 0 = 3 := by decide
  have e2 : shF 0 128 256 8 129 1 0 = 2049 := by decide
  rw [e1, e2] at h
  exact h

theorem wake2 (w : World) : Calls Try.prog 10 #[.int .i64 7, .int .i64 2, .int .u32 32768, .int .u32 20, .int .u32 0] w fun e w' => e = .returned (.tuple #[.int .u32 65535, .int .u32 133, .int .i64 0]) ∧ Grown w w' := by
  have h := Do_ok sw2 7 32768 20 0 20 w (by decide) (by decide) (by decide) (by decide) (by decide) (by decide) (by decide) (by decide) (by decide)
  have e1 : shR 7 32768 65536 16 32768 20 0 = 65535 := by decide
  have e2 : shF 7 32768 65536 16 32768 20 0 = 133 := by decide
  rw [e1, e2] at h
  exact h

theorem wake3 (w : World) : Calls Try.prog 12 #[.bool true, .int .i64 2, .int .u32 4660, .int .u32 43981, .int .u32 4, .int .u32 0] w fun e w' => e = .returned (.tuple #[.int .u32 9034, .int .u32 1, .int .i64 0]) ∧ Grown w w' := by
  have h := Double_ok sd2 true 4660 43981 4 0 4 w (by decide) (by decide) (by decide) (by decide) (by decide) (by decide) (by decide) (by decide) (by decide) (by decide)
  have e1 : dR true 16 (4660 % 65536) (43981 % 65536) 4 = 9034 := by decide
  have e2 : dF true 32768 16 (4660 % 65536) (43981 % 65536) 4 0 = 1 := by decide
  rw [e1, e2] at h
  exact h

theorem awake_any (w : World) : Calls Try.prog 9 #[] w fun e w' => e = .returned (.bool true) ∧ Grown w w' := by
  go_enter Try.func9, Try.ntmps9
  go_wp2_with fail
  refine (wake1 _).mono ?_; rintro e w1 ⟨rfl, h1⟩
  go_wp2_with fail
  refine (wake2 _).mono ?_; rintro e w2 ⟨rfl, h2⟩
  go_wp2_with fail
  refine (wake3 _).mono ?_; rintro e w3 ⟨rfl, h3⟩
  go_wp2
  go_ret
  exact ⟨rfl, Grown.trans (Grown.trans h1 h2) h3⟩
end Go.Proofs.Ytnfbflbghlmdjaa
