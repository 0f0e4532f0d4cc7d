/- The contract of the statements' head of layer 1: it returns true, and the world has at most new blocks. -/
import Derived.Test.YtllegaigfpfdkaaAluDoes
namespace Go.Proofs.Ytllegaigfpfdkaa
open Go.ChangeShapes Go.WideShapes Go.ChangeAt Go.RowKit
set_option linter.unusedVariables false

theorem wake1 (w : World) : Calls Try.prog 10 #[.int .i64 0, .int .i64 1, .int .u32 127, .int .u32 1, .int .u32 0] w fun e w' => e = .returned (.tuple #[.int .u32 128, .int .u32 2192, .int .i64 0]) ∧ Grown w w' := by
  have h := Do_work sz1 0 127 1 0 w (by decide) (by decide) (by decide) (by decide) (by decide) (by decide) (by decide) (by decide)
  have e1 : doR 0 256 (127 % 256) (1 % 256) 0 = 128 := by decide
  have e2 : byF 128 (workR 0 256 (127 % 256) (1 % 256) (0 % 2)) (layF 0 256 128 (127 % 256) (1 % 256) 0) = 2192 := by decide
  rw [e1, e2] at h
  exact h

theorem wake2 (w : World) : Calls Try.prog 10 #[.int .i64 5, .int .i64 4, .int .u32 3, .int .u32 5, .int .u32 0] w fun e w' => e = .returned (.tuple #[.int .u32 4294967294, .int .u32 145, .int .i64 0]) ∧ Grown w w' := by
  have h := Do_work sz4 5 3 5 0 w (by decide) (by decide) (by decide) (by decide) (by decide) (by decide) (by decide) (by decide)
  have e1 : doR 5 4294967296 (3 % 4294967296) (5 % 4294967296) 0 = 4294967294 := by decide
  have e2 : byF 2147483648 (workR 5 4294967296 (3 % 4294967296) (5 % 4294967296) (0 % 2)) (layF 5 4294967296 2147483648 (3 % 4294967296) (5 % 4294967296) 0) = 145 := by decide
  rw [e1, e2] at h
  exact h

theorem wake3 (w : World) : Calls Try.prog 12 #[.int .i64 1, .int .u32 0, .int .u32 1] w fun e w' => e = .returned (.tuple #[.int .u32 69, .int .i64 0]) ∧ Grown w w' := by
  have h := Flags_ok sz1 0 1 w (by decide) (by decide) (by decide) (by decide)
  have e2 : byF 128 (0 % 256) 1 = 69 := by decide
  rw [e2] at h
  exact h

theorem awake_any (w : World) : Calls Try.prog 9 #[] w fun e w' => e = .returned (.bool true) ∧ Grown w w' := by
  go_enter Try.func9, Try.ntmps9
  go_wp2_with fail
  refine (wake1 _).mono ?_; rintro e w1 ⟨rfl, h1⟩
  go_wp2_with fail
  refine (wake2 _).mono ?_; rintro e w2 ⟨rfl, h2⟩
  go_wp2_with fail
  refine (wake3 _).mono ?_; rintro e w3 ⟨rfl, h3⟩
  go_wp2
  go_ret
  exact ⟨rfl, Grown.trans (Grown.trans h1 h2) h3⟩
end Go.Proofs.Ytllegaigfpfdkaa
