/- The contract of the statements' head of layer 3: it returns true, and the world has at most new blocks. -/
import Derived.Test.YtecfkgnffhiemabMulDivs
import Derived.Test.YtecfkgnffhiemabMulAdj
namespace Go.Proofs.Ytecfkgnffhiemab
open Go.ChangeShapes Go.WideShapes Go.ChangeAt Go.RowKit
set_option linter.unusedVariables false

theorem sw1 : Sw 1 128 256 8 := Or.inl ⟨rfl, rfl, rfl, rfl⟩

theorem sw4 : Sw 4 2147483648 4294967296 32 := Or.inr (Or.inr ⟨rfl, rfl, rfl, rfl⟩)

theorem wake1 (w : World) : Calls Try.prog 7 #[.bool false, .int .i64 1, .int .u32 16, .int .u32 16, .int .u32 0] w fun e w' => e = .returned (.tuple #[.int .u32 0, .int .u32 1, .int .u32 2117, .int .i64 0]) ∧ Grown w w' := by
  have h := mdMul_ok sw1 false 16 16 0 w (by decide) (by decide) (by decide) (by decide) (by decide) (by decide)
  have e1 : mulL false 256 128 16 16 = 0 := by decide
  have e2 : mulU false 256 128 16 16 = 1 := by decide
  have e3 : mulF false 256 128 16 16 0 = 2117 := by decide
  rw [e1, e2, e3] at h
  exact h

theorem wake2 (w : World) : Calls Try.prog 8 #[.bool true, .int .i64 1, .int .u32 249, .int .u32 255, .int .u32 2] w fun e w' => e = .returned (.tuple #[.int .u32 253, .int .u32 255, .bool true, .int .i64 0]) ∧ Grown w w' := by
  have h := mdDiv_ok sw1 true 249 255 2 w (by decide) (by decide) (by decide) (by decide) (by decide) (by decide)
  have e1 : ansQ true 256 128 249 255 2 = 253 := by decide
  have e2 : ansR true 256 128 249 255 2 = 255 := by decide
  have e3 : divO true 256 128 249 255 2 = true := by decide
  rw [e1, e2, e3] at h
  exact h

theorem wake3 (w : World) : Calls Try.prog 6 #[.int .i64 0, .int .u32 154, .int .u32 0, .int .u32 0, .int .u32 0] w fun e w' => e = .returned (.tuple #[.int .u32 0, .int .u32 0, .int .u32 85, .bool true, .int .i64 0]) ∧ Grown w w' := by
  have h := adj_ok 0 154 0 0 0 w (by decide) (by decide) (by decide) (by decide) (by decide) (by decide) (by decide) (by decide) (by decide) (by decide) (by decide)
  have e1 : rX 0 154 0 0 0 = 0 := by decide
  have e2 : rY 0 154 0 0 0 = 0 := by decide
  have e3 : rF 0 154 0 0 0 = 85 := by decide
  rw [e1, e2, e3] at h
  exact h

theorem awake_any (w : World) : Calls Try.prog 5 #[] w fun e w' => e = .returned (.bool true) ∧ Grown w w' := by
  go_enter Try.func5, Try.ntmps5
  go_wp2_with fail
  refine (wake1 _).mono ?_; rintro e w1 ⟨rfl, h1⟩
  go_wp2_with fail
  refine (wake2 _).mono ?_; rintro e w2 ⟨rfl, h2⟩
  go_wp2_with fail
  refine (wake3 _).mono ?_; rintro e w3 ⟨rfl, h3⟩
  go_wp2
  go_ret
  exact ⟨rfl, Grown.trans (Grown.trans h1 h2) h3⟩
end Go.Proofs.Ytecfkgnffhiemab
