/- The contract of the statements' head of layer 4: it returns true, and the world has at most new blocks. -/
import Derived.Test.YtelclgelooljlaaBitCondOk
import Derived.Test.YtelclgelooljlaaBitOps
import Derived.Test.YtelclgelooljlaaBitBit
namespace Go.Proofs.Ytelclgelooljlaa
open Go.ChangeShapes Go.WideShapes Go.ChangeAt Go.RowKit
set_option linter.unusedVariables false

theorem sw1 : Sw 1 128 256 8 := Or.inl ⟨rfl, rfl, rfl, rfl⟩

theorem sw2 : Sw 2 32768 65536 16 := Or.inr (Or.inl ⟨rfl, rfl, rfl, rfl⟩)

theorem sw4 : Sw 4 2147483648 4294967296 32 := Or.inr (Or.inr ⟨rfl, rfl, rfl, rfl⟩)

theorem wake1 (w : World) : Calls Try.prog 10 #[.int .i64 12, .int .u32 128] w fun e w' => e = .returned (.tuple #[.bool true, .int .i64 0]) ∧ Grown w w' :=
  btCond_12 128 w (by decide) (by decide)

theorem wake2 (w : World) : Calls Try.prog 12 #[.int .i64 3, .int .i64 2, .int .u32 1, .int .u32 17, .int .u32 0] w fun e w' => e = .returned (.tuple #[.int .u32 3, .int .u32 0, .int .i64 0]) ∧ w' = w := by
  have h := btBit_ok sw2 3 1 17 0 w (by decide) (by decide) (by decide) (by decide) (by decide) (by decide) (by decide) (by decide) (by decide)
  have e1 : bitR 3 (1 % 65536) (placeOf 16 17) = 3 := by decide
  have e2 : setF 0 1 (tb (1 % 65536) (placeOf 16 17)) = 0 := by decide
  rw [e1, e2] at h
  exact h

theorem wake3 (w : World) : Calls Try.prog 14 #[.bool true, .int .i64 4, .int .u32 40, .int .u32 0] w fun e w' => e = .returned (.tuple #[.int .u32 3, .bool true, .int .u32 0, .int .i64 0]) ∧ w' = w := by
  have h := btScan_ok sw4 true 40 0 w (by decide) (by decide) (by decide) (by decide) (by decide) (by decide)
  have e1 : ((fstB true (40 % 4294967296) : Nat) : Int) = 3 := by decide
  have e2 : setF 0 64 false = 0 := by decide
  rw [e1, e2] at h
  exact h

theorem wake4 (w : World) : Calls Try.prog 16 #[.bool true, .int .i64 1, .int .i64 4, .int .u32 128] w fun e w' => e = .returned (.tuple #[.int .u32 4294967168, .int .i64 0]) ∧ w' = w := by
  have h := btExt_ok sw1 sw4 (by decide) true 128 w (by decide) (by decide)
  have e1 : extR true 256 4294967296 128 (128 % 256) = 4294967168 := by decide
  rw [e1] at h
  exact h

theorem wake5 (w : World) : Calls Try.prog 18 #[.int .u32 16909060] w fun e w' => e = .returned (.int .u32 67305985) ∧ w' = w := by
  have h := btSwap_any 16909060 w (by decide) (by decide)
  have e1 : swp 16909060 = 67305985 := by decide
  rw [e1] at h
  exact h

theorem awake_any (w : World) : Calls Try.prog 9 #[] w fun e w' => e = .returned (.bool true) ∧ Grown w w' := by
  go_enter Try.func9, Try.ntmps9
  go_wp2_with fail
  refine (wake1 _).mono ?_; rintro e w1 ⟨rfl, h1⟩
  go_wp2_with fail
  refine (wake2 _).mono ?_; rintro e w2 ⟨rfl, hw⟩; replace hw := hw.symm; subst hw
  go_wp2_with fail
  refine (wake3 _).mono ?_; rintro e w2 ⟨rfl, hw⟩; replace hw := hw.symm; subst hw
  go_wp2_with fail
  refine (wake4 _).mono ?_; rintro e w2 ⟨rfl, hw⟩; replace hw := hw.symm; subst hw
  go_wp2_with fail
  refine (wake5 _).mono ?_; rintro e w2 ⟨rfl, hw⟩; replace hw := hw.symm; subst hw
  go_wp2
  go_ret
  exact ⟨rfl, h1⟩
end Go.Proofs.Ytelclgelooljlaa
