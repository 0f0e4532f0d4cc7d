/- The walk of the statement BitopBits: for every input within its kinds it returns true, and the world has at most new blocks. -/
import Derived.Test.YtelclgelooljlaaBitAwake
import Derived.Test.YtelclgelooljlaaBitRefOps
namespace Go.Proofs.Ytelclgelooljlaa
open Go.ChangeShapes Go.WideShapes Go.ChangeAt Go.RowKit
set_option linter.unusedVariables false

theorem wide_ok {s : Int} (h : wideSize s = true) : okSize s = true := by
  have hs : s = 2 ∨ s = 4 := by simpa [wideSize] using h
  rcases hs with rfl | rfl <;> rfl

theorem BitopBits_walk (a0 a1 a2 a3 a4 : Int) (w0 : (Lit.int .i64 a0).wf = true) (w1 : (Lit.int .i64 a1).wf = true) (w2 : (Lit.int .u32 a2).wf = true) (w3 : (Lit.int .u32 a3).wf = true) (w4 : (Lit.int .u32 a4).wf = true) (w : World) :
    Calls Try.prog 5 #[.int .i64 a0, .int .i64 a1, .int .u32 a2, .int .u32 a3, .int .u32 a4] w fun e w' => e = .returned (.bool true) ∧ Grown w w' := by
  have b2 := bounds_u32 w2
  have b3 := bounds_u32 w3
  have b4 := bounds_u32 w4
  have x0 : 0 ≤ a2 := b2.1
  have x1 : a2 < 4294967296 := by omega
  have n0 : 0 ≤ a3 := b3.1
  have n1 : a3 < 4294967296 := by omega
  have f0 : 0 ≤ a4 := b4.1
  have f1 : a4 < 4294967296 := by omega
  clear w0 w1 w2 w3 w4 b2 b3 b4
  rcases two_ways (wideSize a1) with hk | hk
  · by_cases h : 0 ≤ a0 ∧ a0 ≤ 3
    · obtain ⟨H, M, W, hS⟩ := Sw_of (wide_ok hk)
      go_enter Try.func5, Try.ntmps5
      go_wp2_with fail
      refine (awake_any _).mono ?_; rintro e w1 ⟨rfl, h1⟩
      go_wp2_with fail
      refine (btBit_ok hS _ _ _ _ _ hk h.1 h.2 x0 x1 n0 n1 f0 f1).mono ?_; rintro e w2 ⟨rfl, hw⟩; replace hw := hw.symm; subst hw
      go_wp2_with fail
      refine (rBit_ok hS _ _ _ _ _ hk h.1 h.2 x0 x1 n0 n1 f0 f1).mono ?_; rintro e w3 ⟨rfl, hw⟩; replace hw := hw.symm; subst hw
      go_wp2
      go_ret
      exact ⟨rfl, h1⟩
    · have ho : a0 < 0 ∨ 3 < a0 := by omega
      go_enter Try.func5, Try.ntmps5
      go_wp2_with fail
      refine (awake_any _).mono ?_; rintro e w1 ⟨rfl, h1⟩
      go_wp2_with fail
      refine (btBit_op _ _ _ _ _ _ hk ho).mono ?_; rintro e w2 ⟨rfl, hw⟩; replace hw := hw.symm; subst hw
      go_wp2_with fail
      refine (rBit_op _ _ _ _ _ _ hk ho).mono ?_; rintro e w3 ⟨rfl, hw⟩; replace hw := hw.symm; subst hw
      go_wp2
      go_ret
      exact ⟨rfl, h1⟩
  · go_enter Try.func5, Try.ntmps5
    go_wp2_with fail
    refine (awake_any _).mono ?_; rintro e w1 ⟨rfl, h1⟩
    go_wp2_with fail
    refine (btBit_size _ _ _ _ _ _ hk).mono ?_; rintro e w2 ⟨rfl, hw⟩; replace hw := hw.symm; subst hw
    go_wp2_with fail
    refine (rBit_size _ _ _ _ _ _ hk).mono ?_; rintro e w3 ⟨rfl, hw⟩; replace hw := hw.symm; subst hw
    go_wp2
    go_ret
    exact ⟨rfl, h1⟩
end Go.Proofs.Ytelclgelooljlaa
