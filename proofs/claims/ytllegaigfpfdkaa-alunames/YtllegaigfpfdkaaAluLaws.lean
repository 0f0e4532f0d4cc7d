/- The walks of the statements over alu: for every input within its kinds each returns true, and the world has at most new blocks. -/
import Derived.Test.YtllegaigfpfdkaaAluAwake
import Derived.Test.YtllegaigfpfdkaaAluRefDoes
namespace Go.Proofs.Ytllegaigfpfdkaa
open Go.ChangeShapes Go.WideShapes Go.ChangeAt Go.RowKit
set_option linter.unusedVariables false


theorem AluNames_walk (w : World) : Calls Try.prog 3 #[] w fun e w' => e = .returned (.bool true) ∧ Grown w w' := by
  go_enter Try.func3, Try.ntmps3
  go_wp2_with fail
  refine (awake_any _).mono ?_; rintro e w1 ⟨rfl, h1⟩
  go_wp2
  go_ret
  exact ⟨rfl, h1⟩

theorem AluFlags_walk (a0 a1 a2 : Int) (w0 : (Lit.int .i64 a0).wf = true) (w1 : (Lit.int .u32 a1).wf = true) (w2 : (Lit.int .u32 a2).wf = true) (w : World) :
    Calls Try.prog 5 #[.int .i64 a0, .int .u32 a1, .int .u32 a2] w fun e w' => e = .returned (.bool true) ∧ Grown w w' := by
  have b1 := bounds_u32 w1
  have b2 := bounds_u32 w2
  have x0 : 0 ≤ a1 := b1.1
  have x1 : a1 < 4294967296 := by omega
  have f0 : 0 ≤ a2 := b2.1
  have f1 : a2 < 4294967296 := by omega
  clear w0 w1 w2 b1 b2
  cases hk : okSize a0
  · go_enter Try.func5, Try.ntmps5
    go_wp2_with fail
    refine (awake_any _).mono ?_; rintro e w1 ⟨rfl, h1⟩
    go_wp2_with fail
    refine (Flags_no _ _ _ _ hk).mono ?_; rintro e w2 ⟨rfl, h2⟩
    go_wp2_with fail
    refine (Flags_ref_no _ _ _ _ hk).mono ?_; rintro e w3 ⟨rfl, hw⟩; replace hw := hw.symm; subst hw
    go_wp2
    go_ret
    exact ⟨rfl, Grown.trans h1 h2⟩
  · obtain ⟨H, M, sp, bt, hS⟩ := Sz_of hk
    go_enter Try.func5, Try.ntmps5
    go_wp2_with fail
    refine (awake_any _).mono ?_; rintro e w1 ⟨rfl, h1⟩
    go_wp2_with fail
    refine (Flags_ok hS _ _ _ x0 x1 f0 f1).mono ?_; rintro e w2 ⟨rfl, h2⟩
    go_wp2_with fail
    refine (Flags_ref_ok hS _ _ _ x0 x1 f0 f1).mono ?_; rintro e w3 ⟨rfl, hw⟩; replace hw := hw.symm; subst hw
    go_wp2
    go_ret
    exact ⟨rfl, Grown.trans h1 h2⟩

theorem AluDoes_walk (a0 a1 a2 a3 a4 : Int) (w0 : (Lit.int .i64 a0).wf = true) (w1 : (Lit.int .i64 a1).wf = true) (w2 : (Lit.int .u32 a2).wf = true) (w3 : (Lit.int .u32 a3).wf = true) (w4 : (Lit.int .u32 a4).wf = true) (w : World) :
    Calls Try.prog 4 #[.int .i64 a0, .int .i64 a1, .int .u32 a2, .int .u32 a3, .int .u32 a4] w fun e w' => e = .returned (.bool true) ∧ Grown w w' := by
  have b2 := bounds_u32 w2
  have b3 := bounds_u32 w3
  have b4 := bounds_u32 w4
  have x0 : 0 ≤ a2 := b2.1
  have x1 : a2 < 4294967296 := by omega
  have y0 : 0 ≤ a3 := b3.1
  have y1 : a3 < 4294967296 := by omega
  have f0 : 0 ≤ a4 := b4.1
  have f1 : a4 < 4294967296 := by omega
  clear w0 w1 w2 w3 w4 b2 b3 b4
  cases hk : okSize a1
  · go_enter Try.func4, Try.ntmps4
    go_wp2_with fail
    refine (awake_any _).mono ?_; rintro e w1 ⟨rfl, h1⟩
    go_wp2_with fail
    refine (Do_size _ _ _ _ _ _ hk).mono ?_; rintro e w2 ⟨rfl, h2⟩
    go_wp2_with fail
    refine (Do_ref_size _ _ _ _ _ _ hk).mono ?_; rintro e w3 ⟨rfl, hw⟩; replace hw := hw.symm; subst hw
    go_wp2
    go_ret
    exact ⟨rfl, Grown.trans h1 h2⟩
  · obtain ⟨H, M, sp, bt, hS⟩ := Sz_of hk
    by_cases ho : a0 < 0 ∨ 12 < a0
    · have HO : Hid _ := ho
      clear ho
      go_enter Try.func4, Try.ntmps4
      go_wp2_with fail
      refine (awake_any _).mono ?_; rintro e w1 ⟨rfl, h1⟩
      go_wp2_with fail
      refine (Do_op _ _ _ _ _ _ hk HO.out).mono ?_; rintro e w2 ⟨rfl, h2⟩
      go_wp2_with fail
      refine (Do_ref_op hS _ _ _ _ _ HO.out).mono ?_; rintro e w3 ⟨rfl, hw⟩; replace hw := hw.symm; subst hw
      go_wp2
      go_ret
      exact ⟨rfl, Grown.trans h1 h2⟩
    · have o0 : 0 ≤ a0 := by omega
      have o1 : a0 ≤ 12 := by omega
      clear ho
      go_enter Try.func4, Try.ntmps4
      go_wp2_with fail
      refine (awake_any _).mono ?_; rintro e w1 ⟨rfl, h1⟩
      go_wp2_with fail
      refine (Do_ok hS _ _ _ _ _ o0 o1 x0 x1 y0 y1 f0 f1).mono ?_; rintro e w2 ⟨rfl, h2⟩
      go_wp2_with fail
      refine (Do_ref_ok hS _ _ _ _ _ o0 o1 x0 x1 y0 y1 f0 f1).mono ?_; rintro e w3 ⟨rfl, hw⟩; replace hw := hw.symm; subst hw
      go_wp2
      go_ret
      exact ⟨rfl, Grown.trans h1 h2⟩
end Go.Proofs.Ytllegaigfpfdkaa
