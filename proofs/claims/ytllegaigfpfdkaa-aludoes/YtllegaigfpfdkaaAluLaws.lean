/- The walks of the statements over alu: for every input within its kinds each returns true, and the world has at most new blocks. -/
import Derived.Test.YtllegaigfpfdkaaAluRefDoes
namespace Go.Proofs.Ytllegaigfpfdkaa
open Go.ChangeShapes Go.WideShapes Go.ChangeAt Go.RowKit
set_option linter.unusedVariables false

theorem sz1 : Sz 1 128 256 24 8 := Or.inl ⟨rfl, rfl, rfl, rfl, rfl⟩
theorem sz4 : Sz 4 2147483648 4294967296 0 32 := Or.inr (Or.inr ⟨rfl, rfl, rfl, rfl, rfl⟩)

theorem wake1 (w : World) : Calls Try.prog 10 #[.int .i64 0, .int .i64 1, .int .u32 127, .int .u32 1, .int .u32 0] w fun e w' => e = .returned (.tuple #[.int .u32 128, .int .u32 2192, .int .i64 0]) ∧ Grown w w' := by
  have h := Do_work sz1 0 127 1 0 w (by decide) (by decide) (by decide) (by decide) (by decide) (by decide) (by decide) (by decide)
  have e1 : doR 0 256 (127 % 256) (1 % 256) 0 = 128 := by decide
  have e2 : byF 128 (workR 0 256 (127 % 256) (1 % 256) (0 % 2)) (layF 0 256 128 (127 % 256) (1 % 256) 0) = 2192 := by decide
  rw [e1, e2] at h
  exact h
theorem wake2 (w : World) : Calls Try.prog 10 #[.int .i64 5, .int .i64 4, .int .u32 3, .int .u32 5, .int .u32 0] w fun e w' => e = .returned (.tuple #[.int .u32 4294967294, .int .u32 145, .int .i64 0]) ∧ Grown w w' := by
  have h := Do_work sz4 5 3 5 0 w (by decide) (by decide) (by decide) (by decide) (by decide) (by decide) (by decide) (by decide)
  have e1 : doR 5 4294967296 (3 % 4294967296) (5 % 4294967296) 0 = 4294967294 := by decide
  have e2 : byF 2147483648 (workR 5 4294967296 (3 % 4294967296) (5 % 4294967296) (0 % 2)) (layF 5 4294967296 2147483648 (3 % 4294967296) (5 % 4294967296) 0) = 145 := by decide
  rw [e1, e2] at h
  exact h
theorem wake3 (w : World) : Calls Try.prog 12 #[.int .i64 1, .int .u32 0, .int .u32 1] w fun e w' => e = .returned (.tuple #[.int .u32 69, .int .i64 0]) ∧ Grown w w' := by
  have h := Flags_ok sz1 0 1 w (by decide) (by decide) (by decide) (by decide)
  have e2 : byF 128 (0 % 256) 1 = 69 := by decide
  rw [e2] at h
  exact h

theorem awake_any (w : World) : Calls Try.prog 9 #[] w fun e w' => e = .returned (.bool true) ∧ Grown w w' := by
  go_enter Try.func9, Try.ntmps9
  go_wp2_with fail
  refine (wake1 _).mono ?_; rintro e w1 ⟨rfl, h1⟩
  go_wp2_with fail
  refine (wake2 _).mono ?_; rintro e w2 ⟨rfl, h2⟩
  go_wp2_with fail
  refine (wake3 _).mono ?_; rintro e w3 ⟨rfl, h3⟩
  go_wp2
  go_ret
  exact ⟨rfl, Grown.trans (Grown.trans h1 h2) h3⟩

theorem AluNames_walk (w : World) : Calls Try.prog 3 #[] w fun e w' => e = .returned (.bool true) ∧ Grown w w' := by
  go_enter Try.func3, Try.ntmps3
  go_wp2_with fail
  refine (awake_any _).mono ?_; rintro e w1 ⟨rfl, h1⟩
  go_wp2
  go_ret
  exact ⟨rfl, h1⟩

theorem AluFlags_walk (a0 a1 a2 : Int) (w0 : (Lit.int .i64 a0).wf = true) (w1 : (Lit.int .u32 a1).wf = true) (w2 : (Lit.int .u32 a2).wf = true) (w : World) :
    Calls Try.prog 5 #[.int .i64 a0, .int .u32 a1, .int .u32 a2] w fun e w' => e = .returned (.bool true) ∧ Grown w w' := by
  have b1 := bounds_u32 w1
  have b2 := bounds_u32 w2
  have x0 : 0 ≤ a1 := b1.1
  have x1 : a1 < 4294967296 := by omega
  have f0 : 0 ≤ a2 := b2.1
  have f1 : a2 < 4294967296 := by omega
  clear w0 w1 w2 b1 b2
  cases hk : okSize a0
  · go_enter Try.func5, Try.ntmps5
    go_wp2_with fail
    refine (awake_any _).mono ?_; rintro e w1 ⟨rfl, h1⟩
    go_wp2_with fail
    refine (Flags_no _ _ _ _ hk).mono ?_; rintro e w2 ⟨rfl, h2⟩
    go_wp2_with fail
    refine (Flags_ref_no _ _ _ _ hk).mono ?_; rintro e w3 ⟨rfl, hw⟩; replace hw := hw.symm; subst hw
    go_wp2
    go_ret
    exact ⟨rfl, Grown.trans h1 h2⟩
  · obtain ⟨H, M, sp, bt, hS⟩ := Sz_of hk
    go_enter Try.func5, Try.ntmps5
    go_wp2_with fail
    refine (awake_any _).mono ?_; rintro e w1 ⟨rfl, h1⟩
    go_wp2_with fail
    refine (Flags_ok hS _ _ _ x0 x1 f0 f1).mono ?_; rintro e w2 ⟨rfl, h2⟩
    go_wp2_with fail
    refine (Flags_ref_ok hS _ _ _ x0 x1 f0 f1).mono ?_; rintro e w3 ⟨rfl, hw⟩; replace hw := hw.symm; subst hw
    go_wp2
    go_ret
    exact ⟨rfl, Grown.trans h1 h2⟩

theorem AluDoes_walk (a0 a1 a2 a3 a4 : Int) (w0 : (Lit.int .i64 a0).wf = true) (w1 : (Lit.int .i64 a1).wf = true) (w2 : (Lit.int .u32 a2).wf = true) (w3 : (Lit.int .u32 a3).wf = true) (w4 : (Lit.int .u32 a4).wf = true) (w : World) :
    Calls Try.prog 4 #[.int .i64 a0, .int .i64 a1, .int .u32 a2, .int .u32 a3, .int .u32 a4] w fun e w' => e = .returned (.bool true) ∧ Grown w w' := by
  have b2 := bounds_u32 w2
  have b3 := bounds_u32 w3
  have b4 := bounds_u32 w4
  have x0 : 0 ≤ a2 := b2.1
  have x1 : a2 < 4294967296 := by omega
  have y0 : 0 ≤ a3 := b3.1
  have y1 : a3 < 4294967296 := by omega
  have f0 : 0 ≤ a4 := b4.1
  have f1 : a4 < 4294967296 := by omega
  clear w0 w1 w2 w3 w4 b2 b3 b4
  cases hk : okSize a1
  · go_enter Try.func4, Try.ntmps4
    go_wp2_with fail
    refine (awake_any _).mono ?_; rintro e w1 ⟨rfl, h1⟩
    go_wp2_with fail
    refine (Do_size _ _ _ _ _ _ hk).mono ?_; rintro e w2 ⟨rfl, h2⟩
    go_wp2_with fail
    refine (Do_ref_size _ _ _ _ _ _ hk).mono ?_; rintro e w3 ⟨rfl, hw⟩; replace hw := hw.symm; subst hw
    go_wp2
    go_ret
    exact ⟨rfl, Grown.trans h1 h2⟩
  · obtain ⟨H, M, sp, bt, hS⟩ := Sz_of hk
    by_cases ho : a0 < 0 ∨ 12 < a0
    · have HO : Hid _ := ho
      clear ho
      go_enter Try.func4, Try.ntmps4
      go_wp2_with fail
      refine (awake_any _).mono ?_; rintro e w1 ⟨rfl, h1⟩
      go_wp2_with fail
      refine (Do_op _ _ _ _ _ _ hk HO.out).mono ?_; rintro e w2 ⟨rfl, h2⟩
      go_wp2_with fail
      refine (Do_ref_op hS _ _ _ _ _ HO.out).mono ?_; rintro e w3 ⟨rfl, hw⟩; replace hw := hw.symm; subst hw
      go_wp2
      go_ret
      exact ⟨rfl, Grown.trans h1 h2⟩
    · have o0 : 0 ≤ a0 := by omega
      have o1 : a0 ≤ 12 := by omega
      clear ho
      go_enter Try.func4, Try.ntmps4
      go_wp2_with fail
      refine (awake_any _).mono ?_; rintro e w1 ⟨rfl, h1⟩
      go_wp2_with fail
      refine (Do_ok hS _ _ _ _ _ o0 o1 x0 x1 y0 y1 f0 f1).mono ?_; rintro e w2 ⟨rfl, h2⟩
      go_wp2_with fail
      refine (Do_ref_ok hS _ _ _ _ _ o0 o1 x0 x1 y0 y1 f0 f1).mono ?_; rintro e w3 ⟨rfl, hw⟩; replace hw := hw.symm; subst hw
      go_wp2
      go_ret
      exact ⟨rfl, Grown.trans h1 h2⟩
end Go.Proofs.Ytllegaigfpfdkaa
