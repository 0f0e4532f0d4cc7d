/- The walk of the statement ShiftDoes: for every input within its kinds it returns true, and the world has at most new blocks. -/
import Derived.Test.YtnfbflbghlmdjaaShiftAwake
import Derived.Test.YtnfbflbghlmdjaaShiftRefDo
namespace Go.Proofs.Ytnfbflbghlmdjaa
open Go.ChangeShapes Go.WideShapes Go.ChangeAt Go.RowKit
set_option linter.unusedVariables false

theorem ShiftDoes_walk (a0 a1 a2 a3 a4 : Int) (w0 : (Lit.int .i64 a0).wf = true) (w1 : (Lit.int .i64 a1).wf = true) (w2 : (Lit.int .u32 a2).wf = true) (w3 : (Lit.int .u32 a3).wf = true) (w4 : (Lit.int .u32 a4).wf = true) (w : World) :
    Calls Try.prog 4 #[.int .i64 a0, .int .i64 a1, .int .u32 a2, .int .u32 a3, .int .u32 a4] w fun e w' => e = .returned (.bool true) ∧ Grown w w' := by
  have b2 := bounds_u32 w2
  have b3 := bounds_u32 w3
  have b4 := bounds_u32 w4
  have x0 : 0 ≤ a2 := b2.1
  have x1 : a2 < 4294967296 := by omega
  have n0 : 0 ≤ a3 := b3.1
  have n1 : a3 < 4294967296 := by omega
  have f0 : 0 ≤ a4 := b4.1
  have f1 : a4 < 4294967296 := by omega
  clear w0 w1 w2 w3 w4 b2 b3 b4
  cases hk : okSize a1
  · go_enter Try.func4, Try.ntmps4
    go_wp2_with fail
    refine (awake_any _).mono ?_; rintro e w1 ⟨rfl, h1⟩
    go_wp2_with fail
    refine (Do_size _ _ _ _ _ _ hk).mono ?_; rintro e w2 ⟨rfl, h2⟩
    go_wp2_with fail
    refine (Do_ref_size _ _ _ _ _ _ hk).mono ?_; rintro e w3 ⟨rfl, hw⟩; replace hw := hw.symm; subst hw
    go_wp2
    go_ret
    exact ⟨rfl, Grown.trans h1 h2⟩
  · obtain ⟨H, M, W, hS⟩ := Sw_of hk
    by_cases ho : a0 < 0 ∨ 7 < a0
    · have HO : Hid _ := ho
      clear ho
      go_enter Try.func4, Try.ntmps4
      go_wp2_with fail
      refine (awake_any _).mono ?_; rintro e w1 ⟨rfl, h1⟩
      go_wp2_with fail
      refine (Do_op _ _ _ _ _ _ hk HO.out).mono ?_; rintro e w2 ⟨rfl, h2⟩
      go_wp2_with fail
      refine (Do_ref_op hS _ _ _ _ _ HO.out).mono ?_; rintro e w3 ⟨rfl, hw⟩; replace hw := hw.symm; subst hw
      go_wp2
      go_ret
      exact ⟨rfl, Grown.trans h1 h2⟩
    · have o0 : 0 ≤ a0 := by omega
      have o1 : a0 ≤ 7 := by omega
      have HN : Hid (a3 % 32 = (((a3 % 32).toNat : Nat) : Int)) := (by omega : a3 % 32 = (((a3 % 32).toNat : Nat) : Int))
      clear ho
      generalize (a3 % 32).toNat = k at HN
      go_enter Try.func4, Try.ntmps4
      go_wp2_with fail
      refine (awake_any _).mono ?_; rintro e w1 ⟨rfl, h1⟩
      go_wp2_with fail
      refine (Do_ok hS _ _ _ _ k _ o0 o1 x0 x1 n0 n1 f0 f1 HN.out).mono ?_; rintro e w2 ⟨rfl, h2⟩
      go_wp2_with fail
      refine (Do_ref_ok hS _ _ _ _ k _ o0 o1 x0 x1 n0 n1 f0 f1 HN.out).mono ?_; rintro e w3 ⟨rfl, hw⟩; replace hw := hw.symm; subst hw
      go_wp2
      go_ret
      exact ⟨rfl, Grown.trans h1 h2⟩
end Go.Proofs.Ytnfbflbghlmdjaa
