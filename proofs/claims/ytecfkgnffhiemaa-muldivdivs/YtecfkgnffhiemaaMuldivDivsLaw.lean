/- The walk of the statement MuldivDivs: for every input within its kinds it returns true, and the world has at most new blocks. -/
import Derived.Test.YtecfkgnffhiemaaMulAwake
import Derived.Test.YtecfkgnffhiemaaMulRefDivs
namespace Go.Proofs.Ytecfkgnffhiemaa
open Go.ChangeShapes Go.WideShapes Go.ChangeAt Go.RowKit
set_option linter.unusedVariables false

theorem MuldivDivs_walk (a0 : Bool) (a1 a2 a3 a4 : Int) (w1 : (Lit.int .i64 a1).wf = true) (w2 : (Lit.int .u32 a2).wf = true) (w3 : (Lit.int .u32 a3).wf = true) (w4 : (Lit.int .u32 a4).wf = true) (w : World) :
    Calls Try.prog 5 #[.bool a0, .int .i64 a1, .int .u32 a2, .int .u32 a3, .int .u32 a4] w fun e w' => e = .returned (.bool true) ∧ Grown w w' := by
  have b2 := bounds_u32 w2
  have l2 : 0 ≤ a2 := b2.1
  have u2 : a2 < 4294967296 := by omega
  have b3 := bounds_u32 w3
  have l3 : 0 ≤ a3 := b3.1
  have u3 : a3 < 4294967296 := by omega
  have b4 := bounds_u32 w4
  have l4 : 0 ≤ a4 := b4.1
  have u4 : a4 < 4294967296 := by omega
  clear b2 b3 b4
  clear w1 w2 w3 w4
  cases hk : okSize a1
  · go_enter Try.func5, Try.ntmps5
    go_wp2_with fail
    refine (awake_any _).mono ?_; rintro e w1 ⟨rfl, h1⟩
    go_wp2_with fail
    refine (mdDiv_no _ _ _ _ _ _ hk).mono ?_; rintro e w2 ⟨rfl, h2⟩
    go_wp2_with fail
    refine (rDiv_no _ _ _ _ _ _ hk).mono ?_; rintro e w3 ⟨rfl, h3⟩
    go_wp2
    go_ret
    exact ⟨rfl, Grown.trans (Grown.trans h1 h2) h3⟩
  · obtain ⟨H, M, W, hS⟩ := Sw_of hk
    go_enter Try.func5, Try.ntmps5
    go_wp2_with fail
    refine (awake_any _).mono ?_; rintro e w1 ⟨rfl, h1⟩
    go_wp2_with fail
    refine (mdDiv_ok hS _ _ _ _ _ l2 u2 l3 u3 l4 u4).mono ?_; rintro e w2 ⟨rfl, h2⟩
    go_wp2_with fail
    refine (rDiv_ok hS _ _ _ _ _ l2 u2 l3 u3 l4 u4).mono ?_; rintro e w3 ⟨rfl, h3⟩
    go_wp2
    go_ret
    exact ⟨rfl, Grown.trans (Grown.trans h1 h2) h3⟩
end Go.Proofs.Ytecfkgnffhiemaa
