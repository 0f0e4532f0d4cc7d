/- The walk of the statement MuldivAdjusts: for every input within its kinds it returns true, and the world has at most new blocks. -/
import Derived.Test.YtecfkgnffhiemaaMulAwake
import Derived.Test.YtecfkgnffhiemaaMulRefAdjs
namespace Go.Proofs.Ytecfkgnffhiemaa
open Go.ChangeShapes Go.WideShapes Go.ChangeAt Go.RowKit
set_option linter.unusedVariables false

theorem MuldivAdjusts_walk (a0 a1 a2 a3 a4 : Int) (w0 : (Lit.int .i64 a0).wf = true) (w1 : (Lit.int .u32 a1).wf = true) (w2 : (Lit.int .u32 a2).wf = true) (w3 : (Lit.int .u32 a3).wf = true) (w4 : (Lit.int .u32 a4).wf = true) (w : World) :
    Calls Try.prog 6 #[.int .i64 a0, .int .u32 a1, .int .u32 a2, .int .u32 a3, .int .u32 a4] w fun e w' => e = .returned (.bool true) ∧ Grown w w' := by
  have b1 := bounds_u32 w1
  have l1 : 0 ≤ a1 := b1.1
  have u1 : a1 < 4294967296 := by omega
  have b2 := bounds_u32 w2
  have l2 : 0 ≤ a2 := b2.1
  have u2 : a2 < 4294967296 := by omega
  have b3 := bounds_u32 w3
  have l3 : 0 ≤ a3 := b3.1
  have u3 : a3 < 4294967296 := by omega
  have b4 := bounds_u32 w4
  have l4 : 0 ≤ a4 := b4.1
  have u4 : a4 < 4294967296 := by omega
  clear b1 b2 b3 b4
  clear w0 w1 w2 w3 w4
  by_cases ho : a0 < 0 ∨ 5 < a0
  · have HO : Hid (a0 < 0 ∨ 5 < a0) := ho
    clear ho
    go_enter Try.func6, Try.ntmps6
    go_wp2_with fail
    refine (awake_any _).mono ?_; rintro e w1 ⟨rfl, h1⟩
    go_wp2_with fail
    refine (adj_none _ _ _ _ _ _ HO.out).mono ?_; rintro e w2 ⟨rfl, h2⟩
    go_wp2_with fail
    refine (rAdj_none _ _ _ _ _ _ HO.out).mono ?_; rintro e w3 ⟨rfl, h3⟩
    go_wp2
    go_ret
    exact ⟨rfl, Grown.trans (Grown.trans h1 h2) h3⟩
  · have o0 : 0 ≤ a0 := by omega
    have o1 : a0 ≤ 5 := by omega
    clear ho
    by_cases hz : a0 = 4 ∧ a3 % 256 = 0
    · obtain ⟨rfl, hb⟩ := hz
      have HB : Hid (a3 % 256 = 0) := hb
      clear hb
      go_enter Try.func6, Try.ntmps6
      go_wp2_with fail
      refine (awake_any _).mono ?_; rintro e w1 ⟨rfl, h1⟩
      go_wp2_with fail
      refine (adj4_zero _ _ _ _ _ l1 u1 l2 u2 l3 u3 l4 u4 HB.out).mono ?_; rintro e w2 ⟨rfl, h2⟩
      go_wp2_with fail
      refine (rAdj_zero _ _ _ _ _ l1 u1 l2 u2 l3 u3 l4 u4 HB.out).mono ?_; rintro e w3 ⟨rfl, h3⟩
      go_wp2
      go_ret
      exact ⟨rfl, Grown.trans (Grown.trans h1 h2) h3⟩
    · have HB : Hid (a0 = 4 → a3 % 256 ≠ 0) := fun h1 h2 => hz ⟨h1, h2⟩
      clear hz
      go_enter Try.func6, Try.ntmps6
      go_wp2_with fail
      refine (awake_any _).mono ?_; rintro e w1 ⟨rfl, h1⟩
      go_wp2_with fail
      refine (adj_ok _ _ _ _ _ _ o0 o1 l1 u1 l2 u2 l3 u3 l4 u4 HB.out).mono ?_; rintro e w2 ⟨rfl, h2⟩
      go_wp2_with fail
      refine (rAdj_ok _ _ _ _ _ _ o0 o1 l1 u1 l2 u2 l3 u3 l4 u4 HB.out).mono ?_; rintro e w3 ⟨rfl, h3⟩
      go_wp2
      go_ret
      exact ⟨rfl, Grown.trans (Grown.trans h1 h2) h3⟩
end Go.Proofs.Ytecfkgnffhiemaa
