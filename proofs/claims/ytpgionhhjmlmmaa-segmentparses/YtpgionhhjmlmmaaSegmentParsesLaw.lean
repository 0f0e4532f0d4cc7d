/- The walk of the statement SegmentParses: it returns true for every input, and the world has at most new blocks. -/
import Derived.Test.YtpgionhhjmlmmaaSegRef
namespace Go.Proofs.Ytpgionhhjmlmmaa
open Go.ChangeShapes Go.WideShapes Go.ChangeAt Go.RowKit
set_option linter.unusedVariables false

set_option maxHeartbeats 1000000 in
theorem parses_core (lo hi : Int) (b l t : Int) (s : Bool) (d : Int) (p g : Bool) (w : World)
    (H1 : Hid (∀ w : World, Calls Try.prog 10 #[.int .u32 lo, .int .u32 hi] w fun e w' => e = .returned (.agg #[.int .u32 b, .int .u32 l, .int .i64 t, .bool s, .int .i64 d, .bool p, .bool g]) ∧ Grown w w'))
    (H2 : Hid (∀ w : World, Calls Try.prog 11 #[.int .u32 lo, .int .u32 hi] w fun e w' => e = .returned (.agg #[.int .u32 b, .int .u32 l, .int .i64 t, .bool s, .int .i64 d, .bool p, .bool g]) ∧ Grown w w')) :
    Calls Try.prog 4 #[.int .u32 lo, .int .u32 hi] w fun e w' => e = .returned (.bool true) ∧ Grown w w' := by
  have hgd := guardD
  have heq := eqD b l t s d p g
  go_enter Try.func4, Try.ntmps4
  go_wp2_with fail
  refine (awake_ok _).mono ?_; rintro e w1 ⟨rfl, hg1⟩
  go_wp2_with fail
  refine (H1.out _).mono ?_; rintro e w2 ⟨rfl, hg2⟩
  go_wp2_with fail
  refine (H2.out _).mono ?_; rintro e w3 ⟨rfl, hg3⟩
  go_wp2
  go_ret
  exact ⟨rfl, Grown.trans (Grown.trans hg1 hg2) hg3⟩

theorem SegmentParses_walk (a0 a1 : Int) (w0 : (Lit.int .u32 a0).wf = true) (w1 : (Lit.int .u32 a1).wf = true) (w : World) :
    Calls Try.prog 4 #[.int .u32 a0, .int .u32 a1] w fun e w' => e = .returned (.bool true) ∧ Grown w w' := by
  have b0 := bounds_u32 w0
  have b1 := bounds_u32 w1
  exact parses_core a0 a1 _ _ _ _ _ _ _ w (fun w => parse_any a0 a1 w b0.1 (by omega) b1.1 (by omega)) (fun w => refParse_any a0 a1 w b0.1 (by omega) b1.1 (by omega))
end Go.Proofs.Ytpgionhhjmlmmaa
