/- The walk of the statement SegmentBounds: it returns true for every input, and the world has at most new blocks. -/
import Derived.Test.YtpgionhhjmlmmabSegAwake
namespace Go.Proofs.Ytpgionhhjmlmmab
open Go.ChangeShapes Go.WideShapes Go.ChangeAt Go.RowKit
set_option linter.unusedVariables false

theorem up_is (l off : Int) (g : Bool) : reachB l 2 false true g off 1 true = decide (off ≤ l) := by
  have e1 : rW false 2 = true := by decide
  have e2 : rD false 2 = false := by decide
  have e3 : szB 1 = true := by decide
  simp [reachB, reachX, e1, e2, e3]
theorem down_is (l off : Int) (g : Bool) : reachB l 6 false true g off 1 true = (decide (l < off) && decide (off ≤ topB g)) := by
  have e1 : rW false 6 = true := by decide
  have e2 : rD false 6 = true := by decide
  have e3 : szB 1 = true := by decide
  simp [reachB, reachX, e1, e2, e3]

set_option maxHeartbeats 2000000 in
theorem bounds_core (l off : Int) (g A B : Bool) (w : World) (hA : A = decide (off ≤ l)) (hB : B = (decide (l < off) && decide (off ≤ topB g)))
    (H1 : Hid (∀ w : World, Calls Try.prog 5 #[.agg #[.int .u32 0, .int .u32 l, .int .i64 2, .bool false, .int .i64 0, .bool true, .bool g], .int .u32 off, .int .i64 1, .bool true] w fun e w' => e = .returned (.bool A) ∧ Grown w w'))
    (H2 : Hid (∀ w : World, Calls Try.prog 5 #[.agg #[.int .u32 0, .int .u32 l, .int .i64 6, .bool false, .int .i64 0, .bool true, .bool g], .int .u32 off, .int .i64 1, .bool true] w fun e w' => e = .returned (.bool B) ∧ Grown w w')) :
    Calls Try.prog 3 #[.int .u32 l, .int .u32 off, .bool g] w fun e w' => e = .returned (.bool true) ∧ Grown w w' := by
  have HA : Hid _ := hA
  have HB : Hid _ := hB
  clear hA hB
  go_enter Try.func3, Try.ntmps3
  go_wp2_with fail
  refine (awake_ok _).mono ?_; rintro e w1 ⟨rfl, hg1⟩
  go_wp2_with fail
  refine (H1.out _).mono ?_; rintro e w2 ⟨rfl, hg2⟩
  have e0_2 : w2.cell? ⟨w1.heap.size + 1, 0, none⟩ = some (.int .u32 0) := Grown.holds hg2 (by simp [go_sem])
  have e1_2 : w2.cell? ⟨w1.heap.size + 1, 1, none⟩ = some (.int .u32 l) := Grown.holds hg2 (by simp [go_sem])
  have e2_2 : w2.cell? ⟨w1.heap.size + 1, 2, none⟩ = some (.int .i64 6) := Grown.holds hg2 (by simp [go_sem])
  have e3_2 : w2.cell? ⟨w1.heap.size + 1, 3, none⟩ = some (.bool false) := Grown.holds hg2 (by simp [go_sem])
  have e4_2 : w2.cell? ⟨w1.heap.size + 1, 4, none⟩ = some (.int .i64 0) := Grown.holds hg2 (by simp [go_sem])
  have e5_2 : w2.cell? ⟨w1.heap.size + 1, 5, none⟩ = some (.bool true) := Grown.holds hg2 (by simp [go_sem])
  have e6_2 : w2.cell? ⟨w1.heap.size + 1, 6, none⟩ = some (.bool g) := Grown.holds hg2 (by simp [go_sem])
  go_wp2_with fail
  refine (H2.out _).mono ?_; rintro e w3 ⟨rfl, hg3⟩
  have hG : Grown w w3 := Grown.trans (Grown.trans (Grown.alloc (Grown.alloc hg1 _ _) _ _) hg2) hg3
  have hA := HA.out
  have hB := HB.out
  clear HA HB H1 H2
  by_cases h1 : off ≤ l
  · have e1 : decide (off ≤ l) = true := by simpa using h1
    have e2 : decide (l < off) = false := by simp; omega
    rw [e1] at hA
    rw [e2, Bool.false_and] at hB
    subst hA hB
    cases g
    all_goals
      go_wp2
      all_goals go_ret
      all_goals exact ⟨ret_bool (by simp), hG⟩
  · have e1 : decide (off ≤ l) = false := by simpa using h1
    have e2 : decide (l < off) = true := by simp; omega
    rw [e1] at hA
    rw [e2, Bool.true_and] at hB
    subst hA
    cases g
    · by_cases h3 : off ≤ 65535
      · have e3 : decide (off ≤ 65535) = true := by simpa using h3
        rw [show topB false = 65535 from rfl, e3] at hB
        subst hB
        go_wp2
        all_goals go_ret
        all_goals exact ⟨ret_bool (by simp), hG⟩
      · have e3 : decide (off ≤ 65535) = false := by simpa using h3
        rw [show topB false = 65535 from rfl, e3] at hB
        subst hB
        go_wp2
        all_goals go_ret
        all_goals exact ⟨ret_bool (by simp), hG⟩
    · by_cases h3 : off ≤ 4294967295
      · have e3 : decide (off ≤ 4294967295) = true := by simpa using h3
        rw [show topB true = 4294967295 from rfl, e3] at hB
        subst hB
        go_wp2
        all_goals go_ret
        all_goals exact ⟨ret_bool (by simp), hG⟩
      · have e3 : decide (off ≤ 4294967295) = false := by simpa using h3
        rw [show topB true = 4294967295 from rfl, e3] at hB
        subst hB
        go_wp2
        all_goals go_ret
        all_goals exact ⟨ret_bool (by simp), hG⟩

theorem SegmentBounds_walk (a0 a1 : Int) (a2 : Bool) (w0 : (Lit.int .u32 a0).wf = true) (w1 : (Lit.int .u32 a1).wf = true) (w : World) :
    Calls Try.prog 3 #[.int .u32 a0, .int .u32 a1, .bool a2] w fun e w' => e = .returned (.bool true) ∧ Grown w w' := by
  have b0 := bounds_u32 w0
  have b1 := bounds_u32 w1
  exact bounds_core a0 a1 a2 _ _ w rfl rfl
    (fun w => up_is a0 a1 a2 ▸ reach_any 0 a0 2 false 0 true a2 a1 1 true w (by decide) (by decide) b1.1 (by omega) b0.1 (by omega))
    (fun w => down_is a0 a1 a2 ▸ reach_any 0 a0 6 false 0 true a2 a1 1 true w (by decide) (by decide) b1.1 (by omega) b0.1 (by omega))
end Go.Proofs.Ytpgionhhjmlmmab
