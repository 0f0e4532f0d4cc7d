/- The walk of the statement SegmentFalls: it returns true for every input, and the world has at most new blocks. -/
import Derived.Test.YtpgionhhjmlmmaaSegAwake
import Derived.LoopN
namespace Go.Proofs.Ytpgionhhjmlmmaa
open Go.ChangeShapes Go.WideShapes Go.ChangeAt Go.RowKit
set_option linter.unusedVariables false


set_option maxRecDepth 20000 in
set_option maxHeartbeats 4000000 in
theorem fl_no (b l t : Int) (s : Bool) (d : Int) (p g : Bool) (off les : Int) (w : World)  (o0 : 0 ≤ off) (o1 : off < 4294967296) (k0 : 0 ≤ les) (k1 : les < 4294967296) 
    (HW : Hid (∀ w : World, Calls Try.prog 14 #[.agg #[.int .u32 b, .int .u32 l, .int .i64 t, .bool s, .int .i64 d, .bool p, .bool g], .int .u32 off, .int .i64 4, .bool true] w fun e w' => e = .returned (.bool false) ∧ Grown w w'))
    (HR : Hid (∀ w : World, Calls Try.prog 14 #[.agg #[.int .u32 b, .int .u32 l, .int .i64 t, .bool s, .int .i64 d, .bool p, .bool g], .int .u32 off, .int .i64 4, .bool false] w fun e w' => e = .returned (.bool false) ∧ Grown w w'))
    (HO : Hid (∀ (o : Int) (w : World), 0 ≤ o → o < 4294967296 → Calls Try.prog 14 #[.agg #[.int .u32 b, .int .u32 l, .int .i64 t, .bool s, .int .i64 d, .bool p, .bool g], .int .u32 o, .int .i64 1, .bool false] w fun e w' => ∃ B : Bool, e = .returned (.bool B) ∧ Grown w w')) :
    Calls Try.prog 7 #[.agg #[.int .u32 b, .int .u32 l, .int .i64 t, .bool s, .int .i64 d, .bool p, .bool g], .int .u32 off, .int .u32 les] w fun e w' => e = .returned (.bool true) ∧ Grown w w' := by
  go_enter Try.func7, Try.ntmps7
  go_wp2_with fail
  refine (awake_ok _).mono ?_; rintro e w1 ⟨rfl, hg1⟩
  have c0_1 : w1.cell? ⟨w.heap.size, 0, none⟩ = some (.int .u32 b) := Grown.holds hg1 (by simp [go_sem])
  have c1_1 : w1.cell? ⟨w.heap.size, 1, none⟩ = some (.int .u32 l) := Grown.holds hg1 (by simp [go_sem])
  have c2_1 : w1.cell? ⟨w.heap.size, 2, none⟩ = some (.int .i64 t) := Grown.holds hg1 (by simp [go_sem])
  have c3_1 : w1.cell? ⟨w.heap.size, 3, none⟩ = some (.bool s) := Grown.holds hg1 (by simp [go_sem])
  have c4_1 : w1.cell? ⟨w.heap.size, 4, none⟩ = some (.int .i64 d) := Grown.holds hg1 (by simp [go_sem])
  have c5_1 : w1.cell? ⟨w.heap.size, 5, none⟩ = some (.bool p) := Grown.holds hg1 (by simp [go_sem])
  have c6_1 : w1.cell? ⟨w.heap.size, 6, none⟩ = some (.bool g) := Grown.holds hg1 (by simp [go_sem])
  go_wp2_with fail
  refine (HW.out _).mono ?_; rintro e w2 ⟨rfl, hg2⟩
  have c0_2 : w2.cell? ⟨w.heap.size, 0, none⟩ = some (.int .u32 b) := Grown.holds hg2 (c0_1)
  have c1_2 : w2.cell? ⟨w.heap.size, 1, none⟩ = some (.int .u32 l) := Grown.holds hg2 (c1_1)
  have c2_2 : w2.cell? ⟨w.heap.size, 2, none⟩ = some (.int .i64 t) := Grown.holds hg2 (c2_1)
  have c3_2 : w2.cell? ⟨w.heap.size, 3, none⟩ = some (.bool s) := Grown.holds hg2 (c3_1)
  have c4_2 : w2.cell? ⟨w.heap.size, 4, none⟩ = some (.int .i64 d) := Grown.holds hg2 (c4_1)
  have c5_2 : w2.cell? ⟨w.heap.size, 5, none⟩ = some (.bool p) := Grown.holds hg2 (c5_1)
  have c6_2 : w2.cell? ⟨w.heap.size, 6, none⟩ = some (.bool g) := Grown.holds hg2 (c6_1)
  clear c0_1 c1_1 c2_1 c3_1 c4_1 c5_1 c6_1
  go_wp2_with fail
  refine (HR.out _).mono ?_; rintro e w3 ⟨rfl, hg3⟩
  have c0_3 : w3.cell? ⟨w.heap.size, 0, none⟩ = some (.int .u32 b) := Grown.holds hg3 (c0_2)
  have c1_3 : w3.cell? ⟨w.heap.size, 1, none⟩ = some (.int .u32 l) := Grown.holds hg3 (c1_2)
  have c2_3 : w3.cell? ⟨w.heap.size, 2, none⟩ = some (.int .i64 t) := Grown.holds hg3 (c2_2)
  have c3_3 : w3.cell? ⟨w.heap.size, 3, none⟩ = some (.bool s) := Grown.holds hg3 (c3_2)
  have c4_3 : w3.cell? ⟨w.heap.size, 4, none⟩ = some (.int .i64 d) := Grown.holds hg3 (c4_2)
  have c5_3 : w3.cell? ⟨w.heap.size, 5, none⟩ = some (.bool p) := Grown.holds hg3 (c5_2)
  have c6_3 : w3.cell? ⟨w.heap.size, 6, none⟩ = some (.bool g) := Grown.holds hg3 (c6_2)
  clear c0_2 c1_2 c2_2 c3_2 c4_2 c5_2 c6_2
  go_wp2_with fail
  refine wp_loop_rounds 5 ?_
  rw [rounds_succ]
  go_wp2_with fail
  refine (HO.out _ _ (by omega) (by omega)).mono ?_; rintro e w4 ⟨B4, rfl, hg4⟩
  have c0_4 : w4.cell? ⟨w.heap.size, 0, none⟩ = some (.int .u32 b) := Grown.holds hg4 (c0_3)
  have c1_4 : w4.cell? ⟨w.heap.size, 1, none⟩ = some (.int .u32 l) := Grown.holds hg4 (c1_3)
  have c2_4 : w4.cell? ⟨w.heap.size, 2, none⟩ = some (.int .i64 t) := Grown.holds hg4 (c2_3)
  have c3_4 : w4.cell? ⟨w.heap.size, 3, none⟩ = some (.bool s) := Grown.holds hg4 (c3_3)
  have c4_4 : w4.cell? ⟨w.heap.size, 4, none⟩ = some (.int .i64 d) := Grown.holds hg4 (c4_3)
  have c5_4 : w4.cell? ⟨w.heap.size, 5, none⟩ = some (.bool p) := Grown.holds hg4 (c5_3)
  have c6_4 : w4.cell? ⟨w.heap.size, 6, none⟩ = some (.bool g) := Grown.holds hg4 (c6_3)
  clear c0_3 c1_3 c2_3 c3_3 c4_3 c5_3 c6_3
  go_wp2_with fail
  rw [rounds_succ]
  go_wp2_with fail
  refine (HO.out _ _ (by omega) (by omega)).mono ?_; rintro e w5 ⟨B5, rfl, hg5⟩
  have c0_5 : w5.cell? ⟨w.heap.size, 0, none⟩ = some (.int .u32 b) := Grown.holds hg5 (c0_4)
  have c1_5 : w5.cell? ⟨w.heap.size, 1, none⟩ = some (.int .u32 l) := Grown.holds hg5 (c1_4)
  have c2_5 : w5.cell? ⟨w.heap.size, 2, none⟩ = some (.int .i64 t) := Grown.holds hg5 (c2_4)
  have c3_5 : w5.cell? ⟨w.heap.size, 3, none⟩ = some (.bool s) := Grown.holds hg5 (c3_4)
  have c4_5 : w5.cell? ⟨w.heap.size, 4, none⟩ = some (.int .i64 d) := Grown.holds hg5 (c4_4)
  have c5_5 : w5.cell? ⟨w.heap.size, 5, none⟩ = some (.bool p) := Grown.holds hg5 (c5_4)
  have c6_5 : w5.cell? ⟨w.heap.size, 6, none⟩ = some (.bool g) := Grown.holds hg5 (c6_4)
  clear c0_4 c1_4 c2_4 c3_4 c4_4 c5_4 c6_4
  go_wp2_with fail
  rw [rounds_succ]
  go_wp2_with fail
  refine (HO.out _ _ (by omega) (by omega)).mono ?_; rintro e w6 ⟨B6, rfl, hg6⟩
  have c0_6 : w6.cell? ⟨w.heap.size, 0, none⟩ = some (.int .u32 b) := Grown.holds hg6 (c0_5)
  have c1_6 : w6.cell? ⟨w.heap.size, 1, none⟩ = some (.int .u32 l) := Grown.holds hg6 (c1_5)
  have c2_6 : w6.cell? ⟨w.heap.size, 2, none⟩ = some (.int .i64 t) := Grown.holds hg6 (c2_5)
  have c3_6 : w6.cell? ⟨w.heap.size, 3, none⟩ = some (.bool s) := Grown.holds hg6 (c3_5)
  have c4_6 : w6.cell? ⟨w.heap.size, 4, none⟩ = some (.int .i64 d) := Grown.holds hg6 (c4_5)
  have c5_6 : w6.cell? ⟨w.heap.size, 5, none⟩ = some (.bool p) := Grown.holds hg6 (c5_5)
  have c6_6 : w6.cell? ⟨w.heap.size, 6, none⟩ = some (.bool g) := Grown.holds hg6 (c6_5)
  clear c0_5 c1_5 c2_5 c3_5 c4_5 c5_5 c6_5
  go_wp2_with fail
  rw [rounds_succ]
  go_wp2_with fail
  refine (HO.out _ _ (by omega) (by omega)).mono ?_; rintro e w7 ⟨B7, rfl, hg7⟩
  have c0_7 : w7.cell? ⟨w.heap.size, 0, none⟩ = some (.int .u32 b) := Grown.holds hg7 (c0_6)
  have c1_7 : w7.cell? ⟨w.heap.size, 1, none⟩ = some (.int .u32 l) := Grown.holds hg7 (c1_6)
  have c2_7 : w7.cell? ⟨w.heap.size, 2, none⟩ = some (.int .i64 t) := Grown.holds hg7 (c2_6)
  have c3_7 : w7.cell? ⟨w.heap.size, 3, none⟩ = some (.bool s) := Grown.holds hg7 (c3_6)
  have c4_7 : w7.cell? ⟨w.heap.size, 4, none⟩ = some (.int .i64 d) := Grown.holds hg7 (c4_6)
  have c5_7 : w7.cell? ⟨w.heap.size, 5, none⟩ = some (.bool p) := Grown.holds hg7 (c5_6)
  have c6_7 : w7.cell? ⟨w.heap.size, 6, none⟩ = some (.bool g) := Grown.holds hg7 (c6_6)
  clear c0_6 c1_6 c2_6 c3_6 c4_6 c5_6 c6_6
  go_wp2_with fail
  rw [rounds_succ]
  have hG : Grown w w7 := Grown.trans (Grown.trans (Grown.trans (Grown.trans (Grown.trans (Grown.trans (Grown.trans (Grown.alloc (Grown.refl _) _ _) hg1) hg2) hg3) hg4) hg5) hg6) hg7
  by_cases hd : t = 4 ∨ t = 5 ∨ t = 6 ∨ t = 7
  · rcases hd with rfl | rfl | rfl | rfl
    all_goals
      go_wp2
      all_goals go_ret
      all_goals exact ⟨rfl, hG⟩
  · have f4 : (t == 4) = false := by simp; omega
    have f5 : (t == 5) = false := by simp; omega
    have f6 : (t == 6) = false := by simp; omega
    have f7 : (t == 7) = false := by simp; omega
    go_wp2
    all_goals go_ret
    all_goals exact ⟨rfl, hG⟩


set_option maxRecDepth 20000 in
set_option maxHeartbeats 4000000 in
theorem fl_down_true (b l t : Int) (s : Bool) (d : Int) (p g : Bool) (off les : Int) (w : World)  (o0 : 0 ≤ off) (o1 : off < 4294967296) (k0 : 0 ≤ les) (k1 : les < 4294967296) (h3 : off + 3 < 4294967296) (hd : t = 4 ∨ t = 5 ∨ t = 6 ∨ t = 7)
    (HW : Hid (∀ w : World, Calls Try.prog 14 #[.agg #[.int .u32 b, .int .u32 l, .int .i64 t, .bool s, .int .i64 d, .bool p, .bool g], .int .u32 off, .int .i64 4, .bool true] w fun e w' => e = .returned (.bool true) ∧ Grown w w'))
    (HR : Hid (∀ w : World, Calls Try.prog 14 #[.agg #[.int .u32 b, .int .u32 l, .int .i64 t, .bool s, .int .i64 d, .bool p, .bool g], .int .u32 off, .int .i64 4, .bool false] w fun e w' => e = .returned (.bool true) ∧ Grown w w'))
    (HO : Hid (∀ (o : Int) (w : World), off ≤ o → o ≤ off + 3 → Calls Try.prog 14 #[.agg #[.int .u32 b, .int .u32 l, .int .i64 t, .bool s, .int .i64 d, .bool p, .bool g], .int .u32 o, .int .i64 1, .bool false] w fun e w' => e = .returned (.bool true) ∧ Grown w w')) :
    Calls Try.prog 7 #[.agg #[.int .u32 b, .int .u32 l, .int .i64 t, .bool s, .int .i64 d, .bool p, .bool g], .int .u32 off, .int .u32 les] w fun e w' => e = .returned (.bool true) ∧ Grown w w' := by
  go_enter Try.func7, Try.ntmps7
  go_wp2_with fail
  refine (awake_ok _).mono ?_; rintro e w1 ⟨rfl, hg1⟩
  have c0_1 : w1.cell? ⟨w.heap.size, 0, none⟩ = some (.int .u32 b) := Grown.holds hg1 (by simp [go_sem])
  have c1_1 : w1.cell? ⟨w.heap.size, 1, none⟩ = some (.int .u32 l) := Grown.holds hg1 (by simp [go_sem])
  have c2_1 : w1.cell? ⟨w.heap.size, 2, none⟩ = some (.int .i64 t) := Grown.holds hg1 (by simp [go_sem])
  have c3_1 : w1.cell? ⟨w.heap.size, 3, none⟩ = some (.bool s) := Grown.holds hg1 (by simp [go_sem])
  have c4_1 : w1.cell? ⟨w.heap.size, 4, none⟩ = some (.int .i64 d) := Grown.holds hg1 (by simp [go_sem])
  have c5_1 : w1.cell? ⟨w.heap.size, 5, none⟩ = some (.bool p) := Grown.holds hg1 (by simp [go_sem])
  have c6_1 : w1.cell? ⟨w.heap.size, 6, none⟩ = some (.bool g) := Grown.holds hg1 (by simp [go_sem])
  go_wp2_with fail
  refine (HW.out _).mono ?_; rintro e w2 ⟨rfl, hg2⟩
  have c0_2 : w2.cell? ⟨w.heap.size, 0, none⟩ = some (.int .u32 b) := Grown.holds hg2 (c0_1)
  have c1_2 : w2.cell? ⟨w.heap.size, 1, none⟩ = some (.int .u32 l) := Grown.holds hg2 (c1_1)
  have c2_2 : w2.cell? ⟨w.heap.size, 2, none⟩ = some (.int .i64 t) := Grown.holds hg2 (c2_1)
  have c3_2 : w2.cell? ⟨w.heap.size, 3, none⟩ = some (.bool s) := Grown.holds hg2 (c3_1)
  have c4_2 : w2.cell? ⟨w.heap.size, 4, none⟩ = some (.int .i64 d) := Grown.holds hg2 (c4_1)
  have c5_2 : w2.cell? ⟨w.heap.size, 5, none⟩ = some (.bool p) := Grown.holds hg2 (c5_1)
  have c6_2 : w2.cell? ⟨w.heap.size, 6, none⟩ = some (.bool g) := Grown.holds hg2 (c6_1)
  clear c0_1 c1_1 c2_1 c3_1 c4_1 c5_1 c6_1
  go_wp2_with fail
  refine (HR.out _).mono ?_; rintro e w3 ⟨rfl, hg3⟩
  have c0_3 : w3.cell? ⟨w.heap.size, 0, none⟩ = some (.int .u32 b) := Grown.holds hg3 (c0_2)
  have c1_3 : w3.cell? ⟨w.heap.size, 1, none⟩ = some (.int .u32 l) := Grown.holds hg3 (c1_2)
  have c2_3 : w3.cell? ⟨w.heap.size, 2, none⟩ = some (.int .i64 t) := Grown.holds hg3 (c2_2)
  have c3_3 : w3.cell? ⟨w.heap.size, 3, none⟩ = some (.bool s) := Grown.holds hg3 (c3_2)
  have c4_3 : w3.cell? ⟨w.heap.size, 4, none⟩ = some (.int .i64 d) := Grown.holds hg3 (c4_2)
  have c5_3 : w3.cell? ⟨w.heap.size, 5, none⟩ = some (.bool p) := Grown.holds hg3 (c5_2)
  have c6_3 : w3.cell? ⟨w.heap.size, 6, none⟩ = some (.bool g) := Grown.holds hg3 (c6_2)
  clear c0_2 c1_2 c2_2 c3_2 c4_2 c5_2 c6_2
  go_wp2_with fail
  refine wp_loop_rounds 5 ?_
  rw [rounds_succ]
  go_wp2_with fail
  refine (HO.out _ _ (by omega) (by omega)).mono ?_; rintro e w4 ⟨rfl, hg4⟩
  have c0_4 : w4.cell? ⟨w.heap.size, 0, none⟩ = some (.int .u32 b) := Grown.holds hg4 (c0_3)
  have c1_4 : w4.cell? ⟨w.heap.size, 1, none⟩ = some (.int .u32 l) := Grown.holds hg4 (c1_3)
  have c2_4 : w4.cell? ⟨w.heap.size, 2, none⟩ = some (.int .i64 t) := Grown.holds hg4 (c2_3)
  have c3_4 : w4.cell? ⟨w.heap.size, 3, none⟩ = some (.bool s) := Grown.holds hg4 (c3_3)
  have c4_4 : w4.cell? ⟨w.heap.size, 4, none⟩ = some (.int .i64 d) := Grown.holds hg4 (c4_3)
  have c5_4 : w4.cell? ⟨w.heap.size, 5, none⟩ = some (.bool p) := Grown.holds hg4 (c5_3)
  have c6_4 : w4.cell? ⟨w.heap.size, 6, none⟩ = some (.bool g) := Grown.holds hg4 (c6_3)
  clear c0_3 c1_3 c2_3 c3_3 c4_3 c5_3 c6_3
  go_wp2_with fail
  rw [rounds_succ]
  go_wp2_with fail
  refine (HO.out _ _ (by omega) (by omega)).mono ?_; rintro e w5 ⟨rfl, hg5⟩
  have c0_5 : w5.cell? ⟨w.heap.size, 0, none⟩ = some (.int .u32 b) := Grown.holds hg5 (c0_4)
  have c1_5 : w5.cell? ⟨w.heap.size, 1, none⟩ = some (.int .u32 l) := Grown.holds hg5 (c1_4)
  have c2_5 : w5.cell? ⟨w.heap.size, 2, none⟩ = some (.int .i64 t) := Grown.holds hg5 (c2_4)
  have c3_5 : w5.cell? ⟨w.heap.size, 3, none⟩ = some (.bool s) := Grown.holds hg5 (c3_4)
  have c4_5 : w5.cell? ⟨w.heap.size, 4, none⟩ = some (.int .i64 d) := Grown.holds hg5 (c4_4)
  have c5_5 : w5.cell? ⟨w.heap.size, 5, none⟩ = some (.bool p) := Grown.holds hg5 (c5_4)
  have c6_5 : w5.cell? ⟨w.heap.size, 6, none⟩ = some (.bool g) := Grown.holds hg5 (c6_4)
  clear c0_4 c1_4 c2_4 c3_4 c4_4 c5_4 c6_4
  go_wp2_with fail
  rw [rounds_succ]
  go_wp2_with fail
  refine (HO.out _ _ (by omega) (by omega)).mono ?_; rintro e w6 ⟨rfl, hg6⟩
  have c0_6 : w6.cell? ⟨w.heap.size, 0, none⟩ = some (.int .u32 b) := Grown.holds hg6 (c0_5)
  have c1_6 : w6.cell? ⟨w.heap.size, 1, none⟩ = some (.int .u32 l) := Grown.holds hg6 (c1_5)
  have c2_6 : w6.cell? ⟨w.heap.size, 2, none⟩ = some (.int .i64 t) := Grown.holds hg6 (c2_5)
  have c3_6 : w6.cell? ⟨w.heap.size, 3, none⟩ = some (.bool s) := Grown.holds hg6 (c3_5)
  have c4_6 : w6.cell? ⟨w.heap.size, 4, none⟩ = some (.int .i64 d) := Grown.holds hg6 (c4_5)
  have c5_6 : w6.cell? ⟨w.heap.size, 5, none⟩ = some (.bool p) := Grown.holds hg6 (c5_5)
  have c6_6 : w6.cell? ⟨w.heap.size, 6, none⟩ = some (.bool g) := Grown.holds hg6 (c6_5)
  clear c0_5 c1_5 c2_5 c3_5 c4_5 c5_5 c6_5
  go_wp2_with fail
  rw [rounds_succ]
  go_wp2_with fail
  refine (HO.out _ _ (by omega) (by omega)).mono ?_; rintro e w7 ⟨rfl, hg7⟩
  have c0_7 : w7.cell? ⟨w.heap.size, 0, none⟩ = some (.int .u32 b) := Grown.holds hg7 (c0_6)
  have c1_7 : w7.cell? ⟨w.heap.size, 1, none⟩ = some (.int .u32 l) := Grown.holds hg7 (c1_6)
  have c2_7 : w7.cell? ⟨w.heap.size, 2, none⟩ = some (.int .i64 t) := Grown.holds hg7 (c2_6)
  have c3_7 : w7.cell? ⟨w.heap.size, 3, none⟩ = some (.bool s) := Grown.holds hg7 (c3_6)
  have c4_7 : w7.cell? ⟨w.heap.size, 4, none⟩ = some (.int .i64 d) := Grown.holds hg7 (c4_6)
  have c5_7 : w7.cell? ⟨w.heap.size, 5, none⟩ = some (.bool p) := Grown.holds hg7 (c5_6)
  have c6_7 : w7.cell? ⟨w.heap.size, 6, none⟩ = some (.bool g) := Grown.holds hg7 (c6_6)
  clear c0_6 c1_6 c2_6 c3_6 c4_6 c5_6 c6_6
  go_wp2_with fail
  rw [rounds_succ]
  have hG : Grown w w7 := Grown.trans (Grown.trans (Grown.trans (Grown.trans (Grown.trans (Grown.trans (Grown.trans (Grown.alloc (Grown.refl _) _ _) hg1) hg2) hg3) hg4) hg5) hg6) hg7
  rcases hd with rfl | rfl | rfl | rfl
  all_goals
    go_wp2
    all_goals go_ret
    all_goals exact ⟨rfl, hG⟩


set_option maxRecDepth 20000 in
set_option maxHeartbeats 4000000 in
theorem fl_up_true (b l t : Int) (s : Bool) (d : Int) (p g : Bool) (off les : Int) (w : World)  (o0 : 0 ≤ off) (o1 : off < 4294967296) (k0 : 0 ≤ les) (k1 : les < 4294967296) (h3 : off + 3 < 4294967296) (hd : ¬ (t = 4 ∨ t = 5 ∨ t = 6 ∨ t = 7))
    (HW : Hid (∀ w : World, Calls Try.prog 14 #[.agg #[.int .u32 b, .int .u32 l, .int .i64 t, .bool s, .int .i64 d, .bool p, .bool g], .int .u32 off, .int .i64 4, .bool true] w fun e w' => e = .returned (.bool true) ∧ Grown w w'))
    (HR : Hid (∀ w : World, Calls Try.prog 14 #[.agg #[.int .u32 b, .int .u32 l, .int .i64 t, .bool s, .int .i64 d, .bool p, .bool g], .int .u32 off, .int .i64 4, .bool false] w fun e w' => e = .returned (.bool true) ∧ Grown w w'))
    (HO : Hid (∀ (o : Int) (w : World), off ≤ o → o ≤ off + 3 → Calls Try.prog 14 #[.agg #[.int .u32 b, .int .u32 l, .int .i64 t, .bool s, .int .i64 d, .bool p, .bool g], .int .u32 o, .int .i64 1, .bool false] w fun e w' => e = .returned (.bool true) ∧ Grown w w'))
    (HB : Hid (∀ (o : Int) (w : World), 0 ≤ o → o ≤ off → Calls Try.prog 14 #[.agg #[.int .u32 b, .int .u32 l, .int .i64 t, .bool s, .int .i64 d, .bool p, .bool g], .int .u32 o, .int .i64 4, .bool false] w fun e w' => e = .returned (.bool true) ∧ Grown w w')) :
    Calls Try.prog 7 #[.agg #[.int .u32 b, .int .u32 l, .int .i64 t, .bool s, .int .i64 d, .bool p, .bool g], .int .u32 off, .int .u32 les] w fun e w' => e = .returned (.bool true) ∧ Grown w w' := by
  go_enter Try.func7, Try.ntmps7
  go_wp2_with fail
  refine (awake_ok _).mono ?_; rintro e w1 ⟨rfl, hg1⟩
  have c0_1 : w1.cell? ⟨w.heap.size, 0, none⟩ = some (.int .u32 b) := Grown.holds hg1 (by simp [go_sem])
  have c1_1 : w1.cell? ⟨w.heap.size, 1, none⟩ = some (.int .u32 l) := Grown.holds hg1 (by simp [go_sem])
  have c2_1 : w1.cell? ⟨w.heap.size, 2, none⟩ = some (.int .i64 t) := Grown.holds hg1 (by simp [go_sem])
  have c3_1 : w1.cell? ⟨w.heap.size, 3, none⟩ = some (.bool s) := Grown.holds hg1 (by simp [go_sem])
  have c4_1 : w1.cell? ⟨w.heap.size, 4, none⟩ = some (.int .i64 d) := Grown.holds hg1 (by simp [go_sem])
  have c5_1 : w1.cell? ⟨w.heap.size, 5, none⟩ = some (.bool p) := Grown.holds hg1 (by simp [go_sem])
  have c6_1 : w1.cell? ⟨w.heap.size, 6, none⟩ = some (.bool g) := Grown.holds hg1 (by simp [go_sem])
  go_wp2_with fail
  refine (HW.out _).mono ?_; rintro e w2 ⟨rfl, hg2⟩
  have c0_2 : w2.cell? ⟨w.heap.size, 0, none⟩ = some (.int .u32 b) := Grown.holds hg2 (c0_1)
  have c1_2 : w2.cell? ⟨w.heap.size, 1, none⟩ = some (.int .u32 l) := Grown.holds hg2 (c1_1)
  have c2_2 : w2.cell? ⟨w.heap.size, 2, none⟩ = some (.int .i64 t) := Grown.holds hg2 (c2_1)
  have c3_2 : w2.cell? ⟨w.heap.size, 3, none⟩ = some (.bool s) := Grown.holds hg2 (c3_1)
  have c4_2 : w2.cell? ⟨w.heap.size, 4, none⟩ = some (.int .i64 d) := Grown.holds hg2 (c4_1)
  have c5_2 : w2.cell? ⟨w.heap.size, 5, none⟩ = some (.bool p) := Grown.holds hg2 (c5_1)
  have c6_2 : w2.cell? ⟨w.heap.size, 6, none⟩ = some (.bool g) := Grown.holds hg2 (c6_1)
  clear c0_1 c1_1 c2_1 c3_1 c4_1 c5_1 c6_1
  go_wp2_with fail
  refine (HR.out _).mono ?_; rintro e w3 ⟨rfl, hg3⟩
  have c0_3 : w3.cell? ⟨w.heap.size, 0, none⟩ = some (.int .u32 b) := Grown.holds hg3 (c0_2)
  have c1_3 : w3.cell? ⟨w.heap.size, 1, none⟩ = some (.int .u32 l) := Grown.holds hg3 (c1_2)
  have c2_3 : w3.cell? ⟨w.heap.size, 2, none⟩ = some (.int .i64 t) := Grown.holds hg3 (c2_2)
  have c3_3 : w3.cell? ⟨w.heap.size, 3, none⟩ = some (.bool s) := Grown.holds hg3 (c3_2)
  have c4_3 : w3.cell? ⟨w.heap.size, 4, none⟩ = some (.int .i64 d) := Grown.holds hg3 (c4_2)
  have c5_3 : w3.cell? ⟨w.heap.size, 5, none⟩ = some (.bool p) := Grown.holds hg3 (c5_2)
  have c6_3 : w3.cell? ⟨w.heap.size, 6, none⟩ = some (.bool g) := Grown.holds hg3 (c6_2)
  clear c0_2 c1_2 c2_2 c3_2 c4_2 c5_2 c6_2
  go_wp2_with fail
  refine wp_loop_rounds 5 ?_
  rw [rounds_succ]
  go_wp2_with fail
  refine (HO.out _ _ (by omega) (by omega)).mono ?_; rintro e w4 ⟨rfl, hg4⟩
  have c0_4 : w4.cell? ⟨w.heap.size, 0, none⟩ = some (.int .u32 b) := Grown.holds hg4 (c0_3)
  have c1_4 : w4.cell? ⟨w.heap.size, 1, none⟩ = some (.int .u32 l) := Grown.holds hg4 (c1_3)
  have c2_4 : w4.cell? ⟨w.heap.size, 2, none⟩ = some (.int .i64 t) := Grown.holds hg4 (c2_3)
  have c3_4 : w4.cell? ⟨w.heap.size, 3, none⟩ = some (.bool s) := Grown.holds hg4 (c3_3)
  have c4_4 : w4.cell? ⟨w.heap.size, 4, none⟩ = some (.int .i64 d) := Grown.holds hg4 (c4_3)
  have c5_4 : w4.cell? ⟨w.heap.size, 5, none⟩ = some (.bool p) := Grown.holds hg4 (c5_3)
  have c6_4 : w4.cell? ⟨w.heap.size, 6, none⟩ = some (.bool g) := Grown.holds hg4 (c6_3)
  clear c0_3 c1_3 c2_3 c3_3 c4_3 c5_3 c6_3
  go_wp2_with fail
  rw [rounds_succ]
  go_wp2_with fail
  refine (HO.out _ _ (by omega) (by omega)).mono ?_; rintro e w5 ⟨rfl, hg5⟩
  have c0_5 : w5.cell? ⟨w.heap.size, 0, none⟩ = some (.int .u32 b) := Grown.holds hg5 (c0_4)
  have c1_5 : w5.cell? ⟨w.heap.size, 1, none⟩ = some (.int .u32 l) := Grown.holds hg5 (c1_4)
  have c2_5 : w5.cell? ⟨w.heap.size, 2, none⟩ = some (.int .i64 t) := Grown.holds hg5 (c2_4)
  have c3_5 : w5.cell? ⟨w.heap.size, 3, none⟩ = some (.bool s) := Grown.holds hg5 (c3_4)
  have c4_5 : w5.cell? ⟨w.heap.size, 4, none⟩ = some (.int .i64 d) := Grown.holds hg5 (c4_4)
  have c5_5 : w5.cell? ⟨w.heap.size, 5, none⟩ = some (.bool p) := Grown.holds hg5 (c5_4)
  have c6_5 : w5.cell? ⟨w.heap.size, 6, none⟩ = some (.bool g) := Grown.holds hg5 (c6_4)
  clear c0_4 c1_4 c2_4 c3_4 c4_4 c5_4 c6_4
  go_wp2_with fail
  rw [rounds_succ]
  go_wp2_with fail
  refine (HO.out _ _ (by omega) (by omega)).mono ?_; rintro e w6 ⟨rfl, hg6⟩
  have c0_6 : w6.cell? ⟨w.heap.size, 0, none⟩ = some (.int .u32 b) := Grown.holds hg6 (c0_5)
  have c1_6 : w6.cell? ⟨w.heap.size, 1, none⟩ = some (.int .u32 l) := Grown.holds hg6 (c1_5)
  have c2_6 : w6.cell? ⟨w.heap.size, 2, none⟩ = some (.int .i64 t) := Grown.holds hg6 (c2_5)
  have c3_6 : w6.cell? ⟨w.heap.size, 3, none⟩ = some (.bool s) := Grown.holds hg6 (c3_5)
  have c4_6 : w6.cell? ⟨w.heap.size, 4, none⟩ = some (.int .i64 d) := Grown.holds hg6 (c4_5)
  have c5_6 : w6.cell? ⟨w.heap.size, 5, none⟩ = some (.bool p) := Grown.holds hg6 (c5_5)
  have c6_6 : w6.cell? ⟨w.heap.size, 6, none⟩ = some (.bool g) := Grown.holds hg6 (c6_5)
  clear c0_5 c1_5 c2_5 c3_5 c4_5 c5_5 c6_5
  go_wp2_with fail
  rw [rounds_succ]
  go_wp2_with fail
  refine (HO.out _ _ (by omega) (by omega)).mono ?_; rintro e w7 ⟨rfl, hg7⟩
  have c0_7 : w7.cell? ⟨w.heap.size, 0, none⟩ = some (.int .u32 b) := Grown.holds hg7 (c0_6)
  have c1_7 : w7.cell? ⟨w.heap.size, 1, none⟩ = some (.int .u32 l) := Grown.holds hg7 (c1_6)
  have c2_7 : w7.cell? ⟨w.heap.size, 2, none⟩ = some (.int .i64 t) := Grown.holds hg7 (c2_6)
  have c3_7 : w7.cell? ⟨w.heap.size, 3, none⟩ = some (.bool s) := Grown.holds hg7 (c3_6)
  have c4_7 : w7.cell? ⟨w.heap.size, 4, none⟩ = some (.int .i64 d) := Grown.holds hg7 (c4_6)
  have c5_7 : w7.cell? ⟨w.heap.size, 5, none⟩ = some (.bool p) := Grown.holds hg7 (c5_6)
  have c6_7 : w7.cell? ⟨w.heap.size, 6, none⟩ = some (.bool g) := Grown.holds hg7 (c6_6)
  clear c0_6 c1_6 c2_6 c3_6 c4_6 c5_6 c6_6
  go_wp2_with fail
  rw [rounds_succ]
  have hG : Grown w w7 := Grown.trans (Grown.trans (Grown.trans (Grown.trans (Grown.trans (Grown.trans (Grown.trans (Grown.alloc (Grown.refl _) _ _) hg1) hg2) hg3) hg4) hg5) hg6) hg7
  have f4 : (t == 4) = false := by simp; omega
  have f5 : (t == 5) = false := by simp; omega
  have f6 : (t == 6) = false := by simp; omega
  have f7 : (t == 7) = false := by simp; omega
  clear hd
  by_cases hl : les ≤ off
  · have e1 : decide (les ≤ off) = true := by simpa using hl
    go_wp2_with fail
    refine (HB.out _ _ (by omega) (by omega)).mono ?_; rintro e w8 ⟨rfl, hg8⟩
    go_wp2
    go_ret
    exact ⟨rfl, Grown.trans hG hg8⟩
  · have e1 : decide (les ≤ off) = false := by simpa using hl
    go_wp2
    all_goals go_ret
    all_goals exact ⟨rfl, hG⟩


set_option maxRecDepth 20000 in
set_option maxHeartbeats 4000000 in
theorem fl_down_false (b l t : Int) (s : Bool) (d : Int) (p g : Bool) (off les : Int) (w : World)  (o0 : 0 ≤ off) (o1 : off < 4294967296) (k0 : 0 ≤ les) (k1 : les < 4294967296) (h3 : off + 3 < 4294967296) (hd : t = 4 ∨ t = 5 ∨ t = 6 ∨ t = 7)
    (HW : Hid (∀ w : World, Calls Try.prog 14 #[.agg #[.int .u32 b, .int .u32 l, .int .i64 t, .bool s, .int .i64 d, .bool p, .bool g], .int .u32 off, .int .i64 4, .bool true] w fun e w' => e = .returned (.bool false) ∧ Grown w w'))
    (HR : Hid (∀ w : World, Calls Try.prog 14 #[.agg #[.int .u32 b, .int .u32 l, .int .i64 t, .bool s, .int .i64 d, .bool p, .bool g], .int .u32 off, .int .i64 4, .bool false] w fun e w' => e = .returned (.bool true) ∧ Grown w w'))
    (HO : Hid (∀ (o : Int) (w : World), off ≤ o → o ≤ off + 3 → Calls Try.prog 14 #[.agg #[.int .u32 b, .int .u32 l, .int .i64 t, .bool s, .int .i64 d, .bool p, .bool g], .int .u32 o, .int .i64 1, .bool false] w fun e w' => e = .returned (.bool true) ∧ Grown w w')) :
    Calls Try.prog 7 #[.agg #[.int .u32 b, .int .u32 l, .int .i64 t, .bool s, .int .i64 d, .bool p, .bool g], .int .u32 off, .int .u32 les] w fun e w' => e = .returned (.bool true) ∧ Grown w w' := by
  go_enter Try.func7, Try.ntmps7
  go_wp2_with fail
  refine (awake_ok _).mono ?_; rintro e w1 ⟨rfl, hg1⟩
  have c0_1 : w1.cell? ⟨w.heap.size, 0, none⟩ = some (.int .u32 b) := Grown.holds hg1 (by simp [go_sem])
  have c1_1 : w1.cell? ⟨w.heap.size, 1, none⟩ = some (.int .u32 l) := Grown.holds hg1 (by simp [go_sem])
  have c2_1 : w1.cell? ⟨w.heap.size, 2, none⟩ = some (.int .i64 t) := Grown.holds hg1 (by simp [go_sem])
  have c3_1 : w1.cell? ⟨w.heap.size, 3, none⟩ = some (.bool s) := Grown.holds hg1 (by simp [go_sem])
  have c4_1 : w1.cell? ⟨w.heap.size, 4, none⟩ = some (.int .i64 d) := Grown.holds hg1 (by simp [go_sem])
  have c5_1 : w1.cell? ⟨w.heap.size, 5, none⟩ = some (.bool p) := Grown.holds hg1 (by simp [go_sem])
  have c6_1 : w1.cell? ⟨w.heap.size, 6, none⟩ = some (.bool g) := Grown.holds hg1 (by simp [go_sem])
  go_wp2_with fail
  refine (HW.out _).mono ?_; rintro e w2 ⟨rfl, hg2⟩
  have c0_2 : w2.cell? ⟨w.heap.size, 0, none⟩ = some (.int .u32 b) := Grown.holds hg2 (c0_1)
  have c1_2 : w2.cell? ⟨w.heap.size, 1, none⟩ = some (.int .u32 l) := Grown.holds hg2 (c1_1)
  have c2_2 : w2.cell? ⟨w.heap.size, 2, none⟩ = some (.int .i64 t) := Grown.holds hg2 (c2_1)
  have c3_2 : w2.cell? ⟨w.heap.size, 3, none⟩ = some (.bool s) := Grown.holds hg2 (c3_1)
  have c4_2 : w2.cell? ⟨w.heap.size, 4, none⟩ = some (.int .i64 d) := Grown.holds hg2 (c4_1)
  have c5_2 : w2.cell? ⟨w.heap.size, 5, none⟩ = some (.bool p) := Grown.holds hg2 (c5_1)
  have c6_2 : w2.cell? ⟨w.heap.size, 6, none⟩ = some (.bool g) := Grown.holds hg2 (c6_1)
  clear c0_1 c1_1 c2_1 c3_1 c4_1 c5_1 c6_1
  go_wp2_with fail
  refine (HR.out _).mono ?_; rintro e w3 ⟨rfl, hg3⟩
  have c0_3 : w3.cell? ⟨w.heap.size, 0, none⟩ = some (.int .u32 b) := Grown.holds hg3 (c0_2)
  have c1_3 : w3.cell? ⟨w.heap.size, 1, none⟩ = some (.int .u32 l) := Grown.holds hg3 (c1_2)
  have c2_3 : w3.cell? ⟨w.heap.size, 2, none⟩ = some (.int .i64 t) := Grown.holds hg3 (c2_2)
  have c3_3 : w3.cell? ⟨w.heap.size, 3, none⟩ = some (.bool s) := Grown.holds hg3 (c3_2)
  have c4_3 : w3.cell? ⟨w.heap.size, 4, none⟩ = some (.int .i64 d) := Grown.holds hg3 (c4_2)
  have c5_3 : w3.cell? ⟨w.heap.size, 5, none⟩ = some (.bool p) := Grown.holds hg3 (c5_2)
  have c6_3 : w3.cell? ⟨w.heap.size, 6, none⟩ = some (.bool g) := Grown.holds hg3 (c6_2)
  clear c0_2 c1_2 c2_2 c3_2 c4_2 c5_2 c6_2
  go_wp2_with fail
  refine wp_loop_rounds 5 ?_
  rw [rounds_succ]
  go_wp2_with fail
  refine (HO.out _ _ (by omega) (by omega)).mono ?_; rintro e w4 ⟨rfl, hg4⟩
  have c0_4 : w4.cell? ⟨w.heap.size, 0, none⟩ = some (.int .u32 b) := Grown.holds hg4 (c0_3)
  have c1_4 : w4.cell? ⟨w.heap.size, 1, none⟩ = some (.int .u32 l) := Grown.holds hg4 (c1_3)
  have c2_4 : w4.cell? ⟨w.heap.size, 2, none⟩ = some (.int .i64 t) := Grown.holds hg4 (c2_3)
  have c3_4 : w4.cell? ⟨w.heap.size, 3, none⟩ = some (.bool s) := Grown.holds hg4 (c3_3)
  have c4_4 : w4.cell? ⟨w.heap.size, 4, none⟩ = some (.int .i64 d) := Grown.holds hg4 (c4_3)
  have c5_4 : w4.cell? ⟨w.heap.size, 5, none⟩ = some (.bool p) := Grown.holds hg4 (c5_3)
  have c6_4 : w4.cell? ⟨w.heap.size, 6, none⟩ = some (.bool g) := Grown.holds hg4 (c6_3)
  clear c0_3 c1_3 c2_3 c3_3 c4_3 c5_3 c6_3
  go_wp2_with fail
  rw [rounds_succ]
  go_wp2_with fail
  refine (HO.out _ _ (by omega) (by omega)).mono ?_; rintro e w5 ⟨rfl, hg5⟩
  have c0_5 : w5.cell? ⟨w.heap.size, 0, none⟩ = some (.int .u32 b) := Grown.holds hg5 (c0_4)
  have c1_5 : w5.cell? ⟨w.heap.size, 1, none⟩ = some (.int .u32 l) := Grown.holds hg5 (c1_4)
  have c2_5 : w5.cell? ⟨w.heap.size, 2, none⟩ = some (.int .i64 t) := Grown.holds hg5 (c2_4)
  have c3_5 : w5.cell? ⟨w.heap.size, 3, none⟩ = some (.bool s) := Grown.holds hg5 (c3_4)
  have c4_5 : w5.cell? ⟨w.heap.size, 4, none⟩ = some (.int .i64 d) := Grown.holds hg5 (c4_4)
  have c5_5 : w5.cell? ⟨w.heap.size, 5, none⟩ = some (.bool p) := Grown.holds hg5 (c5_4)
  have c6_5 : w5.cell? ⟨w.heap.size, 6, none⟩ = some (.bool g) := Grown.holds hg5 (c6_4)
  clear c0_4 c1_4 c2_4 c3_4 c4_4 c5_4 c6_4
  go_wp2_with fail
  rw [rounds_succ]
  go_wp2_with fail
  refine (HO.out _ _ (by omega) (by omega)).mono ?_; rintro e w6 ⟨rfl, hg6⟩
  have c0_6 : w6.cell? ⟨w.heap.size, 0, none⟩ = some (.int .u32 b) := Grown.holds hg6 (c0_5)
  have c1_6 : w6.cell? ⟨w.heap.size, 1, none⟩ = some (.int .u32 l) := Grown.holds hg6 (c1_5)
  have c2_6 : w6.cell? ⟨w.heap.size, 2, none⟩ = some (.int .i64 t) := Grown.holds hg6 (c2_5)
  have c3_6 : w6.cell? ⟨w.heap.size, 3, none⟩ = some (.bool s) := Grown.holds hg6 (c3_5)
  have c4_6 : w6.cell? ⟨w.heap.size, 4, none⟩ = some (.int .i64 d) := Grown.holds hg6 (c4_5)
  have c5_6 : w6.cell? ⟨w.heap.size, 5, none⟩ = some (.bool p) := Grown.holds hg6 (c5_5)
  have c6_6 : w6.cell? ⟨w.heap.size, 6, none⟩ = some (.bool g) := Grown.holds hg6 (c6_5)
  clear c0_5 c1_5 c2_5 c3_5 c4_5 c5_5 c6_5
  go_wp2_with fail
  rw [rounds_succ]
  go_wp2_with fail
  refine (HO.out _ _ (by omega) (by omega)).mono ?_; rintro e w7 ⟨rfl, hg7⟩
  have c0_7 : w7.cell? ⟨w.heap.size, 0, none⟩ = some (.int .u32 b) := Grown.holds hg7 (c0_6)
  have c1_7 : w7.cell? ⟨w.heap.size, 1, none⟩ = some (.int .u32 l) := Grown.holds hg7 (c1_6)
  have c2_7 : w7.cell? ⟨w.heap.size, 2, none⟩ = some (.int .i64 t) := Grown.holds hg7 (c2_6)
  have c3_7 : w7.cell? ⟨w.heap.size, 3, none⟩ = some (.bool s) := Grown.holds hg7 (c3_6)
  have c4_7 : w7.cell? ⟨w.heap.size, 4, none⟩ = some (.int .i64 d) := Grown.holds hg7 (c4_6)
  have c5_7 : w7.cell? ⟨w.heap.size, 5, none⟩ = some (.bool p) := Grown.holds hg7 (c5_6)
  have c6_7 : w7.cell? ⟨w.heap.size, 6, none⟩ = some (.bool g) := Grown.holds hg7 (c6_6)
  clear c0_6 c1_6 c2_6 c3_6 c4_6 c5_6 c6_6
  go_wp2_with fail
  rw [rounds_succ]
  have hG : Grown w w7 := Grown.trans (Grown.trans (Grown.trans (Grown.trans (Grown.trans (Grown.trans (Grown.trans (Grown.alloc (Grown.refl _) _ _) hg1) hg2) hg3) hg4) hg5) hg6) hg7
  rcases hd with rfl | rfl | rfl | rfl
  all_goals
    go_wp2
    all_goals go_ret
    all_goals exact ⟨rfl, hG⟩


set_option maxRecDepth 20000 in
set_option maxHeartbeats 4000000 in
theorem fl_up_false (b l t : Int) (s : Bool) (d : Int) (p g : Bool) (off les : Int) (w : World)  (o0 : 0 ≤ off) (o1 : off < 4294967296) (k0 : 0 ≤ les) (k1 : les < 4294967296) (h3 : off + 3 < 4294967296) (hd : ¬ (t = 4 ∨ t = 5 ∨ t = 6 ∨ t = 7))
    (HW : Hid (∀ w : World, Calls Try.prog 14 #[.agg #[.int .u32 b, .int .u32 l, .int .i64 t, .bool s, .int .i64 d, .bool p, .bool g], .int .u32 off, .int .i64 4, .bool true] w fun e w' => e = .returned (.bool false) ∧ Grown w w'))
    (HR : Hid (∀ w : World, Calls Try.prog 14 #[.agg #[.int .u32 b, .int .u32 l, .int .i64 t, .bool s, .int .i64 d, .bool p, .bool g], .int .u32 off, .int .i64 4, .bool false] w fun e w' => e = .returned (.bool true) ∧ Grown w w'))
    (HO : Hid (∀ (o : Int) (w : World), off ≤ o → o ≤ off + 3 → Calls Try.prog 14 #[.agg #[.int .u32 b, .int .u32 l, .int .i64 t, .bool s, .int .i64 d, .bool p, .bool g], .int .u32 o, .int .i64 1, .bool false] w fun e w' => e = .returned (.bool true) ∧ Grown w w'))
    (HB : Hid (∀ (o : Int) (w : World), 0 ≤ o → o ≤ off → Calls Try.prog 14 #[.agg #[.int .u32 b, .int .u32 l, .int .i64 t, .bool s, .int .i64 d, .bool p, .bool g], .int .u32 o, .int .i64 4, .bool false] w fun e w' => e = .returned (.bool true) ∧ Grown w w')) :
    Calls Try.prog 7 #[.agg #[.int .u32 b, .int .u32 l, .int .i64 t, .bool s, .int .i64 d, .bool p, .bool g], .int .u32 off, .int .u32 les] w fun e w' => e = .returned (.bool true) ∧ Grown w w' := by
  go_enter Try.func7, Try.ntmps7
  go_wp2_with fail
  refine (awake_ok _).mono ?_; rintro e w1 ⟨rfl, hg1⟩
  have c0_1 : w1.cell? ⟨w.heap.size, 0, none⟩ = some (.int .u32 b) := Grown.holds hg1 (by simp [go_sem])
  have c1_1 : w1.cell? ⟨w.heap.size, 1, none⟩ = some (.int .u32 l) := Grown.holds hg1 (by simp [go_sem])
  have c2_1 : w1.cell? ⟨w.heap.size, 2, none⟩ = some (.int .i64 t) := Grown.holds hg1 (by simp [go_sem])
  have c3_1 : w1.cell? ⟨w.heap.size, 3, none⟩ = some (.bool s) := Grown.holds hg1 (by simp [go_sem])
  have c4_1 : w1.cell? ⟨w.heap.size, 4, none⟩ = some (.int .i64 d) := Grown.holds hg1 (by simp [go_sem])
  have c5_1 : w1.cell? ⟨w.heap.size, 5, none⟩ = some (.bool p) := Grown.holds hg1 (by simp [go_sem])
  have c6_1 : w1.cell? ⟨w.heap.size, 6, none⟩ = some (.bool g) := Grown.holds hg1 (by simp [go_sem])
  go_wp2_with fail
  refine (HW.out _).mono ?_; rintro e w2 ⟨rfl, hg2⟩
  have c0_2 : w2.cell? ⟨w.heap.size, 0, none⟩ = some (.int .u32 b) := Grown.holds hg2 (c0_1)
  have c1_2 : w2.cell? ⟨w.heap.size, 1, none⟩ = some (.int .u32 l) := Grown.holds hg2 (c1_1)
  have c2_2 : w2.cell? ⟨w.heap.size, 2, none⟩ = some (.int .i64 t) := Grown.holds hg2 (c2_1)
  have c3_2 : w2.cell? ⟨w.heap.size, 3, none⟩ = some (.bool s) := Grown.holds hg2 (c3_1)
  have c4_2 : w2.cell? ⟨w.heap.size, 4, none⟩ = some (.int .i64 d) := Grown.holds hg2 (c4_1)
  have c5_2 : w2.cell? ⟨w.heap.size, 5, none⟩ = some (.bool p) := Grown.holds hg2 (c5_1)
  have c6_2 : w2.cell? ⟨w.heap.size, 6, none⟩ = some (.bool g) := Grown.holds hg2 (c6_1)
  clear c0_1 c1_1 c2_1 c3_1 c4_1 c5_1 c6_1
  go_wp2_with fail
  refine (HR.out _).mono ?_; rintro e w3 ⟨rfl, hg3⟩
  have c0_3 : w3.cell? ⟨w.heap.size, 0, none⟩ = some (.int .u32 b) := Grown.holds hg3 (c0_2)
  have c1_3 : w3.cell? ⟨w.heap.size, 1, none⟩ = some (.int .u32 l) := Grown.holds hg3 (c1_2)
  have c2_3 : w3.cell? ⟨w.heap.size, 2, none⟩ = some (.int .i64 t) := Grown.holds hg3 (c2_2)
  have c3_3 : w3.cell? ⟨w.heap.size, 3, none⟩ = some (.bool s) := Grown.holds hg3 (c3_2)
  have c4_3 : w3.cell? ⟨w.heap.size, 4, none⟩ = some (.int .i64 d) := Grown.holds hg3 (c4_2)
  have c5_3 : w3.cell? ⟨w.heap.size, 5, none⟩ = some (.bool p) := Grown.holds hg3 (c5_2)
  have c6_3 : w3.cell? ⟨w.heap.size, 6, none⟩ = some (.bool g) := Grown.holds hg3 (c6_2)
  clear c0_2 c1_2 c2_2 c3_2 c4_2 c5_2 c6_2
  go_wp2_with fail
  refine wp_loop_rounds 5 ?_
  rw [rounds_succ]
  go_wp2_with fail
  refine (HO.out _ _ (by omega) (by omega)).mono ?_; rintro e w4 ⟨rfl, hg4⟩
  have c0_4 : w4.cell? ⟨w.heap.size, 0, none⟩ = some (.int .u32 b) := Grown.holds hg4 (c0_3)
  have c1_4 : w4.cell? ⟨w.heap.size, 1, none⟩ = some (.int .u32 l) := Grown.holds hg4 (c1_3)
  have c2_4 : w4.cell? ⟨w.heap.size, 2, none⟩ = some (.int .i64 t) := Grown.holds hg4 (c2_3)
  have c3_4 : w4.cell? ⟨w.heap.size, 3, none⟩ = some (.bool s) := Grown.holds hg4 (c3_3)
  have c4_4 : w4.cell? ⟨w.heap.size, 4, none⟩ = some (.int .i64 d) := Grown.holds hg4 (c4_3)
  have c5_4 : w4.cell? ⟨w.heap.size, 5, none⟩ = some (.bool p) := Grown.holds hg4 (c5_3)
  have c6_4 : w4.cell? ⟨w.heap.size, 6, none⟩ = some (.bool g) := Grown.holds hg4 (c6_3)
  clear c0_3 c1_3 c2_3 c3_3 c4_3 c5_3 c6_3
  go_wp2_with fail
  rw [rounds_succ]
  go_wp2_with fail
  refine (HO.out _ _ (by omega) (by omega)).mono ?_; rintro e w5 ⟨rfl, hg5⟩
  have c0_5 : w5.cell? ⟨w.heap.size, 0, none⟩ = some (.int .u32 b) := Grown.holds hg5 (c0_4)
  have c1_5 : w5.cell? ⟨w.heap.size, 1, none⟩ = some (.int .u32 l) := Grown.holds hg5 (c1_4)
  have c2_5 : w5.cell? ⟨w.heap.size, 2, none⟩ = some (.int .i64 t) := Grown.holds hg5 (c2_4)
  have c3_5 : w5.cell? ⟨w.heap.size, 3, none⟩ = some (.bool s) := Grown.holds hg5 (c3_4)
  have c4_5 : w5.cell? ⟨w.heap.size, 4, none⟩ = some (.int .i64 d) := Grown.holds hg5 (c4_4)
  have c5_5 : w5.cell? ⟨w.heap.size, 5, none⟩ = some (.bool p) := Grown.holds hg5 (c5_4)
  have c6_5 : w5.cell? ⟨w.heap.size, 6, none⟩ = some (.bool g) := Grown.holds hg5 (c6_4)
  clear c0_4 c1_4 c2_4 c3_4 c4_4 c5_4 c6_4
  go_wp2_with fail
  rw [rounds_succ]
  go_wp2_with fail
  refine (HO.out _ _ (by omega) (by omega)).mono ?_; rintro e w6 ⟨rfl, hg6⟩
  have c0_6 : w6.cell? ⟨w.heap.size, 0, none⟩ = some (.int .u32 b) := Grown.holds hg6 (c0_5)
  have c1_6 : w6.cell? ⟨w.heap.size, 1, none⟩ = some (.int .u32 l) := Grown.holds hg6 (c1_5)
  have c2_6 : w6.cell? ⟨w.heap.size, 2, none⟩ = some (.int .i64 t) := Grown.holds hg6 (c2_5)
  have c3_6 : w6.cell? ⟨w.heap.size, 3, none⟩ = some (.bool s) := Grown.holds hg6 (c3_5)
  have c4_6 : w6.cell? ⟨w.heap.size, 4, none⟩ = some (.int .i64 d) := Grown.holds hg6 (c4_5)
  have c5_6 : w6.cell? ⟨w.heap.size, 5, none⟩ = some (.bool p) := Grown.holds hg6 (c5_5)
  have c6_6 : w6.cell? ⟨w.heap.size, 6, none⟩ = some (.bool g) := Grown.holds hg6 (c6_5)
  clear c0_5 c1_5 c2_5 c3_5 c4_5 c5_5 c6_5
  go_wp2_with fail
  rw [rounds_succ]
  go_wp2_with fail
  refine (HO.out _ _ (by omega) (by omega)).mono ?_; rintro e w7 ⟨rfl, hg7⟩
  have c0_7 : w7.cell? ⟨w.heap.size, 0, none⟩ = some (.int .u32 b) := Grown.holds hg7 (c0_6)
  have c1_7 : w7.cell? ⟨w.heap.size, 1, none⟩ = some (.int .u32 l) := Grown.holds hg7 (c1_6)
  have c2_7 : w7.cell? ⟨w.heap.size, 2, none⟩ = some (.int .i64 t) := Grown.holds hg7 (c2_6)
  have c3_7 : w7.cell? ⟨w.heap.size, 3, none⟩ = some (.bool s) := Grown.holds hg7 (c3_6)
  have c4_7 : w7.cell? ⟨w.heap.size, 4, none⟩ = some (.int .i64 d) := Grown.holds hg7 (c4_6)
  have c5_7 : w7.cell? ⟨w.heap.size, 5, none⟩ = some (.bool p) := Grown.holds hg7 (c5_6)
  have c6_7 : w7.cell? ⟨w.heap.size, 6, none⟩ = some (.bool g) := Grown.holds hg7 (c6_6)
  clear c0_6 c1_6 c2_6 c3_6 c4_6 c5_6 c6_6
  go_wp2_with fail
  rw [rounds_succ]
  have hG : Grown w w7 := Grown.trans (Grown.trans (Grown.trans (Grown.trans (Grown.trans (Grown.trans (Grown.trans (Grown.alloc (Grown.refl _) _ _) hg1) hg2) hg3) hg4) hg5) hg6) hg7
  have f4 : (t == 4) = false := by simp; omega
  have f5 : (t == 5) = false := by simp; omega
  have f6 : (t == 6) = false := by simp; omega
  have f7 : (t == 7) = false := by simp; omega
  clear hd
  by_cases hl : les ≤ off
  · have e1 : decide (les ≤ off) = true := by simpa using hl
    go_wp2_with fail
    refine (HB.out _ _ (by omega) (by omega)).mono ?_; rintro e w8 ⟨rfl, hg8⟩
    go_wp2
    go_ret
    exact ⟨rfl, Grown.trans hG hg8⟩
  · have e1 : decide (les ≤ off) = false := by simpa using hl
    go_wp2
    all_goals go_ret
    all_goals exact ⟨rfl, hG⟩


theorem rW_R {s : Bool} {t : Int} (h : rW s t = true) : rR s t = true := by
  unfold rW at h
  unfold rR
  simp at h
  simp [h.1]
theorem f_w {l t : Int} {s p g : Bool} {off : Int} (h : reachB l t s p g off 4 true = true) : reachB l t s p g off 4 false = true := by
  unfold reachB reachX at h ⊢
  simp only [Bool.and_eq_true, if_true] at h
  obtain ⟨⟨⟨h1, h2⟩, h3⟩, h4⟩ := h
  simp [rW_R h1, h2, h3]
  simpa using h4
theorem f_o {l t : Int} {s p g : Bool} {off : Int} (l1 : l < 4294967296) (h : reachB l t s p g off 4 false = true) : off + 3 < 4294967296 ∧ ∀ o, off ≤ o → o ≤ off + 3 → reachB l t s p g o 1 false = true := by
  unfold reachB reachX at h ⊢
  simp only [Bool.and_eq_true] at h
  obtain ⟨⟨⟨h1, h2⟩, h3⟩, h4⟩ := h
  have ht : topB g ≤ 4294967295 := by cases g <;> simp [topB]
  have hz : szB 1 = true := by decide
  cases hd : rD s t
  · rw [hd] at h4
    simp at h4
    refine ⟨by omega, fun o a b => ?_⟩
    simp at h1
    simp [h1, h2, hz]
    omega
  · rw [hd] at h4
    simp at h4
    refine ⟨by omega, fun o a b => ?_⟩
    simp at h1
    simp [h1, h2, hz]
    omega
theorem f_b {l t : Int} {s p g : Bool} {off : Int} (hd : ¬ (t = 4 ∨ t = 5 ∨ t = 6 ∨ t = 7)) (h : reachB l t s p g off 4 false = true) : ∀ o, 0 ≤ o → o ≤ off → reachB l t s p g o 4 false = true := by
  have e : rD s t = false := by
    unfold rD isD four
    by_cases h1 : 0 ≤ t ∧ t < 8
    · have : ¬ t / 4 % 2 = 1 := by omega
      simp [this]
    · by_cases h2 : 0 ≤ t
      · have : ¬ t < 8 := by omega
        simp [this]
      · simp [h2]
  unfold reachB reachX at h ⊢
  rw [e] at h ⊢
  simp only [Bool.and_eq_true] at h
  obtain ⟨⟨⟨h1, h2⟩, h3⟩, h4⟩ := h
  simp at h4
  intro o a c
  simp at h1
  simp [h1, h2, h3]
  omega

theorem SegmentFalls_walk (b l t : Int) (s : Bool) (d : Int) (p g : Bool) (off les : Int) (w : World) (t0 : -9223372036854775808 ≤ t) (t1 : t < 9223372036854775808) (o0 : 0 ≤ off) (o1 : off < 4294967296) (k0 : 0 ≤ les) (k1 : les < 4294967296) (l0 : 0 ≤ l) (l1 : l < 4294967296) :
    Calls Try.prog 7 #[.agg #[.int .u32 b, .int .u32 l, .int .i64 t, .bool s, .int .i64 d, .bool p, .bool g], .int .u32 off, .int .u32 les] w fun e w' => e = .returned (.bool true) ∧ Grown w w' := by
  have HW : Hid (∀ w, _) := fun w => reach_any b l t s d p g off 4 true w t0 t1 o0 o1 l0 l1
  have HR : Hid (∀ w, _) := fun w => reach_any b l t s d p g off 4 false w t0 t1 o0 o1 l0 l1
  cases hr : reachB l t s p g off 4 false with
  | false =>
    have hw : reachB l t s p g off 4 true = false := by
      cases hx : reachB l t s p g off 4 true with
      | false => rfl
      | true => rw [f_w hx] at hr; cases hr
    rw [hw] at HW
    rw [hr] at HR
    exact fl_no b l t s d p g off les w o0 o1 k0 k1 HW HR (fun o w a c => (reach_any b l t s d p g o 1 false w t0 t1 a c l0 l1).mono fun e w' ⟨h1, h2⟩ => ⟨_, h1, h2⟩)
  | true =>
    rw [hr] at HR
    obtain ⟨h3, ho⟩ := f_o l1 hr
    have HO : Hid (∀ (o : Int) (w : World), off ≤ o → o ≤ off + 3 → Calls Try.prog 14 #[.agg #[.int .u32 b, .int .u32 l, .int .i64 t, .bool s, .int .i64 d, .bool p, .bool g], .int .u32 o, .int .i64 1, .bool false] w fun e w' => e = .returned (.bool true) ∧ Grown w w') := fun o w a c => by
      have := reach_any b l t s d p g o 1 false w t0 t1 (by omega) (by omega) l0 l1
      rw [ho o a c] at this
      exact this
    by_cases hd : t = 4 ∨ t = 5 ∨ t = 6 ∨ t = 7
    · cases hw : reachB l t s p g off 4 true with
      | true => rw [hw] at HW; exact fl_down_true b l t s d p g off les w o0 o1 k0 k1 h3 hd HW HR HO
      | false => rw [hw] at HW; exact fl_down_false b l t s d p g off les w o0 o1 k0 k1 h3 hd HW HR HO
    · have HB : Hid (∀ (o : Int) (w : World), 0 ≤ o → o ≤ off → Calls Try.prog 14 #[.agg #[.int .u32 b, .int .u32 l, .int .i64 t, .bool s, .int .i64 d, .bool p, .bool g], .int .u32 o, .int .i64 4, .bool false] w fun e w' => e = .returned (.bool true) ∧ Grown w w') := fun o w a c => by
        have := reach_any b l t s d p g o 4 false w t0 t1 a (by omega) l0 l1
        rw [f_b hd hr o a c] at this
        exact this
      cases hw : reachB l t s p g off 4 true with
      | true => rw [hw] at HW; exact fl_up_true b l t s d p g off les w o0 o1 k0 k1 h3 hd HW HR HO HB
      | false => rw [hw] at HW; exact fl_up_false b l t s d p g off les w o0 o1 k0 k1 h3 hd HW HR HO HB
end Go.Proofs.Ytpgionhhjmlmmaa
