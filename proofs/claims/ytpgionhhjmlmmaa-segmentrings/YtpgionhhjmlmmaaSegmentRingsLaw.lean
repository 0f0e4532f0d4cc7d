/- The walk of the statement SegmentRings: it returns true for every input, and the world has at most new blocks. -/
import Derived.Test.YtpgionhhjmlmmaaSegAwake
namespace Go.Proofs.Ytpgionhhjmlmmaa
open Go.ChangeShapes Go.WideShapes Go.ChangeAt Go.RowKit
set_option linter.unusedVariables false


set_option maxHeartbeats 2000000 in
theorem rg_1 (b l t : Int) (s : Bool) (d : Int) (p g : Bool) (n x c : Int) (w : World)  (hp : p = true) (hn : ¬ (0 < c ∧ c < 4) ∨ n = 2)
    (HV : Hid (∀ w : World, Calls Try.prog 15 #[.int .i64 n, .int .u16 x, .agg #[.int .u32 b, .int .u32 l, .int .i64 t, .bool s, .int .i64 d, .bool p, .bool g], .int .i64 c] w fun e w' => e = .returned (.int .i64 (-1)) ∧ Grown w w')) :
    Calls Try.prog 8 #[.agg #[.int .u32 b, .int .u32 l, .int .i64 t, .bool s, .int .i64 d, .bool p, .bool g], .int .i64 n, .int .u16 x, .int .i64 c] w fun e w' => e = .returned (.bool true) ∧ Grown w w' := by
  have HP : Hid _ := hp
  clear hp
  go_enter Try.func8, Try.ntmps8
  go_wp2_with fail
  refine (awake_ok _).mono ?_; rintro e w1 ⟨rfl, hg1⟩
  have c0_1 : w1.cell? ⟨w.heap.size, 0, none⟩ = some (.int .u32 b) := Grown.holds hg1 (by simp [go_sem])
  have c1_1 : w1.cell? ⟨w.heap.size, 1, none⟩ = some (.int .u32 l) := Grown.holds hg1 (by simp [go_sem])
  have c2_1 : w1.cell? ⟨w.heap.size, 2, none⟩ = some (.int .i64 t) := Grown.holds hg1 (by simp [go_sem])
  have c3_1 : w1.cell? ⟨w.heap.size, 3, none⟩ = some (.bool s) := Grown.holds hg1 (by simp [go_sem])
  have c4_1 : w1.cell? ⟨w.heap.size, 4, none⟩ = some (.int .i64 d) := Grown.holds hg1 (by simp [go_sem])
  have c5_1 : w1.cell? ⟨w.heap.size, 5, none⟩ = some (.bool p) := Grown.holds hg1 (by simp [go_sem])
  have c6_1 : w1.cell? ⟨w.heap.size, 6, none⟩ = some (.bool g) := Grown.holds hg1 (by simp [go_sem])
  go_wp2_with fail
  refine (HV.out _).mono ?_; rintro e w2 ⟨rfl, hg2⟩
  have c0_2 : w2.cell? ⟨w.heap.size, 0, none⟩ = some (.int .u32 b) := Grown.holds hg2 (c0_1)
  have c1_2 : w2.cell? ⟨w.heap.size, 1, none⟩ = some (.int .u32 l) := Grown.holds hg2 (c1_1)
  have c2_2 : w2.cell? ⟨w.heap.size, 2, none⟩ = some (.int .i64 t) := Grown.holds hg2 (c2_1)
  have c3_2 : w2.cell? ⟨w.heap.size, 3, none⟩ = some (.bool s) := Grown.holds hg2 (c3_1)
  have c4_2 : w2.cell? ⟨w.heap.size, 4, none⟩ = some (.int .i64 d) := Grown.holds hg2 (c4_1)
  have c5_2 : w2.cell? ⟨w.heap.size, 5, none⟩ = some (.bool p) := Grown.holds hg2 (c5_1)
  have c6_2 : w2.cell? ⟨w.heap.size, 6, none⟩ = some (.bool g) := Grown.holds hg2 (c6_1)
  clear c0_1 c1_1 c2_1 c3_1 c4_1 c5_1 c6_1
  have hG : Grown w w2 := Grown.trans (Grown.trans (Grown.alloc (Grown.refl _) _ _) hg1) hg2
  have hp := HP.out
  subst hp
  by_cases h1 : 0 < c
  · have e1 : decide (0 < c) = true := by simpa using h1
    by_cases h2 : c < 4
    · have e2 : decide (c < 4) = true := by simpa using h2
      have e3 : n = 2 := by omega
      subst e3
      go_wp2
      go_ret
      exact ⟨rfl, hG⟩
    · have e2 : decide (c < 4) = false := by simpa using h2
      go_wp2
      go_ret
      exact ⟨rfl, hG⟩
  · have e1 : decide (0 < c) = false := by simpa using h1
    go_wp2
    go_ret
    exact ⟨rfl, hG⟩


set_option maxHeartbeats 2000000 in
theorem rg_2 (b l t : Int) (s : Bool) (d : Int) (p g : Bool) (n x c : Int) (w : World)  (hp : p = true) (h1 : 0 < c) (h2 : c < 4) (h3 : ¬ n = 2)
    (HV : Hid (∀ w : World, Calls Try.prog 15 #[.int .i64 n, .int .u16 x, .agg #[.int .u32 b, .int .u32 l, .int .i64 t, .bool s, .int .i64 d, .bool p, .bool g], .int .i64 c] w fun e w' => e = .returned (.int .i64 (-1)) ∧ Grown w w'))
    (HU : Hid (∀ w : World, Calls Try.prog 15 #[.int .i64 n, .int .u16 x, .agg #[.int .u32 b, .int .u32 l, .int .i64 t, .bool s, .int .i64 d, .bool p, .bool g], .int .i64 (c - 1)] w fun e w' => e = .returned (.int .i64 (-1)) ∧ Grown w w')) :
    Calls Try.prog 8 #[.agg #[.int .u32 b, .int .u32 l, .int .i64 t, .bool s, .int .i64 d, .bool p, .bool g], .int .i64 n, .int .u16 x, .int .i64 c] w fun e w' => e = .returned (.bool true) ∧ Grown w w' := by
  have HP : Hid _ := hp
  clear hp
  go_enter Try.func8, Try.ntmps8
  go_wp2_with fail
  refine (awake_ok _).mono ?_; rintro e w1 ⟨rfl, hg1⟩
  have c0_1 : w1.cell? ⟨w.heap.size, 0, none⟩ = some (.int .u32 b) := Grown.holds hg1 (by simp [go_sem])
  have c1_1 : w1.cell? ⟨w.heap.size, 1, none⟩ = some (.int .u32 l) := Grown.holds hg1 (by simp [go_sem])
  have c2_1 : w1.cell? ⟨w.heap.size, 2, none⟩ = some (.int .i64 t) := Grown.holds hg1 (by simp [go_sem])
  have c3_1 : w1.cell? ⟨w.heap.size, 3, none⟩ = some (.bool s) := Grown.holds hg1 (by simp [go_sem])
  have c4_1 : w1.cell? ⟨w.heap.size, 4, none⟩ = some (.int .i64 d) := Grown.holds hg1 (by simp [go_sem])
  have c5_1 : w1.cell? ⟨w.heap.size, 5, none⟩ = some (.bool p) := Grown.holds hg1 (by simp [go_sem])
  have c6_1 : w1.cell? ⟨w.heap.size, 6, none⟩ = some (.bool g) := Grown.holds hg1 (by simp [go_sem])
  go_wp2_with fail
  refine (HV.out _).mono ?_; rintro e w2 ⟨rfl, hg2⟩
  have c0_2 : w2.cell? ⟨w.heap.size, 0, none⟩ = some (.int .u32 b) := Grown.holds hg2 (c0_1)
  have c1_2 : w2.cell? ⟨w.heap.size, 1, none⟩ = some (.int .u32 l) := Grown.holds hg2 (c1_1)
  have c2_2 : w2.cell? ⟨w.heap.size, 2, none⟩ = some (.int .i64 t) := Grown.holds hg2 (c2_1)
  have c3_2 : w2.cell? ⟨w.heap.size, 3, none⟩ = some (.bool s) := Grown.holds hg2 (c3_1)
  have c4_2 : w2.cell? ⟨w.heap.size, 4, none⟩ = some (.int .i64 d) := Grown.holds hg2 (c4_1)
  have c5_2 : w2.cell? ⟨w.heap.size, 5, none⟩ = some (.bool p) := Grown.holds hg2 (c5_1)
  have c6_2 : w2.cell? ⟨w.heap.size, 6, none⟩ = some (.bool g) := Grown.holds hg2 (c6_1)
  clear c0_1 c1_1 c2_1 c3_1 c4_1 c5_1 c6_1
  have hG : Grown w w2 := Grown.trans (Grown.trans (Grown.alloc (Grown.refl _) _ _) hg1) hg2
  have hp := HP.out
  subst hp
  have e1 : decide (0 < c) = true := by simpa using h1
  have e2 : decide (c < 4) = true := by simpa using h2
  have e3 : (n != 2) = true := by simpa using h3
  go_wp2_with fail
  refine (HU.out _).mono ?_; rintro e w3 ⟨rfl, hg3⟩
  have c0_3 := Grown.holds hg3 c0_2
  have c1_3 := Grown.holds hg3 c1_2
  have c2_3 := Grown.holds hg3 c2_2
  have c3_3 := Grown.holds hg3 c3_2
  have c4_3 := Grown.holds hg3 c4_2
  have c5_3 := Grown.holds hg3 c5_2
  have c6_3 := Grown.holds hg3 c6_2
  go_wp2
  go_ret
  exact ⟨rfl, Grown.trans hG hg3⟩


set_option maxHeartbeats 2000000 in
theorem rg_11_y (b l t : Int) (s : Bool) (d : Int) (p g : Bool) (n x c : Int) (w : World)  (hp : p = true)
    (HV : Hid (∀ w : World, Calls Try.prog 15 #[.int .i64 n, .int .u16 x, .agg #[.int .u32 b, .int .u32 l, .int .i64 t, .bool s, .int .i64 d, .bool p, .bool g], .int .i64 c] w fun e w' => e = .returned (.int .i64 11) ∧ Grown w w')) :
    Calls Try.prog 8 #[.agg #[.int .u32 b, .int .u32 l, .int .i64 t, .bool s, .int .i64 d, .bool p, .bool g], .int .i64 n, .int .u16 x, .int .i64 c] w fun e w' => e = .returned (.bool true) ∧ Grown w w' := by
  have HP : Hid _ := hp
  clear hp
  go_enter Try.func8, Try.ntmps8
  go_wp2_with fail
  refine (awake_ok _).mono ?_; rintro e w1 ⟨rfl, hg1⟩
  have c0_1 : w1.cell? ⟨w.heap.size, 0, none⟩ = some (.int .u32 b) := Grown.holds hg1 (by simp [go_sem])
  have c1_1 : w1.cell? ⟨w.heap.size, 1, none⟩ = some (.int .u32 l) := Grown.holds hg1 (by simp [go_sem])
  have c2_1 : w1.cell? ⟨w.heap.size, 2, none⟩ = some (.int .i64 t) := Grown.holds hg1 (by simp [go_sem])
  have c3_1 : w1.cell? ⟨w.heap.size, 3, none⟩ = some (.bool s) := Grown.holds hg1 (by simp [go_sem])
  have c4_1 : w1.cell? ⟨w.heap.size, 4, none⟩ = some (.int .i64 d) := Grown.holds hg1 (by simp [go_sem])
  have c5_1 : w1.cell? ⟨w.heap.size, 5, none⟩ = some (.bool p) := Grown.holds hg1 (by simp [go_sem])
  have c6_1 : w1.cell? ⟨w.heap.size, 6, none⟩ = some (.bool g) := Grown.holds hg1 (by simp [go_sem])
  go_wp2_with fail
  refine (HV.out _).mono ?_; rintro e w2 ⟨rfl, hg2⟩
  have c0_2 : w2.cell? ⟨w.heap.size, 0, none⟩ = some (.int .u32 b) := Grown.holds hg2 (c0_1)
  have c1_2 : w2.cell? ⟨w.heap.size, 1, none⟩ = some (.int .u32 l) := Grown.holds hg2 (c1_1)
  have c2_2 : w2.cell? ⟨w.heap.size, 2, none⟩ = some (.int .i64 t) := Grown.holds hg2 (c2_1)
  have c3_2 : w2.cell? ⟨w.heap.size, 3, none⟩ = some (.bool s) := Grown.holds hg2 (c3_1)
  have c4_2 : w2.cell? ⟨w.heap.size, 4, none⟩ = some (.int .i64 d) := Grown.holds hg2 (c4_1)
  have c5_2 : w2.cell? ⟨w.heap.size, 5, none⟩ = some (.bool p) := Grown.holds hg2 (c5_1)
  have c6_2 : w2.cell? ⟨w.heap.size, 6, none⟩ = some (.bool g) := Grown.holds hg2 (c6_1)
  clear c0_1 c1_1 c2_1 c3_1 c4_1 c5_1 c6_1
  have hG : Grown w w2 := Grown.trans (Grown.trans (Grown.alloc (Grown.refl _) _ _) hg1) hg2
  have hp := HP.out
  subst hp
  by_cases h1 : 0 < c
  · have e1 : decide (0 < c) = true := by simpa using h1
    by_cases h2 : c < 4
    · have e2 : decide (c < 4) = true := by simpa using h2
      go_wp2
      go_ret
      exact ⟨rfl, hG⟩
    · have e2 : decide (c < 4) = false := by simpa using h2
      go_wp2
      go_ret
      exact ⟨rfl, hG⟩
  · have e1 : decide (0 < c) = false := by simpa using h1
    go_wp2
    go_ret
    exact ⟨rfl, hG⟩


set_option maxHeartbeats 2000000 in
theorem rg_11_n (b l t : Int) (s : Bool) (d : Int) (p g : Bool) (n x c : Int) (w : World) (C : Int) (R : Bool) (hp : p = false) (hC : ¬ C = -1) (hR : R = false)
    (HV : Hid (∀ w : World, Calls Try.prog 15 #[.int .i64 n, .int .u16 x, .agg #[.int .u32 b, .int .u32 l, .int .i64 t, .bool s, .int .i64 d, .bool p, .bool g], .int .i64 c] w fun e w' => e = .returned (.int .i64 11) ∧ Grown w w'))
    (HC : Hid (∀ w : World, Calls Try.prog 16 #[.int .u16 x, .agg #[.int .u32 b, .int .u32 l, .int .i64 t, .bool s, .int .i64 d, .bool p, .bool g], .int .i64 c] w fun e w' => e = .returned (.int .i64 C) ∧ Grown w w'))
    (HR : Hid (∀ w : World, Calls Try.prog 14 #[.agg #[.int .u32 b, .int .u32 l, .int .i64 t, .bool s, .int .i64 d, .bool p, .bool g], .int .u32 0, .int .i64 1, .bool false] w fun e w' => e = .returned (.bool R) ∧ Grown w w')) :
    Calls Try.prog 8 #[.agg #[.int .u32 b, .int .u32 l, .int .i64 t, .bool s, .int .i64 d, .bool p, .bool g], .int .i64 n, .int .u16 x, .int .i64 c] w fun e w' => e = .returned (.bool true) ∧ Grown w w' := by
  have HP : Hid _ := hp
  clear hp
  go_enter Try.func8, Try.ntmps8
  go_wp2_with fail
  refine (awake_ok _).mono ?_; rintro e w1 ⟨rfl, hg1⟩
  have c0_1 : w1.cell? ⟨w.heap.size, 0, none⟩ = some (.int .u32 b) := Grown.holds hg1 (by simp [go_sem])
  have c1_1 : w1.cell? ⟨w.heap.size, 1, none⟩ = some (.int .u32 l) := Grown.holds hg1 (by simp [go_sem])
  have c2_1 : w1.cell? ⟨w.heap.size, 2, none⟩ = some (.int .i64 t) := Grown.holds hg1 (by simp [go_sem])
  have c3_1 : w1.cell? ⟨w.heap.size, 3, none⟩ = some (.bool s) := Grown.holds hg1 (by simp [go_sem])
  have c4_1 : w1.cell? ⟨w.heap.size, 4, none⟩ = some (.int .i64 d) := Grown.holds hg1 (by simp [go_sem])
  have c5_1 : w1.cell? ⟨w.heap.size, 5, none⟩ = some (.bool p) := Grown.holds hg1 (by simp [go_sem])
  have c6_1 : w1.cell? ⟨w.heap.size, 6, none⟩ = some (.bool g) := Grown.holds hg1 (by simp [go_sem])
  go_wp2_with fail
  refine (HV.out _).mono ?_; rintro e w2 ⟨rfl, hg2⟩
  have c0_2 : w2.cell? ⟨w.heap.size, 0, none⟩ = some (.int .u32 b) := Grown.holds hg2 (c0_1)
  have c1_2 : w2.cell? ⟨w.heap.size, 1, none⟩ = some (.int .u32 l) := Grown.holds hg2 (c1_1)
  have c2_2 : w2.cell? ⟨w.heap.size, 2, none⟩ = some (.int .i64 t) := Grown.holds hg2 (c2_1)
  have c3_2 : w2.cell? ⟨w.heap.size, 3, none⟩ = some (.bool s) := Grown.holds hg2 (c3_1)
  have c4_2 : w2.cell? ⟨w.heap.size, 4, none⟩ = some (.int .i64 d) := Grown.holds hg2 (c4_1)
  have c5_2 : w2.cell? ⟨w.heap.size, 5, none⟩ = some (.bool p) := Grown.holds hg2 (c5_1)
  have c6_2 : w2.cell? ⟨w.heap.size, 6, none⟩ = some (.bool g) := Grown.holds hg2 (c6_1)
  clear c0_1 c1_1 c2_1 c3_1 c4_1 c5_1 c6_1
  have hG : Grown w w2 := Grown.trans (Grown.trans (Grown.alloc (Grown.refl _) _ _) hg1) hg2
  have hp := HP.out
  subst hp hR
  have eC : (C == -1) = false := by simpa using hC
  by_cases h1 : 0 < c
  · have e1 : decide (0 < c) = true := by simpa using h1
    by_cases h2 : c < 4
    · have e2 : decide (c < 4) = true := by simpa using h2
      go_wp2_with fail
      refine (HC.out _).mono ?_; rintro e w3 ⟨rfl, hg3⟩
      have c0_3 := Grown.holds hg3 c0_2
      have c1_3 := Grown.holds hg3 c1_2
      have c2_3 := Grown.holds hg3 c2_2
      have c3_3 := Grown.holds hg3 c3_2
      have c4_3 := Grown.holds hg3 c4_2
      have c5_3 := Grown.holds hg3 c5_2
      have c6_3 := Grown.holds hg3 c6_2
      go_wp2_with fail
      refine (HR.out _).mono ?_; rintro e w4 ⟨rfl, hg4⟩
      go_wp2
      go_ret
      exact ⟨rfl, Grown.trans (Grown.trans hG hg3) hg4⟩
    · have e2 : decide (c < 4) = false := by simpa using h2
      go_wp2_with fail
      refine (HC.out _).mono ?_; rintro e w3 ⟨rfl, hg3⟩
      have c0_3 := Grown.holds hg3 c0_2
      have c1_3 := Grown.holds hg3 c1_2
      have c2_3 := Grown.holds hg3 c2_2
      have c3_3 := Grown.holds hg3 c3_2
      have c4_3 := Grown.holds hg3 c4_2
      have c5_3 := Grown.holds hg3 c5_2
      have c6_3 := Grown.holds hg3 c6_2
      go_wp2_with fail
      refine (HR.out _).mono ?_; rintro e w4 ⟨rfl, hg4⟩
      go_wp2
      go_ret
      exact ⟨rfl, Grown.trans (Grown.trans hG hg3) hg4⟩
  · have e1 : decide (0 < c) = false := by simpa using h1
    go_wp2_with fail
    refine (HC.out _).mono ?_; rintro e w3 ⟨rfl, hg3⟩
    have c0_3 := Grown.holds hg3 c0_2
    have c1_3 := Grown.holds hg3 c1_2
    have c2_3 := Grown.holds hg3 c2_2
    have c3_3 := Grown.holds hg3 c3_2
    have c4_3 := Grown.holds hg3 c4_2
    have c5_3 := Grown.holds hg3 c5_2
    have c6_3 := Grown.holds hg3 c6_2
    go_wp2_with fail
    refine (HR.out _).mono ?_; rintro e w4 ⟨rfl, hg4⟩
    go_wp2
    go_ret
    exact ⟨rfl, Grown.trans (Grown.trans hG hg3) hg4⟩


set_option maxHeartbeats 2000000 in
theorem rg_12_y (b l t : Int) (s : Bool) (d : Int) (p g : Bool) (n x c : Int) (w : World)  (hp : p = true)
    (HV : Hid (∀ w : World, Calls Try.prog 15 #[.int .i64 n, .int .u16 x, .agg #[.int .u32 b, .int .u32 l, .int .i64 t, .bool s, .int .i64 d, .bool p, .bool g], .int .i64 c] w fun e w' => e = .returned (.int .i64 12) ∧ Grown w w')) :
    Calls Try.prog 8 #[.agg #[.int .u32 b, .int .u32 l, .int .i64 t, .bool s, .int .i64 d, .bool p, .bool g], .int .i64 n, .int .u16 x, .int .i64 c] w fun e w' => e = .returned (.bool true) ∧ Grown w w' := by
  have HP : Hid _ := hp
  clear hp
  go_enter Try.func8, Try.ntmps8
  go_wp2_with fail
  refine (awake_ok _).mono ?_; rintro e w1 ⟨rfl, hg1⟩
  have c0_1 : w1.cell? ⟨w.heap.size, 0, none⟩ = some (.int .u32 b) := Grown.holds hg1 (by simp [go_sem])
  have c1_1 : w1.cell? ⟨w.heap.size, 1, none⟩ = some (.int .u32 l) := Grown.holds hg1 (by simp [go_sem])
  have c2_1 : w1.cell? ⟨w.heap.size, 2, none⟩ = some (.int .i64 t) := Grown.holds hg1 (by simp [go_sem])
  have c3_1 : w1.cell? ⟨w.heap.size, 3, none⟩ = some (.bool s) := Grown.holds hg1 (by simp [go_sem])
  have c4_1 : w1.cell? ⟨w.heap.size, 4, none⟩ = some (.int .i64 d) := Grown.holds hg1 (by simp [go_sem])
  have c5_1 : w1.cell? ⟨w.heap.size, 5, none⟩ = some (.bool p) := Grown.holds hg1 (by simp [go_sem])
  have c6_1 : w1.cell? ⟨w.heap.size, 6, none⟩ = some (.bool g) := Grown.holds hg1 (by simp [go_sem])
  go_wp2_with fail
  refine (HV.out _).mono ?_; rintro e w2 ⟨rfl, hg2⟩
  have c0_2 : w2.cell? ⟨w.heap.size, 0, none⟩ = some (.int .u32 b) := Grown.holds hg2 (c0_1)
  have c1_2 : w2.cell? ⟨w.heap.size, 1, none⟩ = some (.int .u32 l) := Grown.holds hg2 (c1_1)
  have c2_2 : w2.cell? ⟨w.heap.size, 2, none⟩ = some (.int .i64 t) := Grown.holds hg2 (c2_1)
  have c3_2 : w2.cell? ⟨w.heap.size, 3, none⟩ = some (.bool s) := Grown.holds hg2 (c3_1)
  have c4_2 : w2.cell? ⟨w.heap.size, 4, none⟩ = some (.int .i64 d) := Grown.holds hg2 (c4_1)
  have c5_2 : w2.cell? ⟨w.heap.size, 5, none⟩ = some (.bool p) := Grown.holds hg2 (c5_1)
  have c6_2 : w2.cell? ⟨w.heap.size, 6, none⟩ = some (.bool g) := Grown.holds hg2 (c6_1)
  clear c0_1 c1_1 c2_1 c3_1 c4_1 c5_1 c6_1
  have hG : Grown w w2 := Grown.trans (Grown.trans (Grown.alloc (Grown.refl _) _ _) hg1) hg2
  have hp := HP.out
  subst hp
  by_cases h1 : 0 < c
  · have e1 : decide (0 < c) = true := by simpa using h1
    by_cases h2 : c < 4
    · have e2 : decide (c < 4) = true := by simpa using h2
      go_wp2
      go_ret
      exact ⟨rfl, hG⟩
    · have e2 : decide (c < 4) = false := by simpa using h2
      go_wp2
      go_ret
      exact ⟨rfl, hG⟩
  · have e1 : decide (0 < c) = false := by simpa using h1
    go_wp2
    go_ret
    exact ⟨rfl, hG⟩


set_option maxHeartbeats 2000000 in
theorem rg_12_n (b l t : Int) (s : Bool) (d : Int) (p g : Bool) (n x c : Int) (w : World) (C : Int) (R : Bool) (hp : p = false) (hC : ¬ C = -1) (hR : R = false)
    (HV : Hid (∀ w : World, Calls Try.prog 15 #[.int .i64 n, .int .u16 x, .agg #[.int .u32 b, .int .u32 l, .int .i64 t, .bool s, .int .i64 d, .bool p, .bool g], .int .i64 c] w fun e w' => e = .returned (.int .i64 12) ∧ Grown w w'))
    (HC : Hid (∀ w : World, Calls Try.prog 16 #[.int .u16 x, .agg #[.int .u32 b, .int .u32 l, .int .i64 t, .bool s, .int .i64 d, .bool p, .bool g], .int .i64 c] w fun e w' => e = .returned (.int .i64 C) ∧ Grown w w'))
    (HR : Hid (∀ w : World, Calls Try.prog 14 #[.agg #[.int .u32 b, .int .u32 l, .int .i64 t, .bool s, .int .i64 d, .bool p, .bool g], .int .u32 0, .int .i64 1, .bool false] w fun e w' => e = .returned (.bool R) ∧ Grown w w')) :
    Calls Try.prog 8 #[.agg #[.int .u32 b, .int .u32 l, .int .i64 t, .bool s, .int .i64 d, .bool p, .bool g], .int .i64 n, .int .u16 x, .int .i64 c] w fun e w' => e = .returned (.bool true) ∧ Grown w w' := by
  have HP : Hid _ := hp
  clear hp
  go_enter Try.func8, Try.ntmps8
  go_wp2_with fail
  refine (awake_ok _).mono ?_; rintro e w1 ⟨rfl, hg1⟩
  have c0_1 : w1.cell? ⟨w.heap.size, 0, none⟩ = some (.int .u32 b) := Grown.holds hg1 (by simp [go_sem])
  have c1_1 : w1.cell? ⟨w.heap.size, 1, none⟩ = some (.int .u32 l) := Grown.holds hg1 (by simp [go_sem])
  have c2_1 : w1.cell? ⟨w.heap.size, 2, none⟩ = some (.int .i64 t) := Grown.holds hg1 (by simp [go_sem])
  have c3_1 : w1.cell? ⟨w.heap.size, 3, none⟩ = some (.bool s) := Grown.holds hg1 (by simp [go_sem])
  have c4_1 : w1.cell? ⟨w.heap.size, 4, none⟩ = some (.int .i64 d) := Grown.holds hg1 (by simp [go_sem])
  have c5_1 : w1.cell? ⟨w.heap.size, 5, none⟩ = some (.bool p) := Grown.holds hg1 (by simp [go_sem])
  have c6_1 : w1.cell? ⟨w.heap.size, 6, none⟩ = some (.bool g) := Grown.holds hg1 (by simp [go_sem])
  go_wp2_with fail
  refine (HV.out _).mono ?_; rintro e w2 ⟨rfl, hg2⟩
  have c0_2 : w2.cell? ⟨w.heap.size, 0, none⟩ = some (.int .u32 b) := Grown.holds hg2 (c0_1)
  have c1_2 : w2.cell? ⟨w.heap.size, 1, none⟩ = some (.int .u32 l) := Grown.holds hg2 (c1_1)
  have c2_2 : w2.cell? ⟨w.heap.size, 2, none⟩ = some (.int .i64 t) := Grown.holds hg2 (c2_1)
  have c3_2 : w2.cell? ⟨w.heap.size, 3, none⟩ = some (.bool s) := Grown.holds hg2 (c3_1)
  have c4_2 : w2.cell? ⟨w.heap.size, 4, none⟩ = some (.int .i64 d) := Grown.holds hg2 (c4_1)
  have c5_2 : w2.cell? ⟨w.heap.size, 5, none⟩ = some (.bool p) := Grown.holds hg2 (c5_1)
  have c6_2 : w2.cell? ⟨w.heap.size, 6, none⟩ = some (.bool g) := Grown.holds hg2 (c6_1)
  clear c0_1 c1_1 c2_1 c3_1 c4_1 c5_1 c6_1
  have hG : Grown w w2 := Grown.trans (Grown.trans (Grown.alloc (Grown.refl _) _ _) hg1) hg2
  have hp := HP.out
  subst hp hR
  have eC : (C == -1) = false := by simpa using hC
  by_cases h1 : 0 < c
  · have e1 : decide (0 < c) = true := by simpa using h1
    by_cases h2 : c < 4
    · have e2 : decide (c < 4) = true := by simpa using h2
      go_wp2_with fail
      refine (HC.out _).mono ?_; rintro e w3 ⟨rfl, hg3⟩
      have c0_3 := Grown.holds hg3 c0_2
      have c1_3 := Grown.holds hg3 c1_2
      have c2_3 := Grown.holds hg3 c2_2
      have c3_3 := Grown.holds hg3 c3_2
      have c4_3 := Grown.holds hg3 c4_2
      have c5_3 := Grown.holds hg3 c5_2
      have c6_3 := Grown.holds hg3 c6_2
      go_wp2_with fail
      refine (HR.out _).mono ?_; rintro e w4 ⟨rfl, hg4⟩
      go_wp2
      go_ret
      exact ⟨rfl, Grown.trans (Grown.trans hG hg3) hg4⟩
    · have e2 : decide (c < 4) = false := by simpa using h2
      go_wp2_with fail
      refine (HC.out _).mono ?_; rintro e w3 ⟨rfl, hg3⟩
      have c0_3 := Grown.holds hg3 c0_2
      have c1_3 := Grown.holds hg3 c1_2
      have c2_3 := Grown.holds hg3 c2_2
      have c3_3 := Grown.holds hg3 c3_2
      have c4_3 := Grown.holds hg3 c4_2
      have c5_3 := Grown.holds hg3 c5_2
      have c6_3 := Grown.holds hg3 c6_2
      go_wp2_with fail
      refine (HR.out _).mono ?_; rintro e w4 ⟨rfl, hg4⟩
      go_wp2
      go_ret
      exact ⟨rfl, Grown.trans (Grown.trans hG hg3) hg4⟩
  · have e1 : decide (0 < c) = false := by simpa using h1
    go_wp2_with fail
    refine (HC.out _).mono ?_; rintro e w3 ⟨rfl, hg3⟩
    have c0_3 := Grown.holds hg3 c0_2
    have c1_3 := Grown.holds hg3 c1_2
    have c2_3 := Grown.holds hg3 c2_2
    have c3_3 := Grown.holds hg3 c3_2
    have c4_3 := Grown.holds hg3 c4_2
    have c5_3 := Grown.holds hg3 c5_2
    have c6_3 := Grown.holds hg3 c6_2
    go_wp2_with fail
    refine (HR.out _).mono ?_; rintro e w4 ⟨rfl, hg4⟩
    go_wp2
    go_ret
    exact ⟨rfl, Grown.trans (Grown.trans hG hg3) hg4⟩


set_option maxHeartbeats 2000000 in
theorem rg_13_y (b l t : Int) (s : Bool) (d : Int) (p g : Bool) (n x c : Int) (w : World)  (hp : p = true)
    (HV : Hid (∀ w : World, Calls Try.prog 15 #[.int .i64 n, .int .u16 x, .agg #[.int .u32 b, .int .u32 l, .int .i64 t, .bool s, .int .i64 d, .bool p, .bool g], .int .i64 c] w fun e w' => e = .returned (.int .i64 13) ∧ Grown w w')) :
    Calls Try.prog 8 #[.agg #[.int .u32 b, .int .u32 l, .int .i64 t, .bool s, .int .i64 d, .bool p, .bool g], .int .i64 n, .int .u16 x, .int .i64 c] w fun e w' => e = .returned (.bool true) ∧ Grown w w' := by
  have HP : Hid _ := hp
  clear hp
  go_enter Try.func8, Try.ntmps8
  go_wp2_with fail
  refine (awake_ok _).mono ?_; rintro e w1 ⟨rfl, hg1⟩
  have c0_1 : w1.cell? ⟨w.heap.size, 0, none⟩ = some (.int .u32 b) := Grown.holds hg1 (by simp [go_sem])
  have c1_1 : w1.cell? ⟨w.heap.size, 1, none⟩ = some (.int .u32 l) := Grown.holds hg1 (by simp [go_sem])
  have c2_1 : w1.cell? ⟨w.heap.size, 2, none⟩ = some (.int .i64 t) := Grown.holds hg1 (by simp [go_sem])
  have c3_1 : w1.cell? ⟨w.heap.size, 3, none⟩ = some (.bool s) := Grown.holds hg1 (by simp [go_sem])
  have c4_1 : w1.cell? ⟨w.heap.size, 4, none⟩ = some (.int .i64 d) := Grown.holds hg1 (by simp [go_sem])
  have c5_1 : w1.cell? ⟨w.heap.size, 5, none⟩ = some (.bool p) := Grown.holds hg1 (by simp [go_sem])
  have c6_1 : w1.cell? ⟨w.heap.size, 6, none⟩ = some (.bool g) := Grown.holds hg1 (by simp [go_sem])
  go_wp2_with fail
  refine (HV.out _).mono ?_; rintro e w2 ⟨rfl, hg2⟩
  have c0_2 : w2.cell? ⟨w.heap.size, 0, none⟩ = some (.int .u32 b) := Grown.holds hg2 (c0_1)
  have c1_2 : w2.cell? ⟨w.heap.size, 1, none⟩ = some (.int .u32 l) := Grown.holds hg2 (c1_1)
  have c2_2 : w2.cell? ⟨w.heap.size, 2, none⟩ = some (.int .i64 t) := Grown.holds hg2 (c2_1)
  have c3_2 : w2.cell? ⟨w.heap.size, 3, none⟩ = some (.bool s) := Grown.holds hg2 (c3_1)
  have c4_2 : w2.cell? ⟨w.heap.size, 4, none⟩ = some (.int .i64 d) := Grown.holds hg2 (c4_1)
  have c5_2 : w2.cell? ⟨w.heap.size, 5, none⟩ = some (.bool p) := Grown.holds hg2 (c5_1)
  have c6_2 : w2.cell? ⟨w.heap.size, 6, none⟩ = some (.bool g) := Grown.holds hg2 (c6_1)
  clear c0_1 c1_1 c2_1 c3_1 c4_1 c5_1 c6_1
  have hG : Grown w w2 := Grown.trans (Grown.trans (Grown.alloc (Grown.refl _) _ _) hg1) hg2
  have hp := HP.out
  subst hp
  by_cases h1 : 0 < c
  · have e1 : decide (0 < c) = true := by simpa using h1
    by_cases h2 : c < 4
    · have e2 : decide (c < 4) = true := by simpa using h2
      go_wp2
      go_ret
      exact ⟨rfl, hG⟩
    · have e2 : decide (c < 4) = false := by simpa using h2
      go_wp2
      go_ret
      exact ⟨rfl, hG⟩
  · have e1 : decide (0 < c) = false := by simpa using h1
    go_wp2
    go_ret
    exact ⟨rfl, hG⟩


set_option maxHeartbeats 2000000 in
theorem rg_13_n (b l t : Int) (s : Bool) (d : Int) (p g : Bool) (n x c : Int) (w : World) (C : Int) (R : Bool) (hp : p = false) (hC : ¬ C = -1) (hR : R = false)
    (HV : Hid (∀ w : World, Calls Try.prog 15 #[.int .i64 n, .int .u16 x, .agg #[.int .u32 b, .int .u32 l, .int .i64 t, .bool s, .int .i64 d, .bool p, .bool g], .int .i64 c] w fun e w' => e = .returned (.int .i64 13) ∧ Grown w w'))
    (HC : Hid (∀ w : World, Calls Try.prog 16 #[.int .u16 x, .agg #[.int .u32 b, .int .u32 l, .int .i64 t, .bool s, .int .i64 d, .bool p, .bool g], .int .i64 c] w fun e w' => e = .returned (.int .i64 C) ∧ Grown w w'))
    (HR : Hid (∀ w : World, Calls Try.prog 14 #[.agg #[.int .u32 b, .int .u32 l, .int .i64 t, .bool s, .int .i64 d, .bool p, .bool g], .int .u32 0, .int .i64 1, .bool false] w fun e w' => e = .returned (.bool R) ∧ Grown w w')) :
    Calls Try.prog 8 #[.agg #[.int .u32 b, .int .u32 l, .int .i64 t, .bool s, .int .i64 d, .bool p, .bool g], .int .i64 n, .int .u16 x, .int .i64 c] w fun e w' => e = .returned (.bool true) ∧ Grown w w' := by
  have HP : Hid _ := hp
  clear hp
  go_enter Try.func8, Try.ntmps8
  go_wp2_with fail
  refine (awake_ok _).mono ?_; rintro e w1 ⟨rfl, hg1⟩
  have c0_1 : w1.cell? ⟨w.heap.size, 0, none⟩ = some (.int .u32 b) := Grown.holds hg1 (by simp [go_sem])
  have c1_1 : w1.cell? ⟨w.heap.size, 1, none⟩ = some (.int .u32 l) := Grown.holds hg1 (by simp [go_sem])
  have c2_1 : w1.cell? ⟨w.heap.size, 2, none⟩ = some (.int .i64 t) := Grown.holds hg1 (by simp [go_sem])
  have c3_1 : w1.cell? ⟨w.heap.size, 3, none⟩ = some (.bool s) := Grown.holds hg1 (by simp [go_sem])
  have c4_1 : w1.cell? ⟨w.heap.size, 4, none⟩ = some (.int .i64 d) := Grown.holds hg1 (by simp [go_sem])
  have c5_1 : w1.cell? ⟨w.heap.size, 5, none⟩ = some (.bool p) := Grown.holds hg1 (by simp [go_sem])
  have c6_1 : w1.cell? ⟨w.heap.size, 6, none⟩ = some (.bool g) := Grown.holds hg1 (by simp [go_sem])
  go_wp2_with fail
  refine (HV.out _).mono ?_; rintro e w2 ⟨rfl, hg2⟩
  have c0_2 : w2.cell? ⟨w.heap.size, 0, none⟩ = some (.int .u32 b) := Grown.holds hg2 (c0_1)
  have c1_2 : w2.cell? ⟨w.heap.size, 1, none⟩ = some (.int .u32 l) := Grown.holds hg2 (c1_1)
  have c2_2 : w2.cell? ⟨w.heap.size, 2, none⟩ = some (.int .i64 t) := Grown.holds hg2 (c2_1)
  have c3_2 : w2.cell? ⟨w.heap.size, 3, none⟩ = some (.bool s) := Grown.holds hg2 (c3_1)
  have c4_2 : w2.cell? ⟨w.heap.size, 4, none⟩ = some (.int .i64 d) := Grown.holds hg2 (c4_1)
  have c5_2 : w2.cell? ⟨w.heap.size, 5, none⟩ = some (.bool p) := Grown.holds hg2 (c5_1)
  have c6_2 : w2.cell? ⟨w.heap.size, 6, none⟩ = some (.bool g) := Grown.holds hg2 (c6_1)
  clear c0_1 c1_1 c2_1 c3_1 c4_1 c5_1 c6_1
  have hG : Grown w w2 := Grown.trans (Grown.trans (Grown.alloc (Grown.refl _) _ _) hg1) hg2
  have hp := HP.out
  subst hp hR
  have eC : (C == -1) = false := by simpa using hC
  by_cases h1 : 0 < c
  · have e1 : decide (0 < c) = true := by simpa using h1
    by_cases h2 : c < 4
    · have e2 : decide (c < 4) = true := by simpa using h2
      go_wp2_with fail
      refine (HC.out _).mono ?_; rintro e w3 ⟨rfl, hg3⟩
      have c0_3 := Grown.holds hg3 c0_2
      have c1_3 := Grown.holds hg3 c1_2
      have c2_3 := Grown.holds hg3 c2_2
      have c3_3 := Grown.holds hg3 c3_2
      have c4_3 := Grown.holds hg3 c4_2
      have c5_3 := Grown.holds hg3 c5_2
      have c6_3 := Grown.holds hg3 c6_2
      go_wp2_with fail
      refine (HR.out _).mono ?_; rintro e w4 ⟨rfl, hg4⟩
      go_wp2
      go_ret
      exact ⟨rfl, Grown.trans (Grown.trans hG hg3) hg4⟩
    · have e2 : decide (c < 4) = false := by simpa using h2
      go_wp2_with fail
      refine (HC.out _).mono ?_; rintro e w3 ⟨rfl, hg3⟩
      have c0_3 := Grown.holds hg3 c0_2
      have c1_3 := Grown.holds hg3 c1_2
      have c2_3 := Grown.holds hg3 c2_2
      have c3_3 := Grown.holds hg3 c3_2
      have c4_3 := Grown.holds hg3 c4_2
      have c5_3 := Grown.holds hg3 c5_2
      have c6_3 := Grown.holds hg3 c6_2
      go_wp2_with fail
      refine (HR.out _).mono ?_; rintro e w4 ⟨rfl, hg4⟩
      go_wp2
      go_ret
      exact ⟨rfl, Grown.trans (Grown.trans hG hg3) hg4⟩
  · have e1 : decide (0 < c) = false := by simpa using h1
    go_wp2_with fail
    refine (HC.out _).mono ?_; rintro e w3 ⟨rfl, hg3⟩
    have c0_3 := Grown.holds hg3 c0_2
    have c1_3 := Grown.holds hg3 c1_2
    have c2_3 := Grown.holds hg3 c2_2
    have c3_3 := Grown.holds hg3 c3_2
    have c4_3 := Grown.holds hg3 c4_2
    have c5_3 := Grown.holds hg3 c5_2
    have c6_3 := Grown.holds hg3 c6_2
    go_wp2_with fail
    refine (HR.out _).mono ?_; rintro e w4 ⟨rfl, hg4⟩
    go_wp2
    go_ret
    exact ⟨rfl, Grown.trans (Grown.trans hG hg3) hg4⟩


theorem presB_or (p : Bool) (k : Int) : (p = true ∧ presB p k = -1) ∨ (p = false ∧ presB p k = k) := by cases p <;> simp [presB]
theorem fitB_or (n t d : Int) (s p : Bool) (r c : Int) : (p = true ∧ fitB n t d s p r c = -1) ∨ fitB n t d s p r c = 13 ∨ (p = false ∧ (fitB n t d s p r c = 11 ∨ fitB n t d s p r c = 12)) := by
  unfold fitB fitS fitD presB
  cases p
  all_goals repeat' split
  all_goals simp_all
theorem fitB_in (n t d : Int) (s p : Bool) (r c : Int) (hn : ¬ n = 2) (h : fitB n t d s p r c = -1) : fitB n t d s p r (c - 1) = -1 := by
  have h1 := presB_or p 11
  unfold fitB fitD at h ⊢
  rw [if_neg hn] at h ⊢
  split at h
  · rename_i hm
    rw [if_pos hm]
    split at h
    · rename_i hk
      have hk' : rR s t = true ∧ (rF s t = true ∨ c - 1 ≤ d ∧ r ≤ d) := ⟨hk.1, hk.2.imp id fun x => ⟨by omega, x.2⟩⟩
      rw [if_pos hk']
      exact h
    · omega
  · omega
theorem codeB_no (t d : Int) (s g : Bool) (r c : Int) : ¬ codeB t d s false g r c = -1 := by
  unfold codeB presB
  split <;> simp

theorem SegmentRings_walk (b l t : Int) (s : Bool) (d : Int) (p g : Bool) (n x c : Int) (w : World) (t0 : -9223372036854775808 ≤ t) (t1 : t < 9223372036854775808) (l0 : 0 ≤ l) (l1 : l < 4294967296) (x0 : 0 ≤ x) (x1 : x < 65536) :
    Calls Try.prog 8 #[.agg #[.int .u32 b, .int .u32 l, .int .i64 t, .bool s, .int .i64 d, .bool p, .bool g], .int .i64 n, .int .u16 x, .int .i64 c] w fun e w' => e = .returned (.bool true) ∧ Grown w w' := by
  have HV : Hid (∀ w, _) := fun w => fit_any b l t s d p g n x c w t0 t1 x0 x1
  have HC : Hid (∀ w, _) := fun w => code_any b l t s d p g x c w t0 t1 x0 x1
  have HR : Hid (∀ w, _) := fun w => reach_any b l t s d p g 0 1 false w t0 t1 (by decide) (by decide) l0 l1
  have hv := fitB_or n t d s p (x % 4) c
  rcases hv with ⟨hp, hv⟩ | hv | ⟨hp, hv | hv⟩
  · rw [hv] at HV
    by_cases hn : (0 < c ∧ c < 4) ∧ ¬ n = 2
    · have HU : Hid (∀ w, _) := fun w => fit_any b l t s d p g n x (c - 1) w t0 t1 x0 x1
      rw [fitB_in n t d s p (x % 4) c hn.2 hv] at HU
      exact rg_2 b l t s d p g n x c w hp hn.1.1 hn.1.2 hn.2 HV HU
    · exact rg_1 b l t s d p g n x c w hp (by omega) HV
  · rw [hv] at HV
    cases hp : p with
    | true => subst hp; exact rg_13_y b l t s d true g n x c w rfl HV
    | false => subst hp; exact rg_13_n b l t s d false g n x c w _ _ rfl (codeB_no t d s g (x % 4) c) (by simp [reachB, reachX]) HV HC HR
  · rw [hv] at HV
    subst hp
    exact rg_11_n b l t s d false g n x c w _ _ rfl (codeB_no t d s g (x % 4) c) (by simp [reachB, reachX]) HV HC HR
  · rw [hv] at HV
    subst hp
    exact rg_12_n b l t s d false g n x c w _ _ rfl (codeB_no t d s g (x % 4) c) (by simp [reachB, reachX]) HV HC HR
end Go.Proofs.Ytpgionhhjmlmmaa
