/- Contracts of the document's own answers: Fit, Code. -/
import Derived.Test.YtpgionhhjmlmmaaSegRef
namespace Go.Proofs.Ytpgionhhjmlmmaa
open Go.ChangeShapes Go.WideShapes Go.ChangeAt Go.RowKit
set_option linter.unusedVariables false

def fitX (n : Int) (dt co s2 t3 p : Bool) (r d c : Int) : Int := if n = 2 then fsX (dt && s2) p r d c else if n = 0 ∨ n = 3 ∨ n = 4 ∨ n = 5 then fdX (dt || co && s2) (co && t3) p r d c else 13


set_option maxHeartbeats 4000000 in
theorem rf_2 (b l t : Int) (s : Bool) (d : Int) (p g : Bool) (n x c : Int) (w : World) (dt co s2 t3 : Bool) (x0 : 0 ≤ x) (x1 : x < 65536) (hn : n = 2)
    (H1 : Hid (∀ w : World, Calls Try.prog 33 #[.agg #[.int .u32 b, .int .u32 l, .int .i64 t, .bool s, .int .i64 d, .bool p, .bool g]] w fun e w' => e = .returned (.bool dt) ∧ Grown w w')) (H2 : Hid (∀ w : World, Calls Try.prog 31 #[.agg #[.int .u32 b, .int .u32 l, .int .i64 t, .bool s, .int .i64 d, .bool p, .bool g]] w fun e w' => e = .returned (.bool co) ∧ Grown w w')) (H3 : Hid (∀ w : World, Calls Try.prog 32 #[.agg #[.int .u32 b, .int .u32 l, .int .i64 t, .bool s, .int .i64 d, .bool p, .bool g]] w fun e w' => e = .returned (.bool s2) ∧ Grown w w')) (H4 : Hid (∀ w : World, Calls Try.prog 34 #[.agg #[.int .u32 b, .int .u32 l, .int .i64 t, .bool s, .int .i64 d, .bool p, .bool g]] w fun e w' => e = .returned (.bool t3) ∧ Grown w w')) :
    Calls Try.prog 18 #[.int .i64 n, .int .u16 x, .agg #[.int .u32 b, .int .u32 l, .int .i64 t, .bool s, .int .i64 d, .bool p, .bool g], .int .i64 c] w fun e w' => e = .returned (.int .i64 (fitX n dt co s2 t3 p (x % 4) d c)) ∧ Grown w w' := by
  subst hn
  go_enter Try.func18, Try.ntmps18
  go_wp2_with fail
  refine (H1.out _).mono ?_; rintro e w1 ⟨rfl, hg1⟩
  have c0_1 : w1.cell? ⟨w.heap.size, 0, none⟩ = some (.int .u32 b) := Grown.holds hg1 (by simp [go_sem])
  have c1_1 : w1.cell? ⟨w.heap.size, 1, none⟩ = some (.int .u32 l) := Grown.holds hg1 (by simp [go_sem])
  have c2_1 : w1.cell? ⟨w.heap.size, 2, none⟩ = some (.int .i64 t) := Grown.holds hg1 (by simp [go_sem])
  have c3_1 : w1.cell? ⟨w.heap.size, 3, none⟩ = some (.bool s) := Grown.holds hg1 (by simp [go_sem])
  have c4_1 : w1.cell? ⟨w.heap.size, 4, none⟩ = some (.int .i64 d) := Grown.holds hg1 (by simp [go_sem])
  have c5_1 : w1.cell? ⟨w.heap.size, 5, none⟩ = some (.bool p) := Grown.holds hg1 (by simp [go_sem])
  have c6_1 : w1.cell? ⟨w.heap.size, 6, none⟩ = some (.bool g) := Grown.holds hg1 (by simp [go_sem])
  go_wp2_with fail
  refine (H2.out _).mono ?_; rintro e w2 ⟨rfl, hg2⟩
  have c0_2 : w2.cell? ⟨w.heap.size, 0, none⟩ = some (.int .u32 b) := Grown.holds hg2 (c0_1)
  have c1_2 : w2.cell? ⟨w.heap.size, 1, none⟩ = some (.int .u32 l) := Grown.holds hg2 (c1_1)
  have c2_2 : w2.cell? ⟨w.heap.size, 2, none⟩ = some (.int .i64 t) := Grown.holds hg2 (c2_1)
  have c3_2 : w2.cell? ⟨w.heap.size, 3, none⟩ = some (.bool s) := Grown.holds hg2 (c3_1)
  have c4_2 : w2.cell? ⟨w.heap.size, 4, none⟩ = some (.int .i64 d) := Grown.holds hg2 (c4_1)
  have c5_2 : w2.cell? ⟨w.heap.size, 5, none⟩ = some (.bool p) := Grown.holds hg2 (c5_1)
  have c6_2 : w2.cell? ⟨w.heap.size, 6, none⟩ = some (.bool g) := Grown.holds hg2 (c6_1)
  clear c0_1 c1_1 c2_1 c3_1 c4_1 c5_1 c6_1
  go_wp2_with fail
  refine (H3.out _).mono ?_; rintro e w3 ⟨rfl, hg3⟩
  have c0_3 : w3.cell? ⟨w.heap.size, 0, none⟩ = some (.int .u32 b) := Grown.holds hg3 (c0_2)
  have c1_3 : w3.cell? ⟨w.heap.size, 1, none⟩ = some (.int .u32 l) := Grown.holds hg3 (c1_2)
  have c2_3 : w3.cell? ⟨w.heap.size, 2, none⟩ = some (.int .i64 t) := Grown.holds hg3 (c2_2)
  have c3_3 : w3.cell? ⟨w.heap.size, 3, none⟩ = some (.bool s) := Grown.holds hg3 (c3_2)
  have c4_3 : w3.cell? ⟨w.heap.size, 4, none⟩ = some (.int .i64 d) := Grown.holds hg3 (c4_2)
  have c5_3 : w3.cell? ⟨w.heap.size, 5, none⟩ = some (.bool p) := Grown.holds hg3 (c5_2)
  have c6_3 : w3.cell? ⟨w.heap.size, 6, none⟩ = some (.bool g) := Grown.holds hg3 (c6_2)
  clear c0_2 c1_2 c2_2 c3_2 c4_2 c5_2 c6_2
  go_wp2_with fail
  refine (H4.out _).mono ?_; rintro e w4 ⟨rfl, hg4⟩
  have c0_4 : w4.cell? ⟨w.heap.size, 0, none⟩ = some (.int .u32 b) := Grown.holds hg4 (c0_3)
  have c1_4 : w4.cell? ⟨w.heap.size, 1, none⟩ = some (.int .u32 l) := Grown.holds hg4 (c1_3)
  have c2_4 : w4.cell? ⟨w.heap.size, 2, none⟩ = some (.int .i64 t) := Grown.holds hg4 (c2_3)
  have c3_4 : w4.cell? ⟨w.heap.size, 3, none⟩ = some (.bool s) := Grown.holds hg4 (c3_3)
  have c4_4 : w4.cell? ⟨w.heap.size, 4, none⟩ = some (.int .i64 d) := Grown.holds hg4 (c4_3)
  have c5_4 : w4.cell? ⟨w.heap.size, 5, none⟩ = some (.bool p) := Grown.holds hg4 (c5_3)
  have c6_4 : w4.cell? ⟨w.heap.size, 6, none⟩ = some (.bool g) := Grown.holds hg4 (c6_3)
  clear c0_3 c1_3 c2_3 c3_3 c4_3 c5_3 c6_3
  have hG : Grown w w4 := Grown.trans (Grown.trans (Grown.trans (Grown.trans (Grown.alloc (Grown.refl _) _ _) hg1) hg2) hg3) hg4
  clear hg1 hg2 hg3 hg4

  cases dt <;> cases co <;> cases s2 <;> cases t3 <;> cases p
  all_goals
    go_wp2
    all_goals go_ret
    all_goals refine ⟨ret_int ?_, hG⟩
    all_goals first
      | (simp [fitX, fsX, presB]; done)
      | (simp [fitX, fsX, presB]; omega)
      | (simp_all [fitX, fsX, fdX, presB]; done)
      | (simp_all [fitX, fsX, fdX, presB]; omega)


set_option maxHeartbeats 4000000 in
theorem rf_d (b l t : Int) (s : Bool) (d : Int) (p g : Bool) (n x c : Int) (w : World) (dt co s2 t3 : Bool) (x0 : 0 ≤ x) (x1 : x < 65536) (hn : n = 0 ∨ n = 3 ∨ n = 4 ∨ n = 5)
    (H1 : Hid (∀ w : World, Calls Try.prog 33 #[.agg #[.int .u32 b, .int .u32 l, .int .i64 t, .bool s, .int .i64 d, .bool p, .bool g]] w fun e w' => e = .returned (.bool dt) ∧ Grown w w')) (H2 : Hid (∀ w : World, Calls Try.prog 31 #[.agg #[.int .u32 b, .int .u32 l, .int .i64 t, .bool s, .int .i64 d, .bool p, .bool g]] w fun e w' => e = .returned (.bool co) ∧ Grown w w')) (H3 : Hid (∀ w : World, Calls Try.prog 32 #[.agg #[.int .u32 b, .int .u32 l, .int .i64 t, .bool s, .int .i64 d, .bool p, .bool g]] w fun e w' => e = .returned (.bool s2) ∧ Grown w w')) (H4 : Hid (∀ w : World, Calls Try.prog 34 #[.agg #[.int .u32 b, .int .u32 l, .int .i64 t, .bool s, .int .i64 d, .bool p, .bool g]] w fun e w' => e = .returned (.bool t3) ∧ Grown w w')) :
    Calls Try.prog 18 #[.int .i64 n, .int .u16 x, .agg #[.int .u32 b, .int .u32 l, .int .i64 t, .bool s, .int .i64 d, .bool p, .bool g], .int .i64 c] w fun e w' => e = .returned (.int .i64 (fitX n dt co s2 t3 p (x % 4) d c)) ∧ Grown w w' := by
  have e2 : (n == 2) = false := by simp; omega
  have e0 : decide (n < 0) = false := by simp; omega
  have e5 : decide (5 < n) = false := by simp; omega
  have e1 : (n == 1) = false := by simp; omega
  have HE : Hid (∀ dt co s2 t3 p, fitX n dt co s2 t3 p (x % 4) d c = fdX (dt || co && s2) (co && t3) p (x % 4) d c) := fun dt co s2 t3 p => by
    have q2 : ¬ n = 2 := by omega
    simp only [fitX, if_neg q2, if_pos hn]
  clear hn
  go_enter Try.func18, Try.ntmps18
  go_wp2_with fail
  refine (H1.out _).mono ?_; rintro e w1 ⟨rfl, hg1⟩
  have c0_1 : w1.cell? ⟨w.heap.size, 0, none⟩ = some (.int .u32 b) := Grown.holds hg1 (by simp [go_sem])
  have c1_1 : w1.cell? ⟨w.heap.size, 1, none⟩ = some (.int .u32 l) := Grown.holds hg1 (by simp [go_sem])
  have c2_1 : w1.cell? ⟨w.heap.size, 2, none⟩ = some (.int .i64 t) := Grown.holds hg1 (by simp [go_sem])
  have c3_1 : w1.cell? ⟨w.heap.size, 3, none⟩ = some (.bool s) := Grown.holds hg1 (by simp [go_sem])
  have c4_1 : w1.cell? ⟨w.heap.size, 4, none⟩ = some (.int .i64 d) := Grown.holds hg1 (by simp [go_sem])
  have c5_1 : w1.cell? ⟨w.heap.size, 5, none⟩ = some (.bool p) := Grown.holds hg1 (by simp [go_sem])
  have c6_1 : w1.cell? ⟨w.heap.size, 6, none⟩ = some (.bool g) := Grown.holds hg1 (by simp [go_sem])
  go_wp2_with fail
  refine (H2.out _).mono ?_; rintro e w2 ⟨rfl, hg2⟩
  have c0_2 : w2.cell? ⟨w.heap.size, 0, none⟩ = some (.int .u32 b) := Grown.holds hg2 (c0_1)
  have c1_2 : w2.cell? ⟨w.heap.size, 1, none⟩ = some (.int .u32 l) := Grown.holds hg2 (c1_1)
  have c2_2 : w2.cell? ⟨w.heap.size, 2, none⟩ = some (.int .i64 t) := Grown.holds hg2 (c2_1)
  have c3_2 : w2.cell? ⟨w.heap.size, 3, none⟩ = some (.bool s) := Grown.holds hg2 (c3_1)
  have c4_2 : w2.cell? ⟨w.heap.size, 4, none⟩ = some (.int .i64 d) := Grown.holds hg2 (c4_1)
  have c5_2 : w2.cell? ⟨w.heap.size, 5, none⟩ = some (.bool p) := Grown.holds hg2 (c5_1)
  have c6_2 : w2.cell? ⟨w.heap.size, 6, none⟩ = some (.bool g) := Grown.holds hg2 (c6_1)
  clear c0_1 c1_1 c2_1 c3_1 c4_1 c5_1 c6_1
  go_wp2_with fail
  refine (H3.out _).mono ?_; rintro e w3 ⟨rfl, hg3⟩
  have c0_3 : w3.cell? ⟨w.heap.size, 0, none⟩ = some (.int .u32 b) := Grown.holds hg3 (c0_2)
  have c1_3 : w3.cell? ⟨w.heap.size, 1, none⟩ = some (.int .u32 l) := Grown.holds hg3 (c1_2)
  have c2_3 : w3.cell? ⟨w.heap.size, 2, none⟩ = some (.int .i64 t) := Grown.holds hg3 (c2_2)
  have c3_3 : w3.cell? ⟨w.heap.size, 3, none⟩ = some (.bool s) := Grown.holds hg3 (c3_2)
  have c4_3 : w3.cell? ⟨w.heap.size, 4, none⟩ = some (.int .i64 d) := Grown.holds hg3 (c4_2)
  have c5_3 : w3.cell? ⟨w.heap.size, 5, none⟩ = some (.bool p) := Grown.holds hg3 (c5_2)
  have c6_3 : w3.cell? ⟨w.heap.size, 6, none⟩ = some (.bool g) := Grown.holds hg3 (c6_2)
  clear c0_2 c1_2 c2_2 c3_2 c4_2 c5_2 c6_2
  go_wp2_with fail
  refine (H4.out _).mono ?_; rintro e w4 ⟨rfl, hg4⟩
  have c0_4 : w4.cell? ⟨w.heap.size, 0, none⟩ = some (.int .u32 b) := Grown.holds hg4 (c0_3)
  have c1_4 : w4.cell? ⟨w.heap.size, 1, none⟩ = some (.int .u32 l) := Grown.holds hg4 (c1_3)
  have c2_4 : w4.cell? ⟨w.heap.size, 2, none⟩ = some (.int .i64 t) := Grown.holds hg4 (c2_3)
  have c3_4 : w4.cell? ⟨w.heap.size, 3, none⟩ = some (.bool s) := Grown.holds hg4 (c3_3)
  have c4_4 : w4.cell? ⟨w.heap.size, 4, none⟩ = some (.int .i64 d) := Grown.holds hg4 (c4_3)
  have c5_4 : w4.cell? ⟨w.heap.size, 5, none⟩ = some (.bool p) := Grown.holds hg4 (c5_3)
  have c6_4 : w4.cell? ⟨w.heap.size, 6, none⟩ = some (.bool g) := Grown.holds hg4 (c6_3)
  clear c0_3 c1_3 c2_3 c3_3 c4_3 c5_3 c6_3
  have hG : Grown w w4 := Grown.trans (Grown.trans (Grown.trans (Grown.trans (Grown.alloc (Grown.refl _) _ _) hg1) hg2) hg3) hg4
  clear hg1 hg2 hg3 hg4

  cases dt <;> cases co <;> cases s2 <;> cases t3 <;> cases p
  all_goals
    go_wp2
    all_goals go_ret
    all_goals refine ⟨ret_int ?_, hG⟩
    all_goals rw [HE.out]
    all_goals first
      | (simp [fdX, presB]; done)
      | (simp [fdX, presB]; omega)
      | (simp_all [fdX, presB]; done)
      | (simp_all [fdX, presB]; omega)

set_option maxHeartbeats 4000000 in
theorem rf_1 (b l t : Int) (s : Bool) (d : Int) (p g : Bool) (n x c : Int) (w : World) (dt co s2 t3 : Bool) (x0 : 0 ≤ x) (x1 : x < 65536) (hn : n = 1)
    (H1 : Hid (∀ w : World, Calls Try.prog 33 #[.agg #[.int .u32 b, .int .u32 l, .int .i64 t, .bool s, .int .i64 d, .bool p, .bool g]] w fun e w' => e = .returned (.bool dt) ∧ Grown w w')) (H2 : Hid (∀ w : World, Calls Try.prog 31 #[.agg #[.int .u32 b, .int .u32 l, .int .i64 t, .bool s, .int .i64 d, .bool p, .bool g]] w fun e w' => e = .returned (.bool co) ∧ Grown w w')) (H3 : Hid (∀ w : World, Calls Try.prog 32 #[.agg #[.int .u32 b, .int .u32 l, .int .i64 t, .bool s, .int .i64 d, .bool p, .bool g]] w fun e w' => e = .returned (.bool s2) ∧ Grown w w')) (H4 : Hid (∀ w : World, Calls Try.prog 34 #[.agg #[.int .u32 b, .int .u32 l, .int .i64 t, .bool s, .int .i64 d, .bool p, .bool g]] w fun e w' => e = .returned (.bool t3) ∧ Grown w w')) :
    Calls Try.prog 18 #[.int .i64 n, .int .u16 x, .agg #[.int .u32 b, .int .u32 l, .int .i64 t, .bool s, .int .i64 d, .bool p, .bool g], .int .i64 c] w fun e w' => e = .returned (.int .i64 (fitX n dt co s2 t3 p (x % 4) d c)) ∧ Grown w w' := by
  subst hn
  go_enter Try.func18, Try.ntmps18
  go_wp2_with fail
  refine (H1.out _).mono ?_; rintro e w1 ⟨rfl, hg1⟩
  have c0_1 : w1.cell? ⟨w.heap.size, 0, none⟩ = some (.int .u32 b) := Grown.holds hg1 (by simp [go_sem])
  have c1_1 : w1.cell? ⟨w.heap.size, 1, none⟩ = some (.int .u32 l) := Grown.holds hg1 (by simp [go_sem])
  have c2_1 : w1.cell? ⟨w.heap.size, 2, none⟩ = some (.int .i64 t) := Grown.holds hg1 (by simp [go_sem])
  have c3_1 : w1.cell? ⟨w.heap.size, 3, none⟩ = some (.bool s) := Grown.holds hg1 (by simp [go_sem])
  have c4_1 : w1.cell? ⟨w.heap.size, 4, none⟩ = some (.int .i64 d) := Grown.holds hg1 (by simp [go_sem])
  have c5_1 : w1.cell? ⟨w.heap.size, 5, none⟩ = some (.bool p) := Grown.holds hg1 (by simp [go_sem])
  have c6_1 : w1.cell? ⟨w.heap.size, 6, none⟩ = some (.bool g) := Grown.holds hg1 (by simp [go_sem])
  go_wp2_with fail
  refine (H2.out _).mono ?_; rintro e w2 ⟨rfl, hg2⟩
  have c0_2 : w2.cell? ⟨w.heap.size, 0, none⟩ = some (.int .u32 b) := Grown.holds hg2 (c0_1)
  have c1_2 : w2.cell? ⟨w.heap.size, 1, none⟩ = some (.int .u32 l) := Grown.holds hg2 (c1_1)
  have c2_2 : w2.cell? ⟨w.heap.size, 2, none⟩ = some (.int .i64 t) := Grown.holds hg2 (c2_1)
  have c3_2 : w2.cell? ⟨w.heap.size, 3, none⟩ = some (.bool s) := Grown.holds hg2 (c3_1)
  have c4_2 : w2.cell? ⟨w.heap.size, 4, none⟩ = some (.int .i64 d) := Grown.holds hg2 (c4_1)
  have c5_2 : w2.cell? ⟨w.heap.size, 5, none⟩ = some (.bool p) := Grown.holds hg2 (c5_1)
  have c6_2 : w2.cell? ⟨w.heap.size, 6, none⟩ = some (.bool g) := Grown.holds hg2 (c6_1)
  clear c0_1 c1_1 c2_1 c3_1 c4_1 c5_1 c6_1
  go_wp2_with fail
  refine (H3.out _).mono ?_; rintro e w3 ⟨rfl, hg3⟩
  have c0_3 : w3.cell? ⟨w.heap.size, 0, none⟩ = some (.int .u32 b) := Grown.holds hg3 (c0_2)
  have c1_3 : w3.cell? ⟨w.heap.size, 1, none⟩ = some (.int .u32 l) := Grown.holds hg3 (c1_2)
  have c2_3 : w3.cell? ⟨w.heap.size, 2, none⟩ = some (.int .i64 t) := Grown.holds hg3 (c2_2)
  have c3_3 : w3.cell? ⟨w.heap.size, 3, none⟩ = some (.bool s) := Grown.holds hg3 (c3_2)
  have c4_3 : w3.cell? ⟨w.heap.size, 4, none⟩ = some (.int .i64 d) := Grown.holds hg3 (c4_2)
  have c5_3 : w3.cell? ⟨w.heap.size, 5, none⟩ = some (.bool p) := Grown.holds hg3 (c5_2)
  have c6_3 : w3.cell? ⟨w.heap.size, 6, none⟩ = some (.bool g) := Grown.holds hg3 (c6_2)
  clear c0_2 c1_2 c2_2 c3_2 c4_2 c5_2 c6_2
  go_wp2_with fail
  refine (H4.out _).mono ?_; rintro e w4 ⟨rfl, hg4⟩
  have c0_4 : w4.cell? ⟨w.heap.size, 0, none⟩ = some (.int .u32 b) := Grown.holds hg4 (c0_3)
  have c1_4 : w4.cell? ⟨w.heap.size, 1, none⟩ = some (.int .u32 l) := Grown.holds hg4 (c1_3)
  have c2_4 : w4.cell? ⟨w.heap.size, 2, none⟩ = some (.int .i64 t) := Grown.holds hg4 (c2_3)
  have c3_4 : w4.cell? ⟨w.heap.size, 3, none⟩ = some (.bool s) := Grown.holds hg4 (c3_3)
  have c4_4 : w4.cell? ⟨w.heap.size, 4, none⟩ = some (.int .i64 d) := Grown.holds hg4 (c4_3)
  have c5_4 : w4.cell? ⟨w.heap.size, 5, none⟩ = some (.bool p) := Grown.holds hg4 (c5_3)
  have c6_4 : w4.cell? ⟨w.heap.size, 6, none⟩ = some (.bool g) := Grown.holds hg4 (c6_3)
  clear c0_3 c1_3 c2_3 c3_3 c4_3 c5_3 c6_3
  have hG : Grown w w4 := Grown.trans (Grown.trans (Grown.trans (Grown.trans (Grown.alloc (Grown.refl _) _ _) hg1) hg2) hg3) hg4
  clear hg1 hg2 hg3 hg4

  go_wp2
  all_goals go_ret
  all_goals exact ⟨ret_int (by simp [fitX]), hG⟩

set_option maxHeartbeats 4000000 in
theorem rf_neg (b l t : Int) (s : Bool) (d : Int) (p g : Bool) (n x c : Int) (w : World) (dt co s2 t3 : Bool) (x0 : 0 ≤ x) (x1 : x < 65536) (hn : n < 0)
    (H1 : Hid (∀ w : World, Calls Try.prog 33 #[.agg #[.int .u32 b, .int .u32 l, .int .i64 t, .bool s, .int .i64 d, .bool p, .bool g]] w fun e w' => e = .returned (.bool dt) ∧ Grown w w')) (H2 : Hid (∀ w : World, Calls Try.prog 31 #[.agg #[.int .u32 b, .int .u32 l, .int .i64 t, .bool s, .int .i64 d, .bool p, .bool g]] w fun e w' => e = .returned (.bool co) ∧ Grown w w')) (H3 : Hid (∀ w : World, Calls Try.prog 32 #[.agg #[.int .u32 b, .int .u32 l, .int .i64 t, .bool s, .int .i64 d, .bool p, .bool g]] w fun e w' => e = .returned (.bool s2) ∧ Grown w w')) (H4 : Hid (∀ w : World, Calls Try.prog 34 #[.agg #[.int .u32 b, .int .u32 l, .int .i64 t, .bool s, .int .i64 d, .bool p, .bool g]] w fun e w' => e = .returned (.bool t3) ∧ Grown w w')) :
    Calls Try.prog 18 #[.int .i64 n, .int .u16 x, .agg #[.int .u32 b, .int .u32 l, .int .i64 t, .bool s, .int .i64 d, .bool p, .bool g], .int .i64 c] w fun e w' => e = .returned (.int .i64 (fitX n dt co s2 t3 p (x % 4) d c)) ∧ Grown w w' := by
  have e2 : (n == 2) = false := by simp; omega
  have e0 : decide (n < 0) = true := by simpa using hn
  have q2 : ¬ n = 2 := by omega
  have q3 : ¬ (n = 0 ∨ n = 3 ∨ n = 4 ∨ n = 5) := by omega
  go_enter Try.func18, Try.ntmps18
  go_wp2_with fail
  refine (H1.out _).mono ?_; rintro e w1 ⟨rfl, hg1⟩
  have c0_1 : w1.cell? ⟨w.heap.size, 0, none⟩ = some (.int .u32 b) := Grown.holds hg1 (by simp [go_sem])
  have c1_1 : w1.cell? ⟨w.heap.size, 1, none⟩ = some (.int .u32 l) := Grown.holds hg1 (by simp [go_sem])
  have c2_1 : w1.cell? ⟨w.heap.size, 2, none⟩ = some (.int .i64 t) := Grown.holds hg1 (by simp [go_sem])
  have c3_1 : w1.cell? ⟨w.heap.size, 3, none⟩ = some (.bool s) := Grown.holds hg1 (by simp [go_sem])
  have c4_1 : w1.cell? ⟨w.heap.size, 4, none⟩ = some (.int .i64 d) := Grown.holds hg1 (by simp [go_sem])
  have c5_1 : w1.cell? ⟨w.heap.size, 5, none⟩ = some (.bool p) := Grown.holds hg1 (by simp [go_sem])
  have c6_1 : w1.cell? ⟨w.heap.size, 6, none⟩ = some (.bool g) := Grown.holds hg1 (by simp [go_sem])
  go_wp2_with fail
  refine (H2.out _).mono ?_; rintro e w2 ⟨rfl, hg2⟩
  have c0_2 : w2.cell? ⟨w.heap.size, 0, none⟩ = some (.int .u32 b) := Grown.holds hg2 (c0_1)
  have c1_2 : w2.cell? ⟨w.heap.size, 1, none⟩ = some (.int .u32 l) := Grown.holds hg2 (c1_1)
  have c2_2 : w2.cell? ⟨w.heap.size, 2, none⟩ = some (.int .i64 t) := Grown.holds hg2 (c2_1)
  have c3_2 : w2.cell? ⟨w.heap.size, 3, none⟩ = some (.bool s) := Grown.holds hg2 (c3_1)
  have c4_2 : w2.cell? ⟨w.heap.size, 4, none⟩ = some (.int .i64 d) := Grown.holds hg2 (c4_1)
  have c5_2 : w2.cell? ⟨w.heap.size, 5, none⟩ = some (.bool p) := Grown.holds hg2 (c5_1)
  have c6_2 : w2.cell? ⟨w.heap.size, 6, none⟩ = some (.bool g) := Grown.holds hg2 (c6_1)
  clear c0_1 c1_1 c2_1 c3_1 c4_1 c5_1 c6_1
  go_wp2_with fail
  refine (H3.out _).mono ?_; rintro e w3 ⟨rfl, hg3⟩
  have c0_3 : w3.cell? ⟨w.heap.size, 0, none⟩ = some (.int .u32 b) := Grown.holds hg3 (c0_2)
  have c1_3 : w3.cell? ⟨w.heap.size, 1, none⟩ = some (.int .u32 l) := Grown.holds hg3 (c1_2)
  have c2_3 : w3.cell? ⟨w.heap.size, 2, none⟩ = some (.int .i64 t) := Grown.holds hg3 (c2_2)
  have c3_3 : w3.cell? ⟨w.heap.size, 3, none⟩ = some (.bool s) := Grown.holds hg3 (c3_2)
  have c4_3 : w3.cell? ⟨w.heap.size, 4, none⟩ = some (.int .i64 d) := Grown.holds hg3 (c4_2)
  have c5_3 : w3.cell? ⟨w.heap.size, 5, none⟩ = some (.bool p) := Grown.holds hg3 (c5_2)
  have c6_3 : w3.cell? ⟨w.heap.size, 6, none⟩ = some (.bool g) := Grown.holds hg3 (c6_2)
  clear c0_2 c1_2 c2_2 c3_2 c4_2 c5_2 c6_2
  go_wp2_with fail
  refine (H4.out _).mono ?_; rintro e w4 ⟨rfl, hg4⟩
  have c0_4 : w4.cell? ⟨w.heap.size, 0, none⟩ = some (.int .u32 b) := Grown.holds hg4 (c0_3)
  have c1_4 : w4.cell? ⟨w.heap.size, 1, none⟩ = some (.int .u32 l) := Grown.holds hg4 (c1_3)
  have c2_4 : w4.cell? ⟨w.heap.size, 2, none⟩ = some (.int .i64 t) := Grown.holds hg4 (c2_3)
  have c3_4 : w4.cell? ⟨w.heap.size, 3, none⟩ = some (.bool s) := Grown.holds hg4 (c3_3)
  have c4_4 : w4.cell? ⟨w.heap.size, 4, none⟩ = some (.int .i64 d) := Grown.holds hg4 (c4_3)
  have c5_4 : w4.cell? ⟨w.heap.size, 5, none⟩ = some (.bool p) := Grown.holds hg4 (c5_3)
  have c6_4 : w4.cell? ⟨w.heap.size, 6, none⟩ = some (.bool g) := Grown.holds hg4 (c6_3)
  clear c0_3 c1_3 c2_3 c3_3 c4_3 c5_3 c6_3
  have hG : Grown w w4 := Grown.trans (Grown.trans (Grown.trans (Grown.trans (Grown.alloc (Grown.refl _) _ _) hg1) hg2) hg3) hg4
  clear hg1 hg2 hg3 hg4

  go_wp2
  all_goals go_ret
  all_goals exact ⟨ret_int (by simp only [fitX, if_neg q2, if_neg q3]), hG⟩

set_option maxHeartbeats 4000000 in
theorem rf_big (b l t : Int) (s : Bool) (d : Int) (p g : Bool) (n x c : Int) (w : World) (dt co s2 t3 : Bool) (x0 : 0 ≤ x) (x1 : x < 65536) (hn : 5 < n)
    (H1 : Hid (∀ w : World, Calls Try.prog 33 #[.agg #[.int .u32 b, .int .u32 l, .int .i64 t, .bool s, .int .i64 d, .bool p, .bool g]] w fun e w' => e = .returned (.bool dt) ∧ Grown w w')) (H2 : Hid (∀ w : World, Calls Try.prog 31 #[.agg #[.int .u32 b, .int .u32 l, .int .i64 t, .bool s, .int .i64 d, .bool p, .bool g]] w fun e w' => e = .returned (.bool co) ∧ Grown w w')) (H3 : Hid (∀ w : World, Calls Try.prog 32 #[.agg #[.int .u32 b, .int .u32 l, .int .i64 t, .bool s, .int .i64 d, .bool p, .bool g]] w fun e w' => e = .returned (.bool s2) ∧ Grown w w')) (H4 : Hid (∀ w : World, Calls Try.prog 34 #[.agg #[.int .u32 b, .int .u32 l, .int .i64 t, .bool s, .int .i64 d, .bool p, .bool g]] w fun e w' => e = .returned (.bool t3) ∧ Grown w w')) :
    Calls Try.prog 18 #[.int .i64 n, .int .u16 x, .agg #[.int .u32 b, .int .u32 l, .int .i64 t, .bool s, .int .i64 d, .bool p, .bool g], .int .i64 c] w fun e w' => e = .returned (.int .i64 (fitX n dt co s2 t3 p (x % 4) d c)) ∧ Grown w w' := by
  have e2 : (n == 2) = false := by simp; omega
  have e0 : decide (n < 0) = false := by simp; omega
  have e5 : decide (5 < n) = true := by simpa using hn
  have q2 : ¬ n = 2 := by omega
  have q3 : ¬ (n = 0 ∨ n = 3 ∨ n = 4 ∨ n = 5) := by omega
  go_enter Try.func18, Try.ntmps18
  go_wp2_with fail
  refine (H1.out _).mono ?_; rintro e w1 ⟨rfl, hg1⟩
  have c0_1 : w1.cell? ⟨w.heap.size, 0, none⟩ = some (.int .u32 b) := Grown.holds hg1 (by simp [go_sem])
  have c1_1 : w1.cell? ⟨w.heap.size, 1, none⟩ = some (.int .u32 l) := Grown.holds hg1 (by simp [go_sem])
  have c2_1 : w1.cell? ⟨w.heap.size, 2, none⟩ = some (.int .i64 t) := Grown.holds hg1 (by simp [go_sem])
  have c3_1 : w1.cell? ⟨w.heap.size, 3, none⟩ = some (.bool s) := Grown.holds hg1 (by simp [go_sem])
  have c4_1 : w1.cell? ⟨w.heap.size, 4, none⟩ = some (.int .i64 d) := Grown.holds hg1 (by simp [go_sem])
  have c5_1 : w1.cell? ⟨w.heap.size, 5, none⟩ = some (.bool p) := Grown.holds hg1 (by simp [go_sem])
  have c6_1 : w1.cell? ⟨w.heap.size, 6, none⟩ = some (.bool g) := Grown.holds hg1 (by simp [go_sem])
  go_wp2_with fail
  refine (H2.out _).mono ?_; rintro e w2 ⟨rfl, hg2⟩
  have c0_2 : w2.cell? ⟨w.heap.size, 0, none⟩ = some (.int .u32 b) := Grown.holds hg2 (c0_1)
  have c1_2 : w2.cell? ⟨w.heap.size, 1, none⟩ = some (.int .u32 l) := Grown.holds hg2 (c1_1)
  have c2_2 : w2.cell? ⟨w.heap.size, 2, none⟩ = some (.int .i64 t) := Grown.holds hg2 (c2_1)
  have c3_2 : w2.cell? ⟨w.heap.size, 3, none⟩ = some (.bool s) := Grown.holds hg2 (c3_1)
  have c4_2 : w2.cell? ⟨w.heap.size, 4, none⟩ = some (.int .i64 d) := Grown.holds hg2 (c4_1)
  have c5_2 : w2.cell? ⟨w.heap.size, 5, none⟩ = some (.bool p) := Grown.holds hg2 (c5_1)
  have c6_2 : w2.cell? ⟨w.heap.size, 6, none⟩ = some (.bool g) := Grown.holds hg2 (c6_1)
  clear c0_1 c1_1 c2_1 c3_1 c4_1 c5_1 c6_1
  go_wp2_with fail
  refine (H3.out _).mono ?_; rintro e w3 ⟨rfl, hg3⟩
  have c0_3 : w3.cell? ⟨w.heap.size, 0, none⟩ = some (.int .u32 b) := Grown.holds hg3 (c0_2)
  have c1_3 : w3.cell? ⟨w.heap.size, 1, none⟩ = some (.int .u32 l) := Grown.holds hg3 (c1_2)
  have c2_3 : w3.cell? ⟨w.heap.size, 2, none⟩ = some (.int .i64 t) := Grown.holds hg3 (c2_2)
  have c3_3 : w3.cell? ⟨w.heap.size, 3, none⟩ = some (.bool s) := Grown.holds hg3 (c3_2)
  have c4_3 : w3.cell? ⟨w.heap.size, 4, none⟩ = some (.int .i64 d) := Grown.holds hg3 (c4_2)
  have c5_3 : w3.cell? ⟨w.heap.size, 5, none⟩ = some (.bool p) := Grown.holds hg3 (c5_2)
  have c6_3 : w3.cell? ⟨w.heap.size, 6, none⟩ = some (.bool g) := Grown.holds hg3 (c6_2)
  clear c0_2 c1_2 c2_2 c3_2 c4_2 c5_2 c6_2
  go_wp2_with fail
  refine (H4.out _).mono ?_; rintro e w4 ⟨rfl, hg4⟩
  have c0_4 : w4.cell? ⟨w.heap.size, 0, none⟩ = some (.int .u32 b) := Grown.holds hg4 (c0_3)
  have c1_4 : w4.cell? ⟨w.heap.size, 1, none⟩ = some (.int .u32 l) := Grown.holds hg4 (c1_3)
  have c2_4 : w4.cell? ⟨w.heap.size, 2, none⟩ = some (.int .i64 t) := Grown.holds hg4 (c2_3)
  have c3_4 : w4.cell? ⟨w.heap.size, 3, none⟩ = some (.bool s) := Grown.holds hg4 (c3_3)
  have c4_4 : w4.cell? ⟨w.heap.size, 4, none⟩ = some (.int .i64 d) := Grown.holds hg4 (c4_3)
  have c5_4 : w4.cell? ⟨w.heap.size, 5, none⟩ = some (.bool p) := Grown.holds hg4 (c5_3)
  have c6_4 : w4.cell? ⟨w.heap.size, 6, none⟩ = some (.bool g) := Grown.holds hg4 (c6_3)
  clear c0_3 c1_3 c2_3 c3_3 c4_3 c5_3 c6_3
  have hG : Grown w w4 := Grown.trans (Grown.trans (Grown.trans (Grown.trans (Grown.alloc (Grown.refl _) _ _) hg1) hg2) hg3) hg4
  clear hg1 hg2 hg3 hg4

  go_wp2
  all_goals go_ret
  all_goals exact ⟨ret_int (by simp only [fitX, if_neg q2, if_neg q3]), hG⟩

theorem c_two' (s : Bool) (t : Int) : (isC s t && twoT t) = (isC s t && two t) := by
  cases h : isC s t
  · rfl
  · simp [isC] at h
    rw [twoT_eq (by omega)]
theorem d_two' (s : Bool) (t : Int) : (isD s t && twoT t) = (isD s t && two t) := by
  cases h : isD s t
  · rfl
  · simp [isD] at h
    rw [twoT_eq (by omega)]
theorem c_four' (s : Bool) (t : Int) : (isC s t && fourT t) = (isC s t && four t) := by
  cases h : isC s t
  · rfl
  · simp [isC] at h
    rw [fourT_eq (by omega)]

theorem refFit_any (b l t : Int) (s : Bool) (d : Int) (p g : Bool) (n x c : Int) (w : World) (t0 : -9223372036854775808 ≤ t) (t1 : t < 9223372036854775808) (x0 : 0 ≤ x) (x1 : x < 65536) :
    Calls Try.prog 18 #[.int .i64 n, .int .u16 x, .agg #[.int .u32 b, .int .u32 l, .int .i64 t, .bool s, .int .i64 d, .bool p, .bool g], .int .i64 c] w fun e w' => e = .returned (.int .i64 (fitB n t d s p (x % 4) c)) ∧ Grown w w' := by
  have H1 : Hid _ := fun w => ref_data b l t s d p g w
  have H2 : Hid _ := fun w => ref_code b l t s d p g w
  have H3 : Hid _ := fun w => ref_second b l t s d p g w t0 t1
  have H4 : Hid _ := fun w => ref_third b l t s d p g w t0 t1
  have e : fitB n t d s p (x % 4) c = fitX n (isD s t) (isC s t) (twoT t) (fourT t) p (x % 4) d c := by
    unfold fitX
    rw [c_two', d_two', c_four']
    rfl
  rw [e]
  by_cases h0 : n < 0
  · exact rf_neg b l t s d p g n x c w _ _ _ _ x0 x1 h0 H1 H2 H3 H4
  by_cases h5 : 5 < n
  · exact rf_big b l t s d p g n x c w _ _ _ _ x0 x1 h5 H1 H2 H3 H4
  have : n = 0 ∨ n = 1 ∨ n = 2 ∨ n = 3 ∨ n = 4 ∨ n = 5 := by omega
  rcases this with h | h | h | h | h | h
  · exact rf_d b l t s d p g n x c w _ _ _ _ x0 x1 (by omega) H1 H2 H3 H4
  · exact rf_1 b l t s d p g n x c w _ _ _ _ x0 x1 h H1 H2 H3 H4
  · exact rf_2 b l t s d p g n x c w _ _ _ _ x0 x1 h H1 H2 H3 H4
  · exact rf_d b l t s d p g n x c w _ _ _ _ x0 x1 (by omega) H1 H2 H3 H4
  · exact rf_d b l t s d p g n x c w _ _ _ _ x0 x1 (by omega) H1 H2 H3 H4
  · exact rf_d b l t s d p g n x c w _ _ _ _ x0 x1 (by omega) H1 H2 H3 H4

end Go.Proofs.Ytpgionhhjmlmmaa
