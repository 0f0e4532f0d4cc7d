/- Contracts of what a segment lets: fitData. -/
import Derived.Test.YtpgionhhjmlmmaaSegFit
namespace Go.Proofs.Ytpgionhhjmlmmaa
open Go.ChangeShapes Go.WideShapes Go.ChangeAt Go.RowKit
set_option linter.unusedVariables false

def fdX (R F p : Bool) (r d c : Int) : Int := if R = true ∧ (F = true ∨ c ≤ d ∧ r ≤ d) then presB p 11 else 13


set_option maxHeartbeats 1000000 in
theorem fd_1 (b l t : Int) (s : Bool) (d : Int) (p g : Bool) (x r c : Int) (w : World) (C F R Wt D : Bool)
    (H : Hid (∀ w : World, Calls Try.prog 23 #[.agg #[.int .u32 b, .int .u32 l, .int .i64 t, .bool s, .int .i64 d, .bool p, .bool g]] w fun e w' => e = .returned (.agg #[.bool C, .bool F, .bool R, .bool Wt, .bool D]) ∧ Grown w w')) (HR : Hid (∀ w : World, Calls Try.prog 29 #[.int .u16 x] w fun e w' => e = .returned (.int .i64 r) ∧ w' = w))
    (h1 : d < c) :
    Calls Try.prog 27 #[.int .u16 x, .agg #[.int .u32 b, .int .u32 l, .int .i64 t, .bool s, .int .i64 d, .bool p, .bool g], .int .i64 c] w fun e w' => e = .returned (.int .i64 (fdX R F p r d c)) ∧ Grown w w' := by
  have e1 : decide (d < c) = true := by simpa using h1
  go_enter Try.func27, Try.ntmps27
  go_wp2_with fail
  refine (H.out _).mono ?_; rintro e w1 ⟨rfl, hg⟩
  have c0 : w1.cell? ⟨w.heap.size, 0, none⟩ = some (.int .u32 b) := Grown.holds hg (by simp [go_sem])
  have c1 : w1.cell? ⟨w.heap.size, 1, none⟩ = some (.int .u32 l) := Grown.holds hg (by simp [go_sem])
  have c2 : w1.cell? ⟨w.heap.size, 2, none⟩ = some (.int .i64 t) := Grown.holds hg (by simp [go_sem])
  have c3 : w1.cell? ⟨w.heap.size, 3, none⟩ = some (.bool s) := Grown.holds hg (by simp [go_sem])
  have c4 : w1.cell? ⟨w.heap.size, 4, none⟩ = some (.int .i64 d) := Grown.holds hg (by simp [go_sem])
  have c5 : w1.cell? ⟨w.heap.size, 5, none⟩ = some (.bool p) := Grown.holds hg (by simp [go_sem])
  have c6 : w1.cell? ⟨w.heap.size, 6, none⟩ = some (.bool g) := Grown.holds hg (by simp [go_sem])
  have hlt : w.heap.size < w1.heap.size := by have := hg.2.2; simp at this; omega
  have hG : Grown w w1 := Grown.trans (Grown.alloc (Grown.refl _) _ _) hg
  cases R <;> cases F
  all_goals
    go_wp2
    go_quiet ((go_at_call 29; exact Calls.quiet_of_same (HR.out _)))
    go_wp2_with (go_at_call 30; refine (ifPresent_any _ _ _ _ _ _ _ _ _).mono ?_; rintro e w2 ⟨rfl, hg2⟩)
    all_goals go_ret
    all_goals first
      | (refine ⟨ret_int ?_, Grown.trans (Grown.alloc hG _ _) hg2⟩; simp [fdX]; done)
      | (refine ⟨ret_int ?_, Grown.trans (Grown.alloc hG _ _) hg2⟩; simp [fdX]; omega)
      | (refine ⟨ret_int ?_, Grown.alloc hG _ _⟩; simp [fdX]; done)
      | (refine ⟨ret_int ?_, Grown.alloc hG _ _⟩; simp [fdX]; omega)


set_option maxHeartbeats 1000000 in
theorem fd_2 (b l t : Int) (s : Bool) (d : Int) (p g : Bool) (x r c : Int) (w : World) (C F R Wt D : Bool)
    (H : Hid (∀ w : World, Calls Try.prog 23 #[.agg #[.int .u32 b, .int .u32 l, .int .i64 t, .bool s, .int .i64 d, .bool p, .bool g]] w fun e w' => e = .returned (.agg #[.bool C, .bool F, .bool R, .bool Wt, .bool D]) ∧ Grown w w')) (HR : Hid (∀ w : World, Calls Try.prog 29 #[.int .u16 x] w fun e w' => e = .returned (.int .i64 r) ∧ w' = w))
    (h1 : ¬ d < c) (h2 : d < r) :
    Calls Try.prog 27 #[.int .u16 x, .agg #[.int .u32 b, .int .u32 l, .int .i64 t, .bool s, .int .i64 d, .bool p, .bool g], .int .i64 c] w fun e w' => e = .returned (.int .i64 (fdX R F p r d c)) ∧ Grown w w' := by
  have e1 : decide (d < c) = false := by simpa using h1
  have e2 : decide (d < r) = true := by simpa using h2
  go_enter Try.func27, Try.ntmps27
  go_wp2_with fail
  refine (H.out _).mono ?_; rintro e w1 ⟨rfl, hg⟩
  have c0 : w1.cell? ⟨w.heap.size, 0, none⟩ = some (.int .u32 b) := Grown.holds hg (by simp [go_sem])
  have c1 : w1.cell? ⟨w.heap.size, 1, none⟩ = some (.int .u32 l) := Grown.holds hg (by simp [go_sem])
  have c2 : w1.cell? ⟨w.heap.size, 2, none⟩ = some (.int .i64 t) := Grown.holds hg (by simp [go_sem])
  have c3 : w1.cell? ⟨w.heap.size, 3, none⟩ = some (.bool s) := Grown.holds hg (by simp [go_sem])
  have c4 : w1.cell? ⟨w.heap.size, 4, none⟩ = some (.int .i64 d) := Grown.holds hg (by simp [go_sem])
  have c5 : w1.cell? ⟨w.heap.size, 5, none⟩ = some (.bool p) := Grown.holds hg (by simp [go_sem])
  have c6 : w1.cell? ⟨w.heap.size, 6, none⟩ = some (.bool g) := Grown.holds hg (by simp [go_sem])
  have hlt : w.heap.size < w1.heap.size := by have := hg.2.2; simp at this; omega
  have hG : Grown w w1 := Grown.trans (Grown.alloc (Grown.refl _) _ _) hg
  cases R <;> cases F
  all_goals
    go_wp2
    go_quiet ((go_at_call 29; exact Calls.quiet_of_same (HR.out _)))
    go_wp2_with (go_at_call 30; refine (ifPresent_any _ _ _ _ _ _ _ _ _).mono ?_; rintro e w2 ⟨rfl, hg2⟩)
    all_goals go_ret
    all_goals first
      | (refine ⟨ret_int ?_, Grown.trans (Grown.alloc hG _ _) hg2⟩; simp [fdX]; done)
      | (refine ⟨ret_int ?_, Grown.trans (Grown.alloc hG _ _) hg2⟩; simp [fdX]; omega)
      | (refine ⟨ret_int ?_, Grown.alloc hG _ _⟩; simp [fdX]; done)
      | (refine ⟨ret_int ?_, Grown.alloc hG _ _⟩; simp [fdX]; omega)


set_option maxHeartbeats 1000000 in
theorem fd_3 (b l t : Int) (s : Bool) (d : Int) (p g : Bool) (x r c : Int) (w : World) (C F R Wt D : Bool)
    (H : Hid (∀ w : World, Calls Try.prog 23 #[.agg #[.int .u32 b, .int .u32 l, .int .i64 t, .bool s, .int .i64 d, .bool p, .bool g]] w fun e w' => e = .returned (.agg #[.bool C, .bool F, .bool R, .bool Wt, .bool D]) ∧ Grown w w')) (HR : Hid (∀ w : World, Calls Try.prog 29 #[.int .u16 x] w fun e w' => e = .returned (.int .i64 r) ∧ w' = w))
    (h1 : ¬ d < c) (h2 : ¬ d < r) :
    Calls Try.prog 27 #[.int .u16 x, .agg #[.int .u32 b, .int .u32 l, .int .i64 t, .bool s, .int .i64 d, .bool p, .bool g], .int .i64 c] w fun e w' => e = .returned (.int .i64 (fdX R F p r d c)) ∧ Grown w w' := by
  have e1 : decide (d < c) = false := by simpa using h1
  have e2 : decide (d < r) = false := by simpa using h2
  go_enter Try.func27, Try.ntmps27
  go_wp2_with fail
  refine (H.out _).mono ?_; rintro e w1 ⟨rfl, hg⟩
  have c0 : w1.cell? ⟨w.heap.size, 0, none⟩ = some (.int .u32 b) := Grown.holds hg (by simp [go_sem])
  have c1 : w1.cell? ⟨w.heap.size, 1, none⟩ = some (.int .u32 l) := Grown.holds hg (by simp [go_sem])
  have c2 : w1.cell? ⟨w.heap.size, 2, none⟩ = some (.int .i64 t) := Grown.holds hg (by simp [go_sem])
  have c3 : w1.cell? ⟨w.heap.size, 3, none⟩ = some (.bool s) := Grown.holds hg (by simp [go_sem])
  have c4 : w1.cell? ⟨w.heap.size, 4, none⟩ = some (.int .i64 d) := Grown.holds hg (by simp [go_sem])
  have c5 : w1.cell? ⟨w.heap.size, 5, none⟩ = some (.bool p) := Grown.holds hg (by simp [go_sem])
  have c6 : w1.cell? ⟨w.heap.size, 6, none⟩ = some (.bool g) := Grown.holds hg (by simp [go_sem])
  have hlt : w.heap.size < w1.heap.size := by have := hg.2.2; simp at this; omega
  have hG : Grown w w1 := Grown.trans (Grown.alloc (Grown.refl _) _ _) hg
  cases R <;> cases F
  all_goals
    go_wp2
    go_quiet ((go_at_call 29; exact Calls.quiet_of_same (HR.out _)))
    go_wp2_with (go_at_call 30; refine (ifPresent_any _ _ _ _ _ _ _ _ _).mono ?_; rintro e w2 ⟨rfl, hg2⟩)
    all_goals go_ret
    all_goals first
      | (refine ⟨ret_int ?_, Grown.trans (Grown.alloc hG _ _) hg2⟩; simp [fdX]; done)
      | (refine ⟨ret_int ?_, Grown.trans (Grown.alloc hG _ _) hg2⟩; simp [fdX]; omega)
      | (refine ⟨ret_int ?_, Grown.alloc hG _ _⟩; simp [fdX]; done)
      | (refine ⟨ret_int ?_, Grown.alloc hG _ _⟩; simp [fdX]; omega)


set_option maxHeartbeats 1000000 in
theorem fd_any (b l t : Int) (s : Bool) (d : Int) (p g : Bool) (x r c : Int) (w : World) (C F R Wt D : Bool)
    (H : Hid (∀ w : World, Calls Try.prog 23 #[.agg #[.int .u32 b, .int .u32 l, .int .i64 t, .bool s, .int .i64 d, .bool p, .bool g]] w fun e w' => e = .returned (.agg #[.bool C, .bool F, .bool R, .bool Wt, .bool D]) ∧ Grown w w')) (HR : Hid (∀ w : World, Calls Try.prog 29 #[.int .u16 x] w fun e w' => e = .returned (.int .i64 r) ∧ w' = w))
     :
    Calls Try.prog 27 #[.int .u16 x, .agg #[.int .u32 b, .int .u32 l, .int .i64 t, .bool s, .int .i64 d, .bool p, .bool g], .int .i64 c] w fun e w' => e = .returned (.int .i64 (fdX R F p r d c)) ∧ Grown w w' := by
  by_cases h1 : d < c
  · exact fd_1 b l t s d p g x r c w C F R Wt D H HR h1
  · by_cases h2 : d < r
    · exact fd_2 b l t s d p g x r c w C F R Wt D H HR h1 h2
    · exact fd_3 b l t s d p g x r c w C F R Wt D H HR h1 h2


theorem fitX_s (t d : Int) (s p : Bool) (r c : Int) : fsX (rW s t) p r d c = fitS t d s p r c := rfl
theorem fitX_d (t d : Int) (s p : Bool) (r c : Int) : fdX (rR s t) (rF s t) p r d c = fitD t d s p r c := rfl

set_option maxHeartbeats 1000000 in
theorem fit_any (b l t : Int) (s : Bool) (d : Int) (p g : Bool) (n x c : Int) (w : World) (t0 : -9223372036854775808 ≤ t) (t1 : t < 9223372036854775808) (x0 : 0 ≤ x) (x1 : x < 65536) :
    Calls Try.prog 15 #[.int .i64 n, .int .u16 x, .agg #[.int .u32 b, .int .u32 l, .int .i64 t, .bool s, .int .i64 d, .bool p, .bool g], .int .i64 c] w fun e w' => e = .returned (.int .i64 (fitB n t d s p (x % 4) c)) ∧ Grown w w' := by
  have H : Hid _ := fun w => rights_any b l t s d p g w t0 t1
  have HR : Hid _ := fun w => ringOf_any x w x0 x1
  have HS : Hid (∀ w, _) := fun w => fs_any b l t s d p g x (x % 4) c w (isC s t) (rF s t) (rR s t) (rW s t) (rD s t) H HR
  have HD : Hid (∀ w, _) := fun w => fd_any b l t s d p g x (x % 4) c w (isC s t) (rF s t) (rR s t) (rW s t) (rD s t) H HR
  clear H HR
  rw [fitX_s] at HS
  rw [fitX_d] at HD
  unfold fitB
  generalize fitS t d s p (x % 4) c = fs at HS
  generalize fitD t d s p (x % 4) c = fd at HD
  by_cases h2 : n = 2
  · subst h2
    rw [if_pos rfl]
    go_enter Try.func15, Try.ntmps15
    go_wp2_with (go_at_call 26; refine (HS.out _).mono ?_; rintro e w2 ⟨rfl, hg2⟩)
    go_ret
    exact ⟨rfl, Grown.trans (Grown.alloc (Grown.refl _) _ _) hg2⟩
  · rw [if_neg h2]
    have e2 : (n == 2) = false := by simpa using h2
    by_cases hn : n = 0 ∨ n = 3 ∨ n = 4 ∨ n = 5
    · rw [if_pos hn]
      rcases hn with rfl | rfl | rfl | rfl
      all_goals
        go_enter Try.func15, Try.ntmps15
        go_wp2_with (go_at_call 27; refine (HD.out _).mono ?_; rintro e w2 ⟨rfl, hg2⟩)
        go_ret
        exact ⟨rfl, Grown.trans (Grown.alloc (Grown.refl _) _ _) hg2⟩
    · rw [if_neg hn]
      have f0 : (n == 0) = false := by simp; omega
      have f3 : (n == 3) = false := by simp; omega
      have f4 : (n == 4) = false := by simp; omega
      have f5 : (n == 5) = false := by simp; omega
      go_enter Try.func15, Try.ntmps15
      go_wp2
      go_ret
      exact ⟨rfl, Grown.alloc (Grown.refl _) _ _⟩

end Go.Proofs.Ytpgionhhjmlmmaa
