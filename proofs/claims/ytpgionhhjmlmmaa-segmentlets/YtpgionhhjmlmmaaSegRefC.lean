/- Contracts of the document's own answers: Code. -/
import Derived.Test.YtpgionhhjmlmmaaSegRef
namespace Go.Proofs.Ytpgionhhjmlmmaa
open Go.ChangeShapes Go.WideShapes Go.ChangeAt Go.RowKit
set_option linter.unusedVariables false


set_option maxHeartbeats 4000000 in
theorem rc_core (b l t : Int) (s : Bool) (d : Int) (p g : Bool) (x c : Int) (w : World) (co t3 : Bool) (x0 : 0 ≤ x) (x1 : x < 65536)
    (H1 : Hid (∀ w : World, Calls Try.prog 31 #[.agg #[.int .u32 b, .int .u32 l, .int .i64 t, .bool s, .int .i64 d, .bool p, .bool g]] w fun e w' => e = .returned (.bool co) ∧ Grown w w')) (H2 : Hid (∀ w : World, Calls Try.prog 34 #[.agg #[.int .u32 b, .int .u32 l, .int .i64 t, .bool s, .int .i64 d, .bool p, .bool g]] w fun e w' => e = .returned (.bool t3) ∧ Grown w w')) :
    Calls Try.prog 19 #[.int .u16 x, .agg #[.int .u32 b, .int .u32 l, .int .i64 t, .bool s, .int .i64 d, .bool p, .bool g], .int .i64 c] w fun e w' => e = .returned (.int .i64 (cdX co g p (ringsB t3 (x % 4) d c))) ∧ Grown w w' := by
  go_enter Try.func19, Try.ntmps19
  go_wp2_with fail
  refine (H1.out _).mono ?_; rintro e w1 ⟨rfl, hg1⟩
  have c0_1 : w1.cell? ⟨w.heap.size, 0, none⟩ = some (.int .u32 b) := Grown.holds hg1 (by simp [go_sem])
  have c1_1 : w1.cell? ⟨w.heap.size, 1, none⟩ = some (.int .u32 l) := Grown.holds hg1 (by simp [go_sem])
  have c2_1 : w1.cell? ⟨w.heap.size, 2, none⟩ = some (.int .i64 t) := Grown.holds hg1 (by simp [go_sem])
  have c3_1 : w1.cell? ⟨w.heap.size, 3, none⟩ = some (.bool s) := Grown.holds hg1 (by simp [go_sem])
  have c4_1 : w1.cell? ⟨w.heap.size, 4, none⟩ = some (.int .i64 d) := Grown.holds hg1 (by simp [go_sem])
  have c5_1 : w1.cell? ⟨w.heap.size, 5, none⟩ = some (.bool p) := Grown.holds hg1 (by simp [go_sem])
  have c6_1 : w1.cell? ⟨w.heap.size, 6, none⟩ = some (.bool g) := Grown.holds hg1 (by simp [go_sem])
  go_wp2_with fail
  refine (H2.out _).mono ?_; rintro e w2 ⟨rfl, hg2⟩
  have c0_2 : w2.cell? ⟨w.heap.size, 0, none⟩ = some (.int .u32 b) := Grown.holds hg2 (c0_1)
  have c1_2 : w2.cell? ⟨w.heap.size, 1, none⟩ = some (.int .u32 l) := Grown.holds hg2 (c1_1)
  have c2_2 : w2.cell? ⟨w.heap.size, 2, none⟩ = some (.int .i64 t) := Grown.holds hg2 (c2_1)
  have c3_2 : w2.cell? ⟨w.heap.size, 3, none⟩ = some (.bool s) := Grown.holds hg2 (c3_1)
  have c4_2 : w2.cell? ⟨w.heap.size, 4, none⟩ = some (.int .i64 d) := Grown.holds hg2 (c4_1)
  have c5_2 : w2.cell? ⟨w.heap.size, 5, none⟩ = some (.bool p) := Grown.holds hg2 (c5_1)
  have c6_2 : w2.cell? ⟨w.heap.size, 6, none⟩ = some (.bool g) := Grown.holds hg2 (c6_1)
  clear c0_1 c1_1 c2_1 c3_1 c4_1 c5_1 c6_1
  have hG : Grown w w2 := Grown.trans (Grown.trans (Grown.alloc (Grown.refl _) _ _) hg1) hg2
  clear hg1 hg2

  cases co <;> cases t3 <;> cases p <;> cases g
  all_goals
    go_wp2
    all_goals go_ret
    all_goals refine ⟨ret_int ?_, hG⟩
    all_goals first
      | (simp [cdX, ringsB, presB]; done)
      | (simp [cdX, ringsB, presB]; omega)
      | (simp_all [cdX, ringsB, presB]; done)
      | (simp_all [cdX, ringsB, presB]; omega)

theorem refCode_any (b l t : Int) (s : Bool) (d : Int) (p g : Bool) (x c : Int) (w : World) (t0 : -9223372036854775808 ≤ t) (t1 : t < 9223372036854775808) (x0 : 0 ≤ x) (x1 : x < 65536) :
    Calls Try.prog 19 #[.int .u16 x, .agg #[.int .u32 b, .int .u32 l, .int .i64 t, .bool s, .int .i64 d, .bool p, .bool g], .int .i64 c] w fun e w' => e = .returned (.int .i64 (codeB t d s p g (x % 4) c)) ∧ Grown w w' := by
  have H1 : Hid _ := fun w => ref_code b l t s d p g w
  have H2 : Hid _ := fun w => ref_third b l t s d p g w t0 t1
  have h := rc_core b l t s d p g x c w (isC s t) (fourT t) x0 x1 H1 H2
  have e : codeB t d s p g (x % 4) c = cdX (isC s t) g p (ringsB (fourT t) (x % 4) d c) := by
    cases hc : isC s t
    · simp [codeB, cdX, hc]
    · have hf : fourT t = rF s t := by
        have h8 : 0 ≤ t := by simp [isC] at hc; omega
        rw [fourT_eq h8]
        simp [rF, hc]
      rw [hf]
      simp [codeB, cdX, hc]
  rw [e]
  exact h

end Go.Proofs.Ytpgionhhjmlmmaa
