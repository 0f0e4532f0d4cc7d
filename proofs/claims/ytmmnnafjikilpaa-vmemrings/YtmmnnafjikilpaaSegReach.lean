/- Contracts of what a segment lets: Reach. -/
import Derived.Test.YtmmnnafjikilpaaSegLeaf
namespace Go.Proofs.Ytmmnnafjikilpaa.Sg
open Go.ChangeShapes Go.WideShapes Go.ChangeAt Go.RowKit
set_option linter.unusedVariables false

theorem szB_of {n : Int} (h : szB n = true) : n = 1 ∨ n = 2 ∨ n = 4 ∨ n = 8 := by simpa [szB, or_assoc] using h


set_option maxHeartbeats 2000000 in
theorem reach_no (b l t : Int) (s : Bool) (d : Int) (p g : Bool) (off size : Int) (wr : Bool) (w : World) (C F R Wt D : Bool) (o0 : 0 ≤ off) (o1 : off < 4294967296) (l0 : 0 ≤ l) (l1 : l < 4294967296) (hs : szB size = false)
    (H : Hid (∀ w : World, Calls Try.prog 66 #[.agg #[.int .u32 b, .int .u32 l, .int .i64 t, .bool s, .int .i64 d, .bool p, .bool g]] w fun e w' => e = .returned (.agg #[.bool C, .bool F, .bool R, .bool Wt, .bool D]) ∧ Grown w w')) :
    Calls Try.prog 53 #[.agg #[.int .u32 b, .int .u32 l, .int .i64 t, .bool s, .int .i64 d, .bool p, .bool g], .int .u32 off, .int .i64 size, .bool wr] w fun e w' => e = .returned (.bool (reachX wr R Wt p D g l off size)) ∧ Grown w w' := by
  go_enter Try.func53, Try.ntmps53
  go_wp2_with fail
  refine (H.out _).mono ?_; rintro e w1 ⟨rfl, hg⟩
  have c0 : w1.cell? ⟨w.heap.size, 0, none⟩ = some (.int .u32 b) := Grown.holds hg (by simp [go_sem])
  have c1 : w1.cell? ⟨w.heap.size, 1, none⟩ = some (.int .u32 l) := Grown.holds hg (by simp [go_sem])
  have c2 : w1.cell? ⟨w.heap.size, 2, none⟩ = some (.int .i64 t) := Grown.holds hg (by simp [go_sem])
  have c3 : w1.cell? ⟨w.heap.size, 3, none⟩ = some (.bool s) := Grown.holds hg (by simp [go_sem])
  have c4 : w1.cell? ⟨w.heap.size, 4, none⟩ = some (.int .i64 d) := Grown.holds hg (by simp [go_sem])
  have c5 : w1.cell? ⟨w.heap.size, 5, none⟩ = some (.bool p) := Grown.holds hg (by simp [go_sem])
  have c6 : w1.cell? ⟨w.heap.size, 6, none⟩ = some (.bool g) := Grown.holds hg (by simp [go_sem])
  have hlt : w.heap.size < w1.heap.size := by have := hg.2.2; simp at this; omega
  have hG : Grown w w1 := Grown.trans (Grown.alloc (Grown.refl _) _ _) hg
  cases wr <;> cases R <;> cases Wt <;> cases p
  all_goals
    go_wp2_with (first | (go_at_call 67; refine (canReach_any _ _).mono ?_; rintro e w' ⟨rfl, hw⟩; replace hw := hw.symm; subst hw) | (go_at_call 68; refine (topOf_any _ _ _ _ _ _ _ _).mono ?_; rintro e w' ⟨rfl, hg2⟩))
    all_goals go_ret
    all_goals exact ⟨ret_bool (by simp [reachX, hs]), Grown.alloc hG _ _⟩


set_option maxHeartbeats 2000000 in
theorem reach_yes (b l t : Int) (s : Bool) (d : Int) (p g : Bool) (off size : Int) (wr : Bool) (w : World) (C F R Wt D : Bool) (o0 : 0 ≤ off) (o1 : off < 4294967296) (l0 : 0 ≤ l) (l1 : l < 4294967296) (hs : szB size = true) (z0 : 1 ≤ size) (z1 : size ≤ 8)
    (H : Hid (∀ w : World, Calls Try.prog 66 #[.agg #[.int .u32 b, .int .u32 l, .int .i64 t, .bool s, .int .i64 d, .bool p, .bool g]] w fun e w' => e = .returned (.agg #[.bool C, .bool F, .bool R, .bool Wt, .bool D]) ∧ Grown w w')) :
    Calls Try.prog 53 #[.agg #[.int .u32 b, .int .u32 l, .int .i64 t, .bool s, .int .i64 d, .bool p, .bool g], .int .u32 off, .int .i64 size, .bool wr] w fun e w' => e = .returned (.bool (reachX wr R Wt p D g l off size)) ∧ Grown w w' := by
  go_enter Try.func53, Try.ntmps53
  go_wp2_with fail
  refine (H.out _).mono ?_; rintro e w1 ⟨rfl, hg⟩
  have c0 : w1.cell? ⟨w.heap.size, 0, none⟩ = some (.int .u32 b) := Grown.holds hg (by simp [go_sem])
  have c1 : w1.cell? ⟨w.heap.size, 1, none⟩ = some (.int .u32 l) := Grown.holds hg (by simp [go_sem])
  have c2 : w1.cell? ⟨w.heap.size, 2, none⟩ = some (.int .i64 t) := Grown.holds hg (by simp [go_sem])
  have c3 : w1.cell? ⟨w.heap.size, 3, none⟩ = some (.bool s) := Grown.holds hg (by simp [go_sem])
  have c4 : w1.cell? ⟨w.heap.size, 4, none⟩ = some (.int .i64 d) := Grown.holds hg (by simp [go_sem])
  have c5 : w1.cell? ⟨w.heap.size, 5, none⟩ = some (.bool p) := Grown.holds hg (by simp [go_sem])
  have c6 : w1.cell? ⟨w.heap.size, 6, none⟩ = some (.bool g) := Grown.holds hg (by simp [go_sem])
  have hlt : w.heap.size < w1.heap.size := by have := hg.2.2; simp at this; omega
  have hG : Grown w w1 := Grown.trans (Grown.alloc (Grown.refl _) _ _) hg
  cases wr <;> cases R <;> cases Wt <;> cases p <;> cases D
  all_goals
    go_wp2_with (first | (go_at_call 67; refine (canReach_any _ _).mono ?_; rintro e w' ⟨rfl, hw⟩; replace hw := hw.symm; subst hw) | (go_at_call 68; refine (topOf_any _ _ _ _ _ _ _ _).mono ?_; rintro e w' ⟨rfl, hg2⟩))
    all_goals go_ret
    all_goals refine ⟨ret_bool ?_, ?_⟩
    all_goals first
      | exact Grown.alloc hG _ _
      | exact Grown.trans (Grown.alloc hG _ _) hg2
      | (simp [reachX, hs]; done)
      | (simp [reachX, hs]; omega)
      | (simp_all [reachX]; done)
      | (simp_all [reachX]; omega)


theorem reach_any (b l t : Int) (s : Bool) (d : Int) (p g : Bool) (off size : Int) (wr : Bool) (w : World) (t0 : -9223372036854775808 ≤ t) (t1 : t < 9223372036854775808) (o0 : 0 ≤ off) (o1 : off < 4294967296) (l0 : 0 ≤ l) (l1 : l < 4294967296) :
    Calls Try.prog 53 #[.agg #[.int .u32 b, .int .u32 l, .int .i64 t, .bool s, .int .i64 d, .bool p, .bool g], .int .u32 off, .int .i64 size, .bool wr] w fun e w' => e = .returned (.bool (reachB l t s p g off size wr)) ∧ Grown w w' := by
  have H : Hid _ := fun w => rights_any b l t s d p g w t0 t1
  cases hs : szB size with
  | false => exact reach_no b l t s d p g off size wr w _ _ _ _ _ o0 o1 l0 l1 hs H
  | true => exact reach_yes b l t s d p g off size wr w _ _ _ _ _ o0 o1 l0 l1 hs (by have := szB_of hs; omega) (by have := szB_of hs; omega) H

end Go.Proofs.Ytmmnnafjikilpaa.Sg
