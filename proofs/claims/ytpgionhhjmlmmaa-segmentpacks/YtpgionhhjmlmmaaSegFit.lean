/- Contracts of what a segment lets: Fit, Code. -/
import Derived.Test.YtpgionhhjmlmmaaSegLeaf
namespace Go.Proofs.Ytpgionhhjmlmmaa
open Go.ChangeShapes Go.WideShapes Go.ChangeAt Go.RowKit
set_option linter.unusedVariables false

theorem field_W (C F R Wt D : Bool) (w : World) : (Instr.field 45 (.agg #[.bool C, .bool F, .bool R, .bool Wt, .bool D]) 3).run Try.prog w = .ok (.bool Wt) w := by kernel_rfl

def fsX (Wt p : Bool) (r d c : Int) : Int := if r = c ∧ d = c ∧ Wt = true then presB p 12 else 13


set_option maxHeartbeats 1000000 in
theorem fs_1 (b l t : Int) (s : Bool) (d : Int) (p g : Bool) (x r c : Int) (w : World) (C F R Wt D : Bool)
    (H : Hid (∀ w : World, Calls Try.prog 23 #[.agg #[.int .u32 b, .int .u32 l, .int .i64 t, .bool s, .int .i64 d, .bool p, .bool g]] w fun e w' => e = .returned (.agg #[.bool C, .bool F, .bool R, .bool Wt, .bool D]) ∧ Grown w w')) (HR : Hid (∀ w : World, Calls Try.prog 29 #[.int .u16 x] w fun e w' => e = .returned (.int .i64 r) ∧ w' = w))
    (h1 : ¬ r = c) :
    Calls Try.prog 26 #[.int .u16 x, .agg #[.int .u32 b, .int .u32 l, .int .i64 t, .bool s, .int .i64 d, .bool p, .bool g], .int .i64 c] w fun e w' => e = .returned (.int .i64 13) ∧ Grown w w' := by
  go_enter Try.func26, Try.ntmps26
  go_wp2_with fail
  refine (HR.out _).mono ?_; rintro e w' ⟨rfl, hw⟩; replace hw := hw.symm; subst hw
  go_wp2
  go_ret
  exact ⟨rfl, Grown.alloc (Grown.refl _) _ _⟩


set_option maxHeartbeats 1000000 in
theorem fs_2 (b l t : Int) (s : Bool) (d : Int) (p g : Bool) (x r c : Int) (w : World) (C F R Wt D : Bool)
    (H : Hid (∀ w : World, Calls Try.prog 23 #[.agg #[.int .u32 b, .int .u32 l, .int .i64 t, .bool s, .int .i64 d, .bool p, .bool g]] w fun e w' => e = .returned (.agg #[.bool C, .bool F, .bool R, .bool Wt, .bool D]) ∧ Grown w w')) (HR : Hid (∀ w : World, Calls Try.prog 29 #[.int .u16 x] w fun e w' => e = .returned (.int .i64 r) ∧ w' = w))
    (h1 : r = c) (h2 : ¬ d = c) :
    Calls Try.prog 26 #[.int .u16 x, .agg #[.int .u32 b, .int .u32 l, .int .i64 t, .bool s, .int .i64 d, .bool p, .bool g], .int .i64 c] w fun e w' => e = .returned (.int .i64 13) ∧ Grown w w' := by
  subst h1
  have e2 : (d != r) = true := by simpa using h2
  go_enter Try.func26, Try.ntmps26
  go_wp2_with fail
  refine (HR.out _).mono ?_; rintro e w' ⟨rfl, hw⟩; replace hw := hw.symm; subst hw
  go_wp2
  go_ret
  exact ⟨rfl, Grown.alloc (Grown.refl _) _ _⟩


set_option maxHeartbeats 1000000 in
theorem fs_3 (b l t : Int) (s : Bool) (d : Int) (p g : Bool) (x r c : Int) (w : World) (C F R Wt D : Bool)
    (H : Hid (∀ w : World, Calls Try.prog 23 #[.agg #[.int .u32 b, .int .u32 l, .int .i64 t, .bool s, .int .i64 d, .bool p, .bool g]] w fun e w' => e = .returned (.agg #[.bool C, .bool F, .bool R, .bool Wt, .bool D]) ∧ Grown w w')) (HR : Hid (∀ w : World, Calls Try.prog 29 #[.int .u16 x] w fun e w' => e = .returned (.int .i64 r) ∧ w' = w))
    (h1 : r = c) (h2 : d = c) (h3 : Wt = false) :
    Calls Try.prog 26 #[.int .u16 x, .agg #[.int .u32 b, .int .u32 l, .int .i64 t, .bool s, .int .i64 d, .bool p, .bool g], .int .i64 c] w fun e w' => e = .returned (.int .i64 13) ∧ Grown w w' := by
  subst h1 h2 h3
  have hfw := field_W C F R
  go_enter Try.func26, Try.ntmps26
  go_wp2_with fail
  refine (HR.out _).mono ?_; rintro e w' ⟨rfl, hw⟩; replace hw := hw.symm; subst hw
  go_wp2_with fail
  refine (H.out _).mono ?_; rintro e w1 ⟨rfl, hg⟩
  go_wp2
  go_ret
  exact ⟨rfl, Grown.trans (Grown.alloc (Grown.refl _) _ _) hg⟩


set_option maxHeartbeats 1000000 in
theorem fs_4 (b l t : Int) (s : Bool) (d : Int) (p g : Bool) (x r c : Int) (w : World) (C F R Wt D : Bool)
    (H : Hid (∀ w : World, Calls Try.prog 23 #[.agg #[.int .u32 b, .int .u32 l, .int .i64 t, .bool s, .int .i64 d, .bool p, .bool g]] w fun e w' => e = .returned (.agg #[.bool C, .bool F, .bool R, .bool Wt, .bool D]) ∧ Grown w w')) (HR : Hid (∀ w : World, Calls Try.prog 29 #[.int .u16 x] w fun e w' => e = .returned (.int .i64 r) ∧ w' = w))
    (h1 : r = c) (h2 : d = c) (h3 : Wt = true) :
    Calls Try.prog 26 #[.int .u16 x, .agg #[.int .u32 b, .int .u32 l, .int .i64 t, .bool s, .int .i64 d, .bool p, .bool g], .int .i64 c] w fun e w' => e = .returned (.int .i64 (presB p 12)) ∧ Grown w w' := by
  subst h1 h2 h3
  have hfw := field_W C F R
  go_enter Try.func26, Try.ntmps26
  go_wp2_with fail
  refine (HR.out _).mono ?_; rintro e w' ⟨rfl, hw⟩; replace hw := hw.symm; subst hw
  go_wp2_with fail
  refine (H.out _).mono ?_; rintro e w1 ⟨rfl, hg⟩
  have c0 : w1.cell? ⟨w.heap.size, 0, none⟩ = some (.int .u32 b) := Grown.holds hg (by simp [go_sem])
  have c1 : w1.cell? ⟨w.heap.size, 1, none⟩ = some (.int .u32 l) := Grown.holds hg (by simp [go_sem])
  have c2 : w1.cell? ⟨w.heap.size, 2, none⟩ = some (.int .i64 t) := Grown.holds hg (by simp [go_sem])
  have c3 : w1.cell? ⟨w.heap.size, 3, none⟩ = some (.bool s) := Grown.holds hg (by simp [go_sem])
  have c4 : w1.cell? ⟨w.heap.size, 4, none⟩ = some (.int .i64 d) := Grown.holds hg (by simp [go_sem])
  have c5 : w1.cell? ⟨w.heap.size, 5, none⟩ = some (.bool p) := Grown.holds hg (by simp [go_sem])
  have c6 : w1.cell? ⟨w.heap.size, 6, none⟩ = some (.bool g) := Grown.holds hg (by simp [go_sem])
  have hlt : w.heap.size < w1.heap.size := by have := hg.2.2; simp at this; omega
  go_wp2_with (go_at_call 30; refine (ifPresent_any _ _ _ _ _ _ _ _ _).mono ?_; rintro e w2 ⟨rfl, hg2⟩)
  go_ret
  exact ⟨rfl, Grown.trans (Grown.trans (Grown.alloc (Grown.refl _) _ _) hg) hg2⟩


set_option maxHeartbeats 1000000 in
theorem fs_any (b l t : Int) (s : Bool) (d : Int) (p g : Bool) (x r c : Int) (w : World) (C F R Wt D : Bool)
    (H : Hid (∀ w : World, Calls Try.prog 23 #[.agg #[.int .u32 b, .int .u32 l, .int .i64 t, .bool s, .int .i64 d, .bool p, .bool g]] w fun e w' => e = .returned (.agg #[.bool C, .bool F, .bool R, .bool Wt, .bool D]) ∧ Grown w w')) (HR : Hid (∀ w : World, Calls Try.prog 29 #[.int .u16 x] w fun e w' => e = .returned (.int .i64 r) ∧ w' = w))
     :
    Calls Try.prog 26 #[.int .u16 x, .agg #[.int .u32 b, .int .u32 l, .int .i64 t, .bool s, .int .i64 d, .bool p, .bool g], .int .i64 c] w fun e w' => e = .returned (.int .i64 (fsX Wt p r d c)) ∧ Grown w w' := by
  by_cases h1 : r = c
  · by_cases h2 : d = c
    · cases h3 : Wt
      · rw [show fsX false p r d c = 13 by simp [fsX]]
        exact fs_3 b l t s d p g x r c w C F R Wt D H HR h1 h2 h3
      · rw [show fsX true p r d c = presB p 12 by simp [fsX, h1, h2]]
        exact fs_4 b l t s d p g x r c w C F R Wt D H HR h1 h2 h3
    · rw [show fsX Wt p r d c = 13 by simp [fsX, h2]]
      exact fs_2 b l t s d p g x r c w C F R Wt D H HR h1 h2
  · rw [show fsX Wt p r d c = 13 by simp [fsX, h1]]
    exact fs_1 b l t s d p g x r c w C F R Wt D H HR h1

end Go.Proofs.Ytpgionhhjmlmmaa
