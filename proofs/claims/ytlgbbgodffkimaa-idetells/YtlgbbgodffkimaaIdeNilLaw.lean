/- The walks of IdeNames, IdeNil. -/
import Derived.Test.YtlgbbgodffkimaaIdAwake
namespace Go.Proofs.Ytlgbbgodffkimaa
open Go.ChangeShapes Go.WideShapes Go.ChangeAt Go.RowKit
set_option linter.unusedVariables false

theorem Kp.every {W w : World} (h : Kp noB W w) : Below W.heap.size W w := h.below (Nat.le_refl _) (fun k f => f.elim)

theorem IdeNames_walk (W : World) : Calls Try.prog 3 #[] W fun e w' => e = .returned (.bool true) ∧ Below W.heap.size W w' := by
  have HA : Hid _ := awake_ok W
  go_enter Try.func3, Try.ntmps3
  go_wp2_with fail
  refine Calls.mono HA.out ?_; rintro e w1 ⟨rfl, k1⟩
  go_wp2
  go_ret
  exact ⟨rfl, k1.every⟩

set_option maxRecDepth 20000 in
set_option maxHeartbeats 1000000 in
theorem IdeNil_walk (W : World) (kd rg sz v tm : Int) : Calls Try.prog 7 #[.agg #[.int .i64 kd, .int .i64 rg, .int .i64 sz, .int .u32 v, .int .i64 tm]] W fun e w' => e = .returned (.bool true) ∧ Below W.heap.size W w' := by
  have HA : Hid (∀ w, _) := awake_ok
  have HI : Hid (∀ w, Calls _ _ #[.pointer none, .int .i64 rg, .int .i64 sz] w _) := fun w => in_no w none rg sz (by rw [chk_nil]; decide)
  have HO : Hid (∀ w, Calls _ _ #[.pointer none, .int .i64 rg, .int .i64 sz, .int .u32 v] w _) := fun w => out_no w none rg sz v (by rw [chk_nil]; decide)
  rw [chk_nil] at HI HO
  have HL : Hid (∀ w, _) := line_nil
  have HW : Hid (∀ w, _) := written_nil
  have HD : Hid (∀ w, _) := disk_nil
  go_enter Try.func7, Try.ntmps7
  go_wp2_with fail
  obtain ⟨w0, e0⟩ : ∃ w0, w0 = W.alloc (.cells #[.int .i64 kd, .int .i64 rg, .int .i64 sz, .int .u32 v, .int .i64 tm] 34) := ⟨_, rfl⟩
  rw [← e0]
  have k0 : Kp noB W w0 := by rw [e0]; exact Kp.alloc _ _ _
  have hb : w0.heap[W.heap.size]? = some (.cells #[.int .i64 kd, .int .i64 rg, .int .i64 sz, .int .u32 v, .int .i64 tm] 34) := by rw [e0]; exact heap_new _ _
  clear e0
  refine Calls.mono (HA.out _) ?_; rintro e w1 ⟨rfl, k1⟩
  have hb1 := heap_kept hb k1 id
  have c1 : w1.cell? ⟨W.heap.size, 1, none⟩ = some (.int .i64 rg) := by simp [World.cell?, hb1]
  have c2 : w1.cell? ⟨W.heap.size, 2, none⟩ = some (.int .i64 sz) := by simp [World.cell?, hb1]
  have c3 : w1.cell? ⟨W.heap.size, 3, none⟩ = some (.int .u32 v) := by simp [World.cell?, hb1]
  have K : Hid (Kp noB W w1) := k0.trans k1
  clear hb hb1 k0 k1
  go_wp2_with fail
  refine Calls.mono (HI.out _) ?_; rintro e w2 ⟨rfl, hw⟩; replace hw := hw.symm; subst hw
  go_wp2_with fail
  refine Calls.mono (HO.out _) ?_; rintro e w2 ⟨rfl, hw⟩; replace hw := hw.symm; subst hw
  go_wp2_with fail
  refine Calls.mono (HL.out _) ?_; rintro e w2 ⟨rfl, hw⟩; replace hw := hw.symm; subst hw
  go_wp2_with fail
  refine Calls.mono (HW.out _) ?_; rintro e w2 ⟨rfl, hw⟩; replace hw := hw.symm; subst hw
  go_wp2_with fail
  refine Calls.mono (HD.out _) ?_; rintro e w2 ⟨rfl, hw⟩; replace hw := hw.symm; subst hw
  go_wp2
  go_ret
  exact ⟨rfl, K.out.every⟩
end Go.Proofs.Ytlgbbgodffkimaa
