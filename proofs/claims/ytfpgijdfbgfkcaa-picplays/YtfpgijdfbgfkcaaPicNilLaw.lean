/- The walk of PicNil. -/
import Derived.Test.YtfpgijdfbgfkcaaPcAwake
namespace Go.Proofs.Ytfpgijdfbgfkcaa
open Go.ChangeShapes Go.WideShapes Go.ChangeAt Go.RowKit
set_option linter.unusedVariables false

theorem Kp.every {w w' : World} (h : Kp noB w w') : Below w.heap.size w w' := h.below (Nat.le_refl _) (fun k f => f.elim)

/-- An Op in a block of its own. -/
structure OpAt (w : World) (b : Nat) (kd n v : Int) (u : Bool) : Prop where
  c0 : w.cell? ⟨b, 0, none⟩ = some (.int .i64 kd)
  c1 : w.cell? ⟨b, 1, none⟩ = some (.int .i64 n)
  c2 : w.cell? ⟨b, 2, none⟩ = some (.int .u8 v)
  c3 : w.cell? ⟨b, 3, none⟩ = some (.bool u)

theorem OpAt.kept {S : Nat → Prop} {w w' : World} {b : Nat} {kd n v : Int} {u : Bool} (h : OpAt w b kd n v u) (k : Kp S w w') (hS : ¬ S b) : OpAt w' b kd n v u :=
  ⟨cell_kept h.c0 k hS, cell_kept h.c1 k hS, cell_kept h.c2 k hS, cell_kept h.c3 k hS⟩

theorem op_new (w : World) (kd n v : Int) (u : Bool) : OpAt (w.alloc (.cells #[.int .i64 kd, .int .i64 n, .int .u8 v, .bool u] 29)) w.heap.size kd n v u :=
  ⟨by simp [go_sem], by simp [go_sem], by simp [go_sem], by simp [go_sem]⟩

theorem PicNil_walk (W : World) (kd n v : Int) (u : Bool) : Calls Try.prog 6 #[.agg #[.int .i64 kd, .int .i64 n, .int .u8 v, .bool u]] W fun e w' => e = .returned (.bool true) ∧ Below W.heap.size W w' := by
  have HA : Hid (∀ w, _) := awake_ok
  have HI : Hid (∀ w, _) := fun w => in_no w none n (.inl rfl)
  have HO : Hid (∀ w, _) := fun w => out_no w none n v (.inl rfl)
  have HL : Hid (∀ w, _) := fun w => line_no w none n u (.inl rfl)
  have HP : Hid (∀ w, _) := pend_nil
  have HK : Hid (∀ w, _) := ack_nil
  have HB : Hid (∀ w', Kp noB W w' → Below W.heap.size W w') := fun w' h => h.every
  have k0 : Kp noB W (W.alloc (.cells #[.int .i64 kd, .int .i64 n, .int .u8 v, .bool u] 29)) := Kp.alloc _ _ _
  have r0 := op_new W kd n v u
  go_enter Try.func6, Try.ntmps6
  go_wp2_with fail
  refine Calls.mono (HA.out _) ?_; rintro e w1 ⟨rfl, g1⟩
  have r1 := r0.kept g1 id
  have k1 := k0.and g1
  have d1 := r1.c1
  clear r0 k0 g1
  go_wp2_with fail
  refine Calls.mono (HI.out _) ?_; rintro e w2 ⟨rfl, g2⟩
  have r2 := r1.kept g2 id
  have k2 := k1.and g2
  clear d1 r1 k1 g2
  have d1 := r2.c1
  have d2 := r2.c2
  go_wp2_with fail
  refine Calls.mono (HO.out _) ?_; rintro e w3 ⟨rfl, g3⟩
  have r3 := r2.kept g3 id
  have k3 := k2.and g3
  clear d1 d2 r2 k2 g3
  have d1 := r3.c1
  have d3 := r3.c3
  go_wp2_with fail
  refine Calls.mono (HL.out _) ?_; rintro e w4 ⟨rfl, g4⟩
  have k4 := k3.and g4
  clear d1 d3 r3 k3 g4
  go_wp2_with fail
  refine Calls.mono (HP.out _) ?_; rintro e w5 ⟨rfl, hw⟩; replace hw := hw.symm; subst hw
  go_wp2_with fail
  refine Calls.mono (HK.out _) ?_; rintro e w6 ⟨rfl, g6⟩
  have k6 := k4.and g6
  go_wp2
  go_ret
  exact ⟨rfl, HB.out _ k6⟩
end Go.Proofs.Ytfpgijdfbgfkcaa
