/- The walk of PitNil. -/
import Derived.Test.YteodnlloilmoaaaPtAwake
namespace Go.Proofs.Yteodnlloilmoaaa
open Go.ChangeShapes Go.WideShapes Go.ChangeAt Go.RowKit
set_option linter.unusedVariables false

theorem Kp.every {w w' : World} (h : Kp noB w w') : Below w.heap.size w w' := h.below (Nat.le_refl _) (fun k f => f.elim)

theorem cell_kept {S : Nat → Prop} {w w' : World} {p : Addr} {v : Value} (h : w.cell? p = some v) (k : Kp S w w') (hS : ¬ S p.block) : w'.cell? p = some v := by
  by_cases g : p.block < w.heap.size
  · exact (World.cell?_of_block (w := w) (k.block _ g hS)).trans h
  · have e : w.heap[p.block]? = none := Array.getElem?_eq_none (by omega)
    simp [World.cell?, e] at h

/-- An Op in a block of its own. -/
structure OpAt (w : World) (b : Nat) (kd n v u : Int) : Prop where
  c0 : w.cell? ⟨b, 0, none⟩ = some (.int .i64 kd)
  c1 : w.cell? ⟨b, 1, none⟩ = some (.int .i64 n)
  c2 : w.cell? ⟨b, 2, none⟩ = some (.int .u8 v)
  c3 : w.cell? ⟨b, 3, none⟩ = some (.int .u32 u)

theorem OpAt.kept {S : Nat → Prop} {w w' : World} {b : Nat} {kd n v u : Int} (h : OpAt w b kd n v u) (k : Kp S w w') (hS : ¬ S b) : OpAt w' b kd n v u :=
  ⟨cell_kept h.c0 k hS, cell_kept h.c1 k hS, cell_kept h.c2 k hS, cell_kept h.c3 k hS⟩

theorem op_new (w : World) (kd n v u : Int) : OpAt (w.alloc (.cells #[.int .i64 kd, .int .i64 n, .int .u8 v, .int .u32 u] 31)) w.heap.size kd n v u :=
  ⟨by simp [go_sem], by simp [go_sem], by simp [go_sem], by simp [go_sem]⟩


theorem PitNil_walk (W : World) (kd n v u : Int) (u0 : 0 ≤ u) (u1 : u < 4294967296) : Calls Try.prog 6 #[.agg #[.int .i64 kd, .int .i64 n, .int .u8 v, .int .u32 u]] W fun e w' => e = .returned (.bool true) ∧ Below W.heap.size W w' := by
  have HA : Hid (∀ w, _) := awake_ok
  have HI : Hid (∀ (w : World) (now : Int), _) := fun w now => in_no w none n now (.inl rfl)
  have HO : Hid (∀ (w : World) (now : Int), _) := fun w now => out_no w none n v now (.inl rfl)
  have HL : Hid (∀ (w : World) (now : Int), _) := fun w now => line_nil w now
  have HB : Hid (∀ w', Kp noB W w' → Below W.heap.size W w') := fun w' h => h.every
  have k0 : Kp noB W (W.alloc (.cells #[.int .i64 kd, .int .i64 n, .int .u8 v, .int .u32 u] 31)) := Kp.alloc _ _ _
  have r0 := op_new W kd n v u
  go_enter Try.func6, Try.ntmps6
  go_wp2_with fail
  refine Calls.mono (HA.out _) ?_; rintro e w1 ⟨rfl, g1⟩
  have r1 := r0.kept g1 id
  have k1 := k0.and g1
  have d1 := r1.c1
  have d2 := r1.c2
  have d3 := r1.c3
  clear r0 k0 g1
  go_wp2_with fail
  refine Calls.mono (HI.out _ _) ?_; rintro e w2 ⟨rfl, hw⟩; replace hw := hw.symm; subst hw
  go_wp2_with fail
  refine Calls.mono (HO.out _ _) ?_; rintro e w3 ⟨rfl, hw⟩; replace hw := hw.symm; subst hw
  go_wp2_with fail
  refine Calls.mono (HL.out _ _) ?_; rintro e w4 ⟨rfl, hw⟩; replace hw := hw.symm; subst hw
  go_wp2
  go_ret
  exact ⟨rfl, HB.out _ k1⟩
end Go.Proofs.Yteodnlloilmoaaa
