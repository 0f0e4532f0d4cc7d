/- The contracts of cause, want, turn, tell, status. -/
import Derived.Test.YtafnlaamfpjolaaUtLeaf
namespace Go.Proofs.Ytafnlaamfpjolaa
open Go.ChangeShapes Go.WideShapes Go.ChangeAt Go.RowKit
set_option linter.unusedVariables false

/-- With this channel, or none. -/
def UOr (w : World) (B : Nat) (cv : Option Nat) (sv : Value) (u : U) : Prop := ∃ cv', (cv' = none ∨ cv' = cv) ∧ UAt w B cv' sv u

section
variable {w : World} {B : Nat} {cv : Option Nat} {sv : Value} {u : U}

theorem cause_any (h : UAt w B cv sv u) (k : u.Ok) : Calls Try.prog 28 #[.pointer (some ⟨B, 0, none⟩)] w fun e w' => e = .returned (.int .u8 u.why) ∧ w' = w := by
  have HT : Hid _ := there_any h
  have c3 := h.c3
  have c7 := h.c7
  have e1 := and1 (by16 k.want)
  have e2 := and2 (by16 k.want)
  unfold U.why
  clear h k
  generalize u.there = ut at HT ⊢
  generalize b0 u.want = x0 at e1 ⊢
  generalize b1 u.want = x1 at e2 ⊢
  generalize u.tell = ul at c3 ⊢
  cases ut <;> cases x0 <;> cases ul <;> cases x1 <;> (
    go_enter Try.func28, Try.ntmps28
    go_wp2_with fail
    refine Calls.mono HT.out ?_; rintro e w1 ⟨rfl, hw⟩; replace hw := hw.symm; subst hw
    go_wp2
    go_ret
    exact ⟨rfl, rfl⟩)

theorem want_ok (h : UAt w B cv sv u) (k : u.Ok) (v : Int) (hv : 0 ≤ v ∧ v < 16) : Calls Try.prog 23 #[.pointer (some ⟨B, 0, none⟩), .int .u8 v] w fun e w' => e = .returned (.tuple #[]) ∧ UAt w' B cv sv (u.wants v) ∧ Kp (isB B) w w' := by
  have c3 := h.c3
  have c7 := h.c7
  have z3 := h.fz 3
  have z7 := h.fz 7
  have e1 := wantsB hv k.want
  unfold U.wants
  cases e : (b1 v && !b1 u.want)
  · rw [e] at e1
    have hC : Hid (UAt w B cv sv u) := h
    clear h
    go_enter Try.func23, Try.ntmps23
    go_wp2
    go_end0
    exact ⟨rfl, hC.out.set _ (by simp [uC]) rfl rfl, kpB B _ _ _⟩
  · rw [e] at e1
    have hC : Hid (UAt w B cv sv u) := h
    clear h
    go_enter Try.func23, Try.ntmps23
    go_wp2
    go_end0
    exact ⟨rfl, (hC.out.set { u with tell := true } rfl rfl rfl).set _ (by simp [uC]) rfl rfl, (kpB B _ _ _).trans (kpB B _ _ _)⟩

theorem turn_ok (h : UAt w B cv sv u) (k : u.Ok) (v : Int) (hv : By v) : Calls Try.prog 24 #[.pointer (some ⟨B, 0, none⟩), .int .u8 v] w fun e w' => e = .returned (.tuple #[]) ∧ UOr w' B cv sv (u.turn v) ∧ Kp (isB B) w w' := by
  have c0 := h.c0
  have c4 := h.c4
  have z0 := h.fz 0
  have z4 := h.fz 4
  have e1 := and1 hv
  have e2 := and2 hv
  have hC : Hid (UAt w B cv sv u) := h
  unfold U.turn
  clear h k
  generalize b0 v = x0 at e1 ⊢
  generalize b1 v = x1 at e2 ⊢
  cases eo : u.on <;> rw [eo] at c4 <;> cases x0 <;> cases x1 <;> (
    go_enter Try.func24, Try.ntmps24
    go_wp2
    go_end0
    first
    | exact ⟨rfl, ⟨cv, .inr rfl, hC.out.set _ (by simp [uC]) rfl rfl⟩, kpB B _ _ _⟩
    | exact ⟨rfl, ⟨none, .inl rfl, (hC.out.put none sv { u with came := [] } rfl .no hC.out.snt).set _ (by simp [uC]) rfl rfl⟩, (kpB B _ _ _).trans (kpB B _ _ _)⟩)

theorem tell_ok (h : UAt w B cv sv u) (k : u.Ok) : Calls Try.prog 30 #[.pointer (some ⟨B, 0, none⟩)] w fun e w' => e = .returned (.int .u8 u.told) ∧ UAt w' B cv sv u.telling ∧ Kp (isB B) w w' := by
  have HT : Hid _ := cause_any h k
  have c3 := h.c3
  have c4 := h.c4
  have z3 := h.fz 3
  have hC : Hid (UAt w B cv sv u) := h
  have hy : u.why = 4 ∨ u.why = 2 ∨ u.why = 1 := by
    unfold U.why
    split
    · exact .inl rfl
    · split
      · exact .inr (.inl rfl)
      · exact .inr (.inr rfl)
  unfold U.told U.telling
  clear h k
  generalize u.why = y at HT hy ⊢
  rcases hy with rfl | rfl | rfl <;> cases eo : u.on <;> rw [eo] at c4 <;> (
    go_enter Try.func30, Try.ntmps30
    go_wp2_with fail
    refine Calls.mono HT.out ?_; rintro e w1 ⟨rfl, hw⟩; replace hw := hw.symm; subst hw
    go_wp2
    go_ret
    first
    | exact ⟨rfl, hC.out, Kp.refl _ _⟩
    | exact ⟨rfl, hC.out.set _ (by simp [uC, eo]) rfl rfl, kpB B _ _ _⟩)

theorem status_ok (h : UAt w B cv sv u) : Calls Try.prog 31 #[.pointer (some ⟨B, 0, none⟩)] w fun e w' => e = .returned (.int .u8 u.status) ∧ UAt w' B cv sv { u with lost := false } ∧ Kp (isB B) w w' := by
  have HT : Hid _ := there_any h
  have c1 := h.c1
  have z1 := h.fz 1
  have hC : Hid (UAt w B cv sv u) := h
  unfold U.status
  clear h
  generalize u.there = y at HT ⊢
  cases y <;> cases eo : u.lost <;> rw [eo] at c1 <;> (
    go_enter Try.func31, Try.ntmps31
    go_wp2_with fail
    refine Calls.mono HT.out ?_; rintro e w1 ⟨rfl, hw⟩; replace hw := hw.symm; subst hw
    go_wp2
    go_ret
    exact ⟨rfl, hC.out.set { u with lost := false } rfl rfl rfl, kpB B _ _ _⟩)
end
end Go.Proofs.Ytafnlaamfpjolaa
