/- The contracts of the document's port: why, Line, Sent, New. -/
import Derived.Test.YtafnlaamfpjolaaUrBase
namespace Go.Proofs.Ytafnlaamfpjolaa
open Go.ChangeShapes Go.WideShapes Go.ChangeAt Go.RowKit
set_option linter.unusedVariables false

theorem by_tm {v m : Int} (h : 0 ≤ v) : Int.tmod v m = v % m := Int.tmod_eq_emod_of_nonneg h
theorem by_td {v m : Int} (h : 0 ≤ v) : Int.tdiv v m = v / m := Int.tdiv_eq_ediv_of_nonneg h

section
variable {w : World} {R : Nat} {cq sv : Value} {u : U}

theorem rwhy_any (h : RAt w R cq sv u) (k : u.Ok) : Calls Try.prog 26 #[.pointer (some ⟨R, 0, none⟩)] w fun e w' => e = .returned (.int .u8 u.why) ∧ w' = w := by
  have c0 := h.c0
  have c7 := h.c7
  have c9 := h.c9
  obtain ⟨p, c, rfl⟩ := h.chn.sl
  obtain ⟨w0, w1⟩ := k.want
  have wm : Int.tmod u.want 2 = u.want % 2 := by_tm w0
  have wd : Int.tdiv u.want 2 = u.want / 2 := by_td w0
  have wdm : Int.tmod (u.want / 2) 2 = u.want / 2 % 2 := by_tm (by omega)
  have e0 : (u.want % 2 == 1) = b0 u.want := rfl
  have e1 : (u.want / 2 % 2 == 1) = b1 u.want := rfl
  have et : decide (0 < u.came.length) = u.there := rfl
  unfold U.why
  clear h k
  generalize u.there = ut at et ⊢
  generalize b0 u.want = x0 at e0 ⊢
  generalize b1 u.want = x1 at e1 ⊢
  cases ut <;> cases x0 <;> cases el : u.tell <;> rw [el] at c9 <;> cases x1 <;> (
    go_enter Try.func26, Try.ntmps26
    go_wp2
    go_ret
    exact ⟨rfl, rfl⟩)

theorem rline_any (h : RAt w R cq sv u) (k : u.Ok) : Calls Try.prog 20 #[.pointer (some ⟨R, 0, none⟩)] w fun e w' => e = .returned (.bool u.ln) ∧ w' = w := by
  have HT : Hid _ := rwhy_any h k
  unfold U.ln
  clear h k
  go_enter Try.func20, Try.ntmps20
  go_wp2_with fail
  refine Calls.mono HT.out ?_; rintro e w1 ⟨rfl, hw⟩; replace hw := hw.symm; subst hw
  go_wp2
  go_ret
  exact ⟨rfl, rfl⟩

theorem rsent_ok (h : RAt w R cq sv u) : Calls Try.prog 18 #[.pointer (some ⟨R, 0, none⟩)] w fun e w' => e = .returned sv ∧ RAt w' R cq (.slice none 0 0) u.hush ∧ Kp (isB R) w w' := by
  have c10 := h.c10
  have z10 := h.fz 10
  have hC : Hid (RAt w R cq sv u) := h
  clear h
  go_enter Try.func18, Try.ntmps18
  go_wp2
  go_ret
  exact ⟨rfl, hC.out.put cq (.slice none 0 0) u.hush rfl hC.out.chn (OwnB.nil _) (fun g _ e => by cases e), kpB R _ _ _⟩
end

theorem rnew_ok (w : World) : Calls Try.prog 10 #[] w fun e w' => e = .returned (.pointer (some ⟨w.heap.size, 0, none⟩)) ∧ RAt w' w.heap.size (.slice none 0 0) (.slice none 0 0) u0 ∧ Kp noB w w' := by
  have h0 : Hid (RAt (w.alloc (.cells (rC (.slice none 0 0) (.slice none 0 0) u0) 46)) w.heap.size (.slice none 0 0) (.slice none 0 0) u0) := ⟨heap_new _ _, .no, OwnB.nil _, fun g e => by cases e⟩
  have k0 : Hid (Kp noB w (w.alloc (.cells (rC (.slice none 0 0) (.slice none 0 0) u0) 46))) := Kp.alloc _ _ _
  go_enter Try.func10, Try.ntmps10
  go_wp2
  go_ret
  exact ⟨rfl, h0.out, k0.out⟩
end Go.Proofs.Ytafnlaamfpjolaa
