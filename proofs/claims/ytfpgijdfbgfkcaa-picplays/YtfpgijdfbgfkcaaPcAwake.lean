/- The contracts of setup and awake. -/
import Derived.Test.YtfpgijdfbgfkcaaPcOps
namespace Go.Proofs.Ytfpgijdfbgfkcaa
open Go.ChangeShapes Go.WideShapes Go.ChangeAt Go.RowKit
set_option linter.unusedVariables false

def m00 : M2 := ⟨ch0, ch0⟩
def chS (b : Int) : Ch := ⟨0, 0, 0, 0, b, 0, false, false⟩
def setM : M2 := ⟨chS 32, chS 40⟩

theorem by0 : By 0 := ⟨by decide, by decide⟩
theorem ch0_ok : ch0.Ok := ⟨by0, by0, by0, by0, by0, by decide, ⟨by decide, by decide⟩⟩
theorem m00_ok : m00.Ok := ⟨ch0_ok, ch0_ok⟩
theorem chS_ok {b : Int} (h : By b) (h8 : b % 8 = 0) : (chS b).Ok := ⟨by0, by0, by0, by0, h, h8, ⟨by show (0 : Int) ≤ 0; decide, by show (0 : Int) < 8; decide⟩⟩
theorem setM_ok : setM.Ok := ⟨chS_ok ⟨by decide, by decide⟩ (by decide), chS_ok ⟨by decide, by decide⟩ (by decide)⟩
theorem setM_is : ((((((((m00.out 0 17).out 1 32).out 1 4).out 1 1).out 2 17).out 3 40).out 3 2).out 3 1) = setM := by kernel_rfl

theorem Kp.own {S : Nat → Prop} {w w1 w2 : World} {B : Nat} (h : Kp S w w1) (k : Kp (isB B) w1 w2) (hB : w.heap.size ≤ B) : Kp S w w2 := h.over k (fun j hj e => by have : j = B := e; omega)
theorem Kp.and {S : Nat → Prop} {w w1 w2 : World} (h : Kp S w w1) (k : Kp noB w1 w2) : Kp S w w2 := h.trans k.any

theorem setup_ok (w : World) : Calls Try.prog 21 #[.int .u8 32, .int .u8 40] w fun e w' => e = .returned (.pointer (some ⟨w.heap.size, 0, none⟩)) ∧ PAt w' w.heap.size setM ∧ Kp noB w w' := by
  have HO : Hid (∀ (w : World) (B : Nat) (m : M2) (p v : Int), PAt w B m → m.Ok → 0 ≤ p ∧ p < 4 ∧ By v → _) := fun w B m p v h k g => out_ok w B m h k p v g.1 g.2.1 g.2.2
  have HN : Hid (Calls Try.prog 9 #[] w fun e w' => e = .returned (.pointer (some ⟨w.heap.size, 0, none⟩)) ∧ PAt w' w.heap.size m00 ∧ Kp noB w w') := new_ok w
  obtain ⟨B, hB⟩ : ∃ B, B = w.heap.size := ⟨_, rfl⟩
  rw [← hB] at HN ⊢
  have lB : Hid (w.heap.size ≤ B) := Nat.le_of_eq hB.symm
  clear hB
  go_enter Try.func21, Try.ntmps21
  go_wp2_with fail
  refine Calls.mono HN.out ?_; rintro e w0 ⟨rfl, h0, k0⟩
  go_wp2_with fail
  refine Calls.mono (HO.out w0 B _ 0 17 h0 m00_ok ⟨by decide, by decide, by decide, by decide⟩) ?_; rintro e w1 ⟨rfl, h1, g1⟩
  have k1 := k0.own g1 lB.out
  go_wp2_with fail
  refine Calls.mono (HO.out w1 B _ 1 32 h1 (M2.Ok.out (p := 0) (v := 17) m00_ok ⟨by decide, by decide⟩) ⟨by decide, by decide, by decide, by decide⟩) ?_; rintro e w2 ⟨rfl, h2, g2⟩
  have k2 := k1.own g2 lB.out
  go_wp2_with fail
  refine Calls.mono (HO.out w2 B _ 1 4 h2 (M2.Ok.out (p := 1) (v := 32) (M2.Ok.out (p := 0) (v := 17) m00_ok ⟨by decide, by decide⟩) ⟨by decide, by decide⟩) ⟨by decide, by decide, by decide, by decide⟩) ?_; rintro e w3 ⟨rfl, h3, g3⟩
  have k3 := k2.own g3 lB.out
  go_wp2_with fail
  refine Calls.mono (HO.out w3 B _ 1 1 h3 (M2.Ok.out (p := 1) (v := 4) (M2.Ok.out (p := 1) (v := 32) (M2.Ok.out (p := 0) (v := 17) m00_ok ⟨by decide, by decide⟩) ⟨by decide, by decide⟩) ⟨by decide, by decide⟩) ⟨by decide, by decide, by decide, by decide⟩) ?_; rintro e w4 ⟨rfl, h4, g4⟩
  have k4 := k3.own g4 lB.out
  go_wp2_with fail
  refine Calls.mono (HO.out w4 B _ 2 17 h4 (M2.Ok.out (p := 1) (v := 1) (M2.Ok.out (p := 1) (v := 4) (M2.Ok.out (p := 1) (v := 32) (M2.Ok.out (p := 0) (v := 17) m00_ok ⟨by decide, by decide⟩) ⟨by decide, by decide⟩) ⟨by decide, by decide⟩) ⟨by decide, by decide⟩) ⟨by decide, by decide, by decide, by decide⟩) ?_; rintro e w5 ⟨rfl, h5, g5⟩
  have k5 := k4.own g5 lB.out
  go_wp2_with fail
  refine Calls.mono (HO.out w5 B _ 3 40 h5 (M2.Ok.out (p := 2) (v := 17) (M2.Ok.out (p := 1) (v := 1) (M2.Ok.out (p := 1) (v := 4) (M2.Ok.out (p := 1) (v := 32) (M2.Ok.out (p := 0) (v := 17) m00_ok ⟨by decide, by decide⟩) ⟨by decide, by decide⟩) ⟨by decide, by decide⟩) ⟨by decide, by decide⟩) ⟨by decide, by decide⟩) ⟨by decide, by decide, by decide, by decide⟩) ?_; rintro e w6 ⟨rfl, h6, g6⟩
  have k6 := k5.own g6 lB.out
  go_wp2_with fail
  refine Calls.mono (HO.out w6 B _ 3 2 h6 (M2.Ok.out (p := 3) (v := 40) (M2.Ok.out (p := 2) (v := 17) (M2.Ok.out (p := 1) (v := 1) (M2.Ok.out (p := 1) (v := 4) (M2.Ok.out (p := 1) (v := 32) (M2.Ok.out (p := 0) (v := 17) m00_ok ⟨by decide, by decide⟩) ⟨by decide, by decide⟩) ⟨by decide, by decide⟩) ⟨by decide, by decide⟩) ⟨by decide, by decide⟩) ⟨by decide, by decide⟩) ⟨by decide, by decide, by decide, by decide⟩) ?_; rintro e w7 ⟨rfl, h7, g7⟩
  have k7 := k6.own g7 lB.out
  go_wp2_with fail
  refine Calls.mono (HO.out w7 B _ 3 1 h7 (M2.Ok.out (p := 3) (v := 2) (M2.Ok.out (p := 3) (v := 40) (M2.Ok.out (p := 2) (v := 17) (M2.Ok.out (p := 1) (v := 1) (M2.Ok.out (p := 1) (v := 4) (M2.Ok.out (p := 1) (v := 32) (M2.Ok.out (p := 0) (v := 17) m00_ok ⟨by decide, by decide⟩) ⟨by decide, by decide⟩) ⟨by decide, by decide⟩) ⟨by decide, by decide⟩) ⟨by decide, by decide⟩) ⟨by decide, by decide⟩) ⟨by decide, by decide⟩) ⟨by decide, by decide, by decide, by decide⟩) ?_; rintro e w8 ⟨rfl, h8, g8⟩
  have k8 := k7.own g8 lB.out
  rw [setM_is] at h8
  go_wp2
  go_ret
  exact ⟨rfl, h8, k8⟩


theorem aw1 : ((setM.line 4 true).a.next != -1) = true := by kernel_rfl
theorem aw2 : (setM.line 4 true).vec = 36 := by kernel_rfl
theorem aw3 : (((setM.line 4 true).ack.line 5 true).a.next != -1) = false := by kernel_rfl
theorem aw4 : ((((setM.line 4 true).ack.line 5 true).out 0 32).a.next != -1) = true := by kernel_rfl

theorem awake_ok (w : World) : Calls Try.prog 8 #[] w fun e w' => e = .returned (.bool true) ∧ Kp noB w w' := by
  have HU : Hid _ := setup_ok w
  obtain ⟨B, hB⟩ : ∃ B, B = w.heap.size := ⟨_, rfl⟩
  rw [← hB] at HU
  have lB : Hid (w.heap.size ≤ B) := Nat.le_of_eq hB.symm
  clear hB
  have o1 : Hid (setM.line 4 true).Ok := setM_ok.line (by decide) (by decide) true
  have o2 : Hid (setM.line 4 true).ack.Ok := o1.out.ack
  have o3 : Hid ((setM.line 4 true).ack.line 5 true).Ok := o2.out.line (by decide) (by decide) true
  have o4 : Hid (((setM.line 4 true).ack.line 5 true).out 0 32).Ok := M2.Ok.out (p := 0) (v := 32) o3.out ⟨by decide, by decide⟩
  have a1 : Hid _ := aw1
  have a2 : Hid _ := aw2
  have a3 : Hid _ := aw3
  have a4 : Hid _ := aw4
  have HL : Hid (∀ (w : World) (m : M2) (n : Int) (u : Bool), PAt w B m → m.Ok → 0 ≤ n → n < 16 → _) := fun w m n u h k n0 n1 => line_ok w B m h k n u n0 n1
  have HP : Hid (∀ (w : World) (m : M2), PAt w B m → m.Ok → _) := fun w m h k => pend_ok w B m h k.a
  have HA : Hid (∀ (w : World) (m : M2), PAt w B m → m.Ok → _) := fun w m h k => ack_ok w B m h k
  have HO : Hid (∀ (w : World) (m : M2), PAt w B m → m.Ok → _) := fun w m h k => out_ok w B m h k 0 32 (by decide) (by decide) ⟨by decide, by decide⟩
  have HX : Hid (∀ (w : World), _) := fun w => line_no w (some ⟨B, 0, none⟩) 16 true (.inr (.inr (by decide)))
  go_enter Try.func8, Try.ntmps8
  go_wp2_with fail
  refine Calls.mono HU.out ?_; rintro e w0 ⟨rfl, h0, k0⟩
  go_wp2_with fail
  refine Calls.mono (HL.out w0 _ 4 true h0 setM_ok (by decide) (by decide)) ?_; rintro e w1 ⟨rfl, h1, g1⟩
  have k1 := k0.own g1 lB.out
  go_wp2_with fail
  refine Calls.mono (HP.out w1 _ h1 o1.out) ?_; rintro e w2 ⟨he, g2⟩
  rw [a1.out] at he; subst he
  have h2 := h1.kept g2 id
  have k2 := k1.and g2
  go_wp2_with fail
  refine Calls.mono (HA.out w2 _ h2 o1.out) ?_; rintro e w3 ⟨he, h3, g3⟩
  rw [a2.out] at he; subst he
  have k3 := k2.own g3 lB.out
  go_wp2_with fail
  refine Calls.mono (HL.out w3 _ 5 true h3 o2.out (by decide) (by decide)) ?_; rintro e w4 ⟨rfl, h4, g4⟩
  have k4 := k3.own g4 lB.out
  go_wp2_with fail
  refine Calls.mono (HP.out w4 _ h4 o3.out) ?_; rintro e w5 ⟨he, g5⟩
  rw [a3.out] at he; subst he
  have h5 := h4.kept g5 id
  have k5 := k4.and g5
  go_wp2_with fail
  refine Calls.mono (HO.out w5 _ h5 o3.out) ?_; rintro e w6 ⟨rfl, h6, g6⟩
  have k6 := k5.own g6 lB.out
  go_wp2_with fail
  refine Calls.mono (HP.out w6 _ h6 o4.out) ?_; rintro e w7 ⟨he, g7⟩
  rw [a4.out] at he; subst he
  have k7 := k6.and g7
  go_wp2_with fail
  refine Calls.mono (HX.out w7) ?_; rintro e w8 ⟨rfl, g8⟩
  have k8 := k7.and g8
  go_wp2
  go_ret
  exact ⟨rfl, k8⟩
end Go.Proofs.Ytfpgijdfbgfkcaa
