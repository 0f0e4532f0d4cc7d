/- The document's disk: command. -/
import Derived.Test.YtddalplpmgmplaaIxLeaf
import Derived.Deep.Cut
namespace Go.Proofs.Ytddalplpmgmplaa
open Go.ChangeShapes Go.WideShapes Go.ChangeAt Go.RowKit
set_option linter.unusedVariables false

section
variable {w : World} {B gD cap : Nat} {dn : Int} {sv : Value} {d : Id}

/-- The world behind the clearing. -/
def xclr (w : World) (B : Nat) : World := (((w.setCell ⟨B, 523, none⟩ (.bool false)).setCell ⟨B, 2, none⟩ (.int .u8 0)).setCell ⟨B, 524, none⟩ (.bool false)).setCell ⟨B, 522, none⟩ (.int .i64 0)

theorem xclear_ok (h : XAt w B gD cap dn sv d) : XAt (xclr w B) B gD cap dn sv d.clear ∧ Kp (isB B) w (xclr w B) :=
  ⟨((((h.raw.setmk false).setR 1 (by decide) 2 rfl 0).setfl false).setmo 0).id _ rfl rfl rfl (fun j _ => congrFun (reg_1 (d := { d with mark := false, failed := false, mode := 0 }) 0).symm j) rfl rfl rfl rfl rfl, (((kpB B _ _ _).trans (kpB B _ _ _)).trans (kpB B _ _ _)).trans (kpB B _ _ _)⟩

theorem xcommand_off (h : XAt w B gD cap dn sv d) (hd : Dn d dn) (k : d.Ok) (ho : d.off = true) (v : Int) : Calls Try.prog 25 #[.pointer (some ⟨B, 0, none⟩), .int .u8 v] w fun e w' => e = .returned (.tuple #[]) ∧ XOk w B gD cap sv (d.command v) w' := by
  have c6 := h.r6
  obtain ⟨b0, b1⟩ := k.r6
  have H : Hid (XOk w B gD cap sv (d.command v) w) := by
    unfold Id.command
    rw [if_pos ho]
    exact ⟨dn, h, hd, Kp.refl _ _⟩
  have q : (d.r6 / 16 % 2 == 1) = true := ho
  generalize d.r6 = r at *
  clear h hd k ho
  go_enter Try.func25, Try.ntmps25
  go_wp2
  refine bodyPost_ret (results_none rfl _ _ _) rfl ?_
  exact ⟨rfl, H.out⟩

set_option maxHeartbeats 2000000 in
theorem xcommand_on (h : XAt w B gD cap dn sv d) (k : d.Ok) (ho : d.off = false) (v : Int) (hec : v ≠ 236) (hv : byt v) : Calls Try.prog 25 #[.pointer (some ⟨B, 0, none⟩), .int .u8 v] w fun e w' => e = .returned (.tuple #[]) ∧ XOk w B gD cap sv (d.command v) w' := by
  have c1 := h.r1
  have c6 := h.r6
  have cf := h.cfl
  have cg := h.cmo
  have cm := h.cmk
  have z1 := h.fz 2
  have z2 := h.fz 522
  have z3 := h.fz 523
  have z4 := h.fz 524
  obtain ⟨b0, b1⟩ := k.r6
  obtain ⟨hc, kc⟩ := xclear_ok h
  have hk := k.clear
  have HB1 : Hid _ := xbegin_ok hc hk 1 (.inl rfl)
  have HB2 : Hid _ := xbegin_ok hc hk 2 (.inr rfl)
  have HF : Hid _ := xfail_ok hc 4
  have hcl : Hid (XAt (xclr w B) B gD cap dn sv d.clear) := hc
  have FIN : Hid (∀ (x : Id) w4, x = d.command v → XOk (xclr w B) B gD cap sv x w4 → XOk w B gD cap sv (d.command v) w4) := by
    rintro x w4 e ⟨dn4, h4, d4, k4⟩
    rw [← e]
    exact ⟨dn4, h4, d4, kc.trans k4⟩
  have KC : Hid (Kp (isB B) w (xclr w B)) := kc
  have q0 : (d.r6 / 16 % 2 == 1) = false := ho
  have ho' : Hid (d.off = false) := ho
  have MT : Hid (d.meant = (d.r6 / 64 % 2 == 1)) := rfl
  obtain ⟨v0, v1⟩ := hv
  unfold xclr at HB1 HB2 HF
  clear h k ho hc hk kc
  generalize d.r6 = r at *
  by_cases v20 : v = 32 ∨ v = 33
  · cases q : (r / 64 % 2 == 1)
    · rw [q] at MT
      have E : Hid (d.clear.fail 4 = d.command v) := by
        show _ = _
        unfold Id.command
        rw [if_neg (by rw [ho'.out]; decide), if_pos (by omega), if_neg (by rw [MT.out]; decide)]
      clear HB1 HB2 hcl KC
      rcases v20 with rfl | rfl
      all_goals
        go_enter Try.func25, Try.ntmps25
        go_wp2_with fail
        refine Calls.mono HF.out ?_; rintro e w4 ⟨rfl, h4⟩
        have H : Hid _ := FIN.out _ w4 E.out h4
        clear h4 FIN HF
        go_wp2
        go_end0
        exact ⟨rfl, H.out⟩
    · rw [q] at MT
      have E : Hid (d.clear.begin 1 = d.command v) := by
        show _ = _
        unfold Id.command
        rw [if_neg (by rw [ho'.out]; decide), if_pos (by omega), if_pos MT.out, if_pos (by omega)]
      clear HF HB2 hcl KC
      rcases v20 with rfl | rfl
      all_goals
        go_enter Try.func25, Try.ntmps25
        go_wp2_with fail
        refine Calls.mono HB1.out ?_; rintro e w4 ⟨rfl, h4⟩
        have H : Hid _ := FIN.out _ w4 E.out h4
        clear h4 FIN HB1
        go_wp2
        go_end0
        exact ⟨rfl, H.out⟩
  · by_cases v30 : v = 48 ∨ v = 49
    · cases q : (r / 64 % 2 == 1)
      · rw [q] at MT
        have E : Hid (d.clear.fail 4 = d.command v) := by
          show _ = _
          unfold Id.command
          rw [if_neg (by rw [ho'.out]; decide), if_pos (by omega), if_neg (by rw [MT.out]; decide)]
        clear HB1 HB2 hcl KC v20
        rcases v30 with rfl | rfl
        all_goals
          go_enter Try.func25, Try.ntmps25
          go_wp2_with fail
          refine Calls.mono HF.out ?_; rintro e w4 ⟨rfl, h4⟩
          have H : Hid _ := FIN.out _ w4 E.out h4
          clear h4 FIN HF
          go_wp2
          go_end0
          exact ⟨rfl, H.out⟩
      · rw [q] at MT
        have E : Hid (d.clear.begin 2 = d.command v) := by
          show _ = _
          unfold Id.command
          rw [if_neg (by rw [ho'.out]; decide), if_pos (by omega), if_pos MT.out, if_neg (by omega)]
        clear HF HB1 hcl KC v20
        rcases v30 with rfl | rfl
        all_goals
          go_enter Try.func25, Try.ntmps25
          go_wp2_with fail
          refine Calls.mono HB2.out ?_; rintro e w4 ⟨rfl, h4⟩
          have H : Hid _ := FIN.out _ w4 E.out h4
          clear h4 FIN HB2
          go_wp2
          go_end0
          exact ⟨rfl, H.out⟩
    · have nb : ¬ (v = 32 ∨ v = 33 ∨ v = 48 ∨ v = 49) := by omega
      by_cases vm : v = 231 ∨ v = 145
      · have H : Hid (XOk w B gD cap sv (d.command v) ((xclr w B).setCell ⟨B, 523, none⟩ (.bool true))) := by
          show XOk _ _ _ _ _ _ _
          unfold Id.command
          rw [if_neg (by rw [ho'.out]; decide), if_neg nb, if_neg hec, if_pos vm]
          exact ⟨dn, (hcl.out.raw.setmk true).id _ rfl rfl rfl (fun _ _ => rfl) rfl rfl rfl rfl rfl, Dn.none rfl, KC.out.trans (kpB B _ _ _)⟩
        unfold xclr at H
        clear HF HB1 HB2 hcl KC FIN v20 v30 nb hec MT
        rcases vm with rfl | rfl
        all_goals
          go_enter Try.func25, Try.ntmps25
          go_wp2
          go_end0
          exact ⟨rfl, H.out⟩
      · have E : Hid (d.clear.fail 4 = d.command v) := by
          show _ = _
          unfold Id.command
          rw [if_neg (by rw [ho'.out]; decide), if_neg nb, if_neg hec, if_neg vm]
        have q1 : (v == 32) = false := by rw [beq_eq_false_iff_ne]; omega
        have q2 : (v == 33) = false := by rw [beq_eq_false_iff_ne]; omega
        have q3 : (v == 48) = false := by rw [beq_eq_false_iff_ne]; omega
        have q4 : (v == 49) = false := by rw [beq_eq_false_iff_ne]; omega
        have q5 : (v == 236) = false := by rw [beq_eq_false_iff_ne]; omega
        have q6 : (v == 231) = false := by rw [beq_eq_false_iff_ne]; omega
        have q7 : (v == 145) = false := by rw [beq_eq_false_iff_ne]; omega
        clear HB1 HB2 hcl KC v20 v30 nb vm hec MT
        go_enter Try.func25, Try.ntmps25
        go_wp2_with fail
        refine Calls.mono HF.out ?_; rintro e w4 ⟨rfl, h4⟩
        have H : Hid _ := FIN.out _ w4 E.out h4
        clear h4 FIN HF
        go_wp2
        go_end0
        exact ⟨rfl, H.out⟩
end
end Go.Proofs.Ytddalplpmgmplaa
