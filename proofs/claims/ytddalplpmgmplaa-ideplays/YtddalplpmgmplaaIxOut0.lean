/- The document's disk: Out of the data. -/
import Derived.Test.YtddalplpmgmplaaIxOut
namespace Go.Proofs.Ytddalplpmgmplaa
open Go.ChangeShapes Go.WideShapes Go.ChangeAt Go.RowKit
set_option linter.unusedVariables false

section
variable {w : World} {B gD cap : Nat} {dn : Int} {sv : Value} {d : Id}

theorem xout_0off (h : XAt w B gD cap dn sv d) (hd : Dn d dn) (k : d.Ok) (ho : d.off = true) (s : Nat) (hs : s = 1 ∨ s = 2 ∨ s = 4) (v : Int) (v0 : 0 ≤ v) (v1 : v < 4294967296) : Calls Try.prog 8 #[.pointer (some ⟨B, 0, none⟩), .int .i64 0, .int .i64 s, .int .u32 v] w fun e w' => e = .returned (.int .i64 0) ∧ XOut w B gD cap sv d w' := by
  have H : Hid (XOut w B gD cap sv d w) := XOut.refl h hd
  have c6 := h.r6
  have q0 : (d.r6 / 16 % 2 == 1) = true := ho
  have q1 : d.r6 / 16 % 2 = 1 := by simpa using q0
  have q2 : (d.r6 / 16 % 2 == 0) = false := by rw [q1]; rfl
  obtain ⟨b0, b1⟩ := k.r6
  clear h hd k ho q0
  generalize d.r6 = r at *
  rcases hs with rfl | rfl | rfl
  all_goals
    go_enter Try.func8, Try.ntmps8
    go_wp2
    go_loopw [10] (fun s10 wr => s10 = .int .i64 0 ∧ wr = w) (fun s10 _ => 0)
    case atStart => exact ⟨rfl, rfl⟩
    case round =>
      obtain ⟨rfl, rfl⟩ := hrel
      go_wp2
      go_ret
      exact ⟨rfl, H.out⟩

theorem xout_0on (h : XAt w B gD cap dn sv d) (hd : Dn d dn) (k : d.Ok) (ho : d.off = false) (s : Nat) (hs : s = 1 ∨ s = 2 ∨ s = 4) (v : Int) (v0 : 0 ≤ v) (v1 : v < 4294967296) (hw : d.work + 4 < 9007199254740992) : Calls Try.prog 8 #[.pointer (some ⟨B, 0, none⟩), .int .i64 0, .int .i64 s, .int .u32 v] w fun e w' => e = .returned (.int .i64 0) ∧ XOut w B gD cap sv (d.puts v s) w' := by
  have H0 : Hid (XOut w B gD cap sv (d.puts v 0) w) := XOut.refl h hd
  have HK : Hid d.Ok := k
  have HO : Hid (d.off = false) := ho
  have HW : Hid (d.work + 4 < 9007199254740992) := hw
  clear h hd k ho hw
  have hs' : s ≤ 4 := by omega
  obtain ⟨S, hS⟩ : ∃ S : Int, S = s := ⟨_, rfl⟩
  rw [← hS]
  have q1 : S = 1 ∨ S = 2 ∨ S = 4 := by omega
  have FIN : Hid (∀ w', XOut w B gD cap sv (d.puts v S.toNat) w' → XOut w B gD cap sv (d.puts v s) w') := by
    intro w' g
    rw [hS, Int.toNat_natCast] at g
    exact g
  clear hs hs' hS
  rcases q1 with rfl | rfl | rfl
  · go_enter Try.func8, Try.ntmps8
    go_wp2
    go_loopw [10] (fun s10 wr => ∃ i : Nat, (i : Int) ≤ 1 ∧ s10 = .int .i64 i ∧ XOut w B gD cap sv (d.puts v i) wr) (fun s10 _ => 4 - (intOf s10).toNat)
    case atStart => exact ⟨0, by omega, rfl, H0.out⟩
    case round =>
      clear H0
      obtain ⟨i, hi, rfl, hr⟩ := hrel
      by_cases hlt : (i : Int) < 1
      · obtain ⟨dn1, sv1, x1, x2, x3, x4⟩ := hr
        have c6 := x1.r6
        have ko : ((d.puts v i).r6 / 16 % 2 == 1) = false := (puts_off d v i).trans HO.out
        have k1 := HK.out.puts v i
        obtain ⟨b0, b1⟩ := k1.r6
        have q3 : ¬ (d.puts v i).r6 / 16 % 2 = 1 := by simpa using ko
        have q4 : (d.puts v i).r6 / 16 % 2 = 0 := by omega
        have HP : Hid _ := xput_ok x1 x2 k1 (v / 2 ^ (8 * i) % 256) byt_m (by
          have a := puts_work HK.out v i
          have b := work_log (d.puts v i)
          have c := HW.out
          omega)
        have X : Hid (∀ w2, XOut wr B gD cap sv1 ((d.puts v i).put (v / 2 ^ (8 * i) % 256)) w2 → XOut w B gD cap sv (d.puts v (i + 1)) w2) := fun w2 g => XOut.then x3 x4 g
        clear x1 x2 x3 x4 k1 ko q3
        generalize (d.puts v i).r6 = r at *
        rcases (by omega : i = 0 ∨ i = 1 ∨ i = 2 ∨ i = 3) with rfl | rfl | rfl | rfl
        all_goals first
          | (exfalso; omega)
          | (simp only [Nat.reduceMul, Int.reducePow, Int.ediv_one, Int.cast_ofNat_Int] at HP X ⊢
             go_wp2_with fail
             refine Calls.mono HP.out ?_; rintro e w2 ⟨rfl, h2⟩
             have H : Hid _ := X.out _ h2
             clear h2 X HP c6
             go_wp2
             go_roundw
             case rel => exact ⟨_, by omega, by go_num, H.out⟩
             case measure => simp [intOf])
      · have e : i = 1 := by omega
        subst e
        have H : Hid _ := FIN.out _ hr
        clear hr FIN
        go_wp2
        go_ret
        exact ⟨rfl, H.out⟩
  · go_enter Try.func8, Try.ntmps8
    go_wp2
    go_loopw [10] (fun s10 wr => ∃ i : Nat, (i : Int) ≤ 2 ∧ s10 = .int .i64 i ∧ XOut w B gD cap sv (d.puts v i) wr) (fun s10 _ => 4 - (intOf s10).toNat)
    case atStart => exact ⟨0, by omega, rfl, H0.out⟩
    case round =>
      clear H0
      obtain ⟨i, hi, rfl, hr⟩ := hrel
      by_cases hlt : (i : Int) < 2
      · obtain ⟨dn1, sv1, x1, x2, x3, x4⟩ := hr
        have c6 := x1.r6
        have ko : ((d.puts v i).r6 / 16 % 2 == 1) = false := (puts_off d v i).trans HO.out
        have k1 := HK.out.puts v i
        obtain ⟨b0, b1⟩ := k1.r6
        have q3 : ¬ (d.puts v i).r6 / 16 % 2 = 1 := by simpa using ko
        have q4 : (d.puts v i).r6 / 16 % 2 = 0 := by omega
        have HP : Hid _ := xput_ok x1 x2 k1 (v / 2 ^ (8 * i) % 256) byt_m (by
          have a := puts_work HK.out v i
          have b := work_log (d.puts v i)
          have c := HW.out
          omega)
        have X : Hid (∀ w2, XOut wr B gD cap sv1 ((d.puts v i).put (v / 2 ^ (8 * i) % 256)) w2 → XOut w B gD cap sv (d.puts v (i + 1)) w2) := fun w2 g => XOut.then x3 x4 g
        clear x1 x2 x3 x4 k1 ko q3
        generalize (d.puts v i).r6 = r at *
        rcases (by omega : i = 0 ∨ i = 1 ∨ i = 2 ∨ i = 3) with rfl | rfl | rfl | rfl
        all_goals first
          | (exfalso; omega)
          | (simp only [Nat.reduceMul, Int.reducePow, Int.ediv_one, Int.cast_ofNat_Int] at HP X ⊢
             go_wp2_with fail
             refine Calls.mono HP.out ?_; rintro e w2 ⟨rfl, h2⟩
             have H : Hid _ := X.out _ h2
             clear h2 X HP c6
             go_wp2
             go_roundw
             case rel => exact ⟨_, by omega, by go_num, H.out⟩
             case measure => simp [intOf])
      · have e : i = 2 := by omega
        subst e
        have H : Hid _ := FIN.out _ hr
        clear hr FIN
        go_wp2
        go_ret
        exact ⟨rfl, H.out⟩
  · go_enter Try.func8, Try.ntmps8
    go_wp2
    go_loopw [10] (fun s10 wr => ∃ i : Nat, (i : Int) ≤ 4 ∧ s10 = .int .i64 i ∧ XOut w B gD cap sv (d.puts v i) wr) (fun s10 _ => 4 - (intOf s10).toNat)
    case atStart => exact ⟨0, by omega, rfl, H0.out⟩
    case round =>
      clear H0
      obtain ⟨i, hi, rfl, hr⟩ := hrel
      by_cases hlt : (i : Int) < 4
      · obtain ⟨dn1, sv1, x1, x2, x3, x4⟩ := hr
        have c6 := x1.r6
        have ko : ((d.puts v i).r6 / 16 % 2 == 1) = false := (puts_off d v i).trans HO.out
        have k1 := HK.out.puts v i
        obtain ⟨b0, b1⟩ := k1.r6
        have q3 : ¬ (d.puts v i).r6 / 16 % 2 = 1 := by simpa using ko
        have q4 : (d.puts v i).r6 / 16 % 2 = 0 := by omega
        have HP : Hid _ := xput_ok x1 x2 k1 (v / 2 ^ (8 * i) % 256) byt_m (by
          have a := puts_work HK.out v i
          have b := work_log (d.puts v i)
          have c := HW.out
          omega)
        have X : Hid (∀ w2, XOut wr B gD cap sv1 ((d.puts v i).put (v / 2 ^ (8 * i) % 256)) w2 → XOut w B gD cap sv (d.puts v (i + 1)) w2) := fun w2 g => XOut.then x3 x4 g
        clear x1 x2 x3 x4 k1 ko q3
        generalize (d.puts v i).r6 = r at *
        rcases (by omega : i = 0 ∨ i = 1 ∨ i = 2 ∨ i = 3) with rfl | rfl | rfl | rfl
        all_goals first
          | (exfalso; omega)
          | (simp only [Nat.reduceMul, Int.reducePow, Int.ediv_one, Int.cast_ofNat_Int] at HP X ⊢
             go_wp2_with fail
             refine Calls.mono HP.out ?_; rintro e w2 ⟨rfl, h2⟩
             have H : Hid _ := X.out _ h2
             clear h2 X HP c6
             go_wp2
             go_roundw
             case rel => exact ⟨_, by omega, by go_num, H.out⟩
             case measure => simp [intOf])
      · have e : i = 4 := by omega
        subst e
        have H : Hid _ := FIN.out _ hr
        clear hr FIN
        go_wp2
        go_ret
        exact ⟨rfl, H.out⟩

theorem xout_ok (h : XAt w B gD cap dn sv d) (hd : Dn d dn) (k : d.Ok) (reg size v : Int) (v0 : 0 ≤ v) (v1 : v < 4294967296) (hw : d.work + 4 < 9007199254740992) (hc : ck reg size = 0) : Calls Try.prog 8 #[.pointer (some ⟨B, 0, none⟩), .int .i64 reg, .int .i64 size, .int .u32 v] w fun e w' => e = .returned (.int .i64 0) ∧ XOut w B gD cap sv (d.out reg size.toNat v) w' := by
  have hr : 0 ≤ reg ∧ reg < 9 ∧ (reg = 0 → size = 1 ∨ size = 2 ∨ size = 4) := by
    unfold ck at hc
    split at hc
    · cases hc
    · split at hc
      · cases hc
      · omega
  obtain ⟨r0, r9, rs⟩ := hr
  clear hc
  rcases (by omega : reg = 0 ∨ reg = 1 ∨ reg = 2 ∨ reg = 3 ∨ reg = 4 ∨ reg = 5 ∨ reg = 6 ∨ reg = 7 ∨ reg = 8) with rfl | rfl | rfl | rfl | rfl | rfl | rfl | rfl | rfl
  · have hs := rs rfl
    obtain ⟨s, rfl⟩ : ∃ s : Nat, size = s := ⟨size.toNat, by omega⟩
    rw [Int.toNat_natCast]
    have e0 : d.out 0 s v = if d.off = true then d else d.puts v s := rfl
    rw [e0]
    cases ho : d.off
    · rw [if_neg (by decide)]
      exact xout_0on h hd k ho s (by omega) v v0 v1 hw
    · rw [if_pos rfl]
      exact xout_0off h hd k ho s (by omega) v v0 v1
  · exact xout_1 h hd size v v0 v1
  · exact xout_set h hd 2 size v 2 rfl (by decide) (by decide) v0 v1 _ (reg_2 _) rfl rfl rfl rfl rfl rfl rfl rfl rfl
  · exact xout_set h hd 3 size v 3 rfl (by decide) (by decide) v0 v1 _ (reg_3 _) rfl rfl rfl rfl rfl rfl rfl rfl rfl
  · exact xout_set h hd 4 size v 4 rfl (by decide) (by decide) v0 v1 _ (reg_4 _) rfl rfl rfl rfl rfl rfl rfl rfl rfl
  · exact xout_set h hd 5 size v 5 rfl (by decide) (by decide) v0 v1 _ (reg_5 _) rfl rfl rfl rfl rfl rfl rfl rfl rfl
  · exact xout_set h hd 6 size v 6 rfl (by decide) (by decide) v0 v1 _ (reg_6 _) rfl rfl rfl rfl rfl rfl rfl rfl rfl
  · exact xout_7 h hd k size v v0 v1
  · exact xout_8 h hd k size v v0 v1
end
end Go.Proofs.Ytddalplpmgmplaa
