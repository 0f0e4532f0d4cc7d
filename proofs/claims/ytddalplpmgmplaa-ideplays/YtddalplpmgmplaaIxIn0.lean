/- The document's disk: In of the data. -/
import Derived.Test.YtddalplpmgmplaaIxMid
import Derived.Test.YtddalplpmgmplaaIdW
namespace Go.Proofs.Ytddalplpmgmplaa
open Go.ChangeShapes Go.WideShapes Go.ChangeAt Go.RowKit
set_option linter.unusedVariables false

section
variable {w : World} {B gD cap : Nat} {dn : Int} {sv : Value} {d : Id}

theorem getsV_bd (k : d.Ok) : 0 ≤ d.getsV 0 ∧ d.getsV 0 < 1 ∧ 0 ≤ d.getsV 1 ∧ d.getsV 1 < 256 ∧ 0 ≤ d.getsV 2 ∧ d.getsV 2 < 65536 ∧ 0 ≤ d.getsV 3 ∧ d.getsV 3 < 16777216 := by
  obtain ⟨a0, a1⟩ := (k.gets 0).getV
  obtain ⟨b0, b1⟩ := (k.gets 1).getV
  obtain ⟨c0, c1⟩ := (k.gets 2).getV
  have e0 : d.getsV 0 = 0 := rfl
  have e1 : d.getsV 1 = d.getsV 0 + (d.gets 0).getV * 1 := rfl
  have e2 : d.getsV 2 = d.getsV 1 + (d.gets 1).getV * 256 := rfl
  have e3 : d.getsV 3 = d.getsV 2 + (d.gets 2).getV * 65536 := rfl
  omega

theorem xin_0 (h : XAt w B gD cap dn sv d) (hd : Dn d dn) (k : d.Ok) (s : Nat) (hs : s = 1 ∨ s = 2 ∨ s = 4) (ho : d.off = false) : Calls Try.prog 10 #[.pointer (some ⟨B, 0, none⟩), .int .i64 0, .int .i64 s] w fun e w' => e = .returned (.tuple #[.int .u32 (d.inV 0 s), .int .i64 0]) ∧ XOk w B gD cap sv (d.inn 0 s) w' := by
  have e1 : d.inV 0 s = d.getsV s := by
    unfold Id.inV
    rw [if_neg (by rintro ⟨a, _⟩; rw [a] at ho; cases ho), if_pos rfl]
  have e2 : d.inn 0 s = d.gets s := by
    unfold Id.inn
    rw [if_neg (by rw [ho]; decide), if_pos rfl]
  rw [e1, e2]
  have H0 : Hid (XOk w B gD cap sv (d.gets 0) w) := ⟨dn, h, hd, Kp.refl _ _⟩
  have HK : Hid d.Ok := k
  have c6 := h.r6
  obtain ⟨b0, b1⟩ := k.r6
  have q0 : (d.r6 / 16 % 2 == 1) = false := ho
  have q2 : ¬ d.r6 / 16 % 2 = 1 := by simpa using q0
  clear h hd k ho e1 e2 q0
  generalize d.r6 = r at *
  obtain ⟨S, hS⟩ : ∃ S : Int, S = s := ⟨_, rfl⟩
  rw [← hS]
  have q1 : S = 1 ∨ S = 2 ∨ S = 4 := by omega
  obtain ⟨GV, hGV⟩ : ∃ GV, GV = d.getsV s := ⟨_, rfl⟩
  rw [← hGV]
  have FIN : Hid ((∀ w', XOk w B gD cap sv (d.gets S.toNat) w' → XOk w B gD cap sv (d.gets s) w') ∧ d.getsV S.toNat = GV) := by
    rw [hS, Int.toNat_natCast]
    exact ⟨fun w' g => g, hGV.symm⟩
  clear hs hS hGV
  rcases q1 with rfl | rfl | rfl
  · go_enter Try.func10, Try.ntmps10
    go_wp2
    go_loopw [8, 9] (fun s8 s9 wr => ∃ i : Nat, (i : Int) ≤ 1 ∧ s9 = .int .i64 i ∧ s8 = .int .u32 (d.getsV i) ∧ XOk w B gD cap sv (d.gets i) wr) (fun _ s9 _ => 4 - (intOf s9).toNat)
    case atStart => exact ⟨0, by omega, rfl, rfl, H0.out⟩
    case round =>
      clear H0 c6 b0 b1 q2
      obtain ⟨i, hi, rfl, rfl, hr⟩ := hrel
      by_cases hlt : (i : Int) < 1
      · obtain ⟨dn1, x1, x2, x4⟩ := hr
        have k1 := HK.out.gets i
        have HP : Hid _ := xget_ok x1 x2 k1
        obtain ⟨g0, g1⟩ := k1.getV
        have X : Hid (∀ w2, XOk wr B gD cap sv (d.gets i).get w2 → XOk w B gD cap sv (d.gets (i + 1)) w2) := fun w2 ⟨dn2, y1, y2, y3⟩ => ⟨dn2, y1, y2, x4.trans y3⟩
        obtain ⟨u0, u1, u2, u3, u4, u5, u6, u7⟩ := getsV_bd HK.out
        have ev : Hid (d.getsV (i + 1) = d.getsV i + (d.gets i).getV * 2 ^ (8 * i)) := rfl
        clear x1 x2 x4 k1
        rcases (by omega : i = 0 ∨ i = 1 ∨ i = 2 ∨ i = 3) with rfl | rfl | rfl | rfl
        all_goals first
          | (exfalso; omega)
          | (simp only [Nat.reduceMul, Int.reducePow, Int.mul_one, Int.cast_ofNat_Int] at HP X ev ⊢
             generalize hy : (d.gets _).getV = y at HP ev g0 g1
             generalize hz : d.getsV _ = z at u0 u1 u2 u3 u4 u5 u6 u7 ev ⊢
             clear hy hz
             go_wp2_with fail
             refine Calls.mono HP.out ?_; rintro e w2 ⟨rfl, h2⟩
             have H : Hid _ := X.out _ h2
             clear h2 X HP
             go_wp2
             go_roundw
             case rel => exact ⟨_, by omega, by go_num, by rw [ev.out], H.out⟩
             case measure => simp [intOf])
      · have e : i = 1 := by omega
        subst e
        have H : Hid _ := FIN.out.1 _ hr
        have V : Hid _ := FIN.out.2
        clear hr FIN
        go_wp2
        go_ret2
        exact ⟨by rw [← V.out]; rfl, H.out⟩
  · go_enter Try.func10, Try.ntmps10
    go_wp2
    go_loopw [8, 9] (fun s8 s9 wr => ∃ i : Nat, (i : Int) ≤ 2 ∧ s9 = .int .i64 i ∧ s8 = .int .u32 (d.getsV i) ∧ XOk w B gD cap sv (d.gets i) wr) (fun _ s9 _ => 4 - (intOf s9).toNat)
    case atStart => exact ⟨0, by omega, rfl, rfl, H0.out⟩
    case round =>
      clear H0 c6 b0 b1 q2
      obtain ⟨i, hi, rfl, rfl, hr⟩ := hrel
      by_cases hlt : (i : Int) < 2
      · obtain ⟨dn1, x1, x2, x4⟩ := hr
        have k1 := HK.out.gets i
        have HP : Hid _ := xget_ok x1 x2 k1
        obtain ⟨g0, g1⟩ := k1.getV
        have X : Hid (∀ w2, XOk wr B gD cap sv (d.gets i).get w2 → XOk w B gD cap sv (d.gets (i + 1)) w2) := fun w2 ⟨dn2, y1, y2, y3⟩ => ⟨dn2, y1, y2, x4.trans y3⟩
        obtain ⟨u0, u1, u2, u3, u4, u5, u6, u7⟩ := getsV_bd HK.out
        have ev : Hid (d.getsV (i + 1) = d.getsV i + (d.gets i).getV * 2 ^ (8 * i)) := rfl
        clear x1 x2 x4 k1
        rcases (by omega : i = 0 ∨ i = 1 ∨ i = 2 ∨ i = 3) with rfl | rfl | rfl | rfl
        all_goals first
          | (exfalso; omega)
          | (simp only [Nat.reduceMul, Int.reducePow, Int.mul_one, Int.cast_ofNat_Int] at HP X ev ⊢
             generalize hy : (d.gets _).getV = y at HP ev g0 g1
             generalize hz : d.getsV _ = z at u0 u1 u2 u3 u4 u5 u6 u7 ev ⊢
             clear hy hz
             go_wp2_with fail
             refine Calls.mono HP.out ?_; rintro e w2 ⟨rfl, h2⟩
             have H : Hid _ := X.out _ h2
             clear h2 X HP
             go_wp2
             go_roundw
             case rel => exact ⟨_, by omega, by go_num, by rw [ev.out], H.out⟩
             case measure => simp [intOf])
      · have e : i = 2 := by omega
        subst e
        have H : Hid _ := FIN.out.1 _ hr
        have V : Hid _ := FIN.out.2
        clear hr FIN
        go_wp2
        go_ret2
        exact ⟨by rw [← V.out]; rfl, H.out⟩
  · go_enter Try.func10, Try.ntmps10
    go_wp2
    go_loopw [8, 9] (fun s8 s9 wr => ∃ i : Nat, (i : Int) ≤ 4 ∧ s9 = .int .i64 i ∧ s8 = .int .u32 (d.getsV i) ∧ XOk w B gD cap sv (d.gets i) wr) (fun _ s9 _ => 4 - (intOf s9).toNat)
    case atStart => exact ⟨0, by omega, rfl, rfl, H0.out⟩
    case round =>
      clear H0 c6 b0 b1 q2
      obtain ⟨i, hi, rfl, rfl, hr⟩ := hrel
      by_cases hlt : (i : Int) < 4
      · obtain ⟨dn1, x1, x2, x4⟩ := hr
        have k1 := HK.out.gets i
        have HP : Hid _ := xget_ok x1 x2 k1
        obtain ⟨g0, g1⟩ := k1.getV
        have X : Hid (∀ w2, XOk wr B gD cap sv (d.gets i).get w2 → XOk w B gD cap sv (d.gets (i + 1)) w2) := fun w2 ⟨dn2, y1, y2, y3⟩ => ⟨dn2, y1, y2, x4.trans y3⟩
        obtain ⟨u0, u1, u2, u3, u4, u5, u6, u7⟩ := getsV_bd HK.out
        have ev : Hid (d.getsV (i + 1) = d.getsV i + (d.gets i).getV * 2 ^ (8 * i)) := rfl
        clear x1 x2 x4 k1
        rcases (by omega : i = 0 ∨ i = 1 ∨ i = 2 ∨ i = 3) with rfl | rfl | rfl | rfl
        all_goals first
          | (exfalso; omega)
          | (simp only [Nat.reduceMul, Int.reducePow, Int.mul_one, Int.cast_ofNat_Int] at HP X ev ⊢
             generalize hy : (d.gets _).getV = y at HP ev g0 g1
             generalize hz : d.getsV _ = z at u0 u1 u2 u3 u4 u5 u6 u7 ev ⊢
             clear hy hz
             go_wp2_with fail
             refine Calls.mono HP.out ?_; rintro e w2 ⟨rfl, h2⟩
             have H : Hid _ := X.out _ h2
             clear h2 X HP
             go_wp2
             go_roundw
             case rel => exact ⟨_, by omega, by go_num, by rw [ev.out], H.out⟩
             case measure => simp [intOf])
      · have e : i = 4 := by omega
        subst e
        have H : Hid _ := FIN.out.1 _ hr
        have V : Hid _ := FIN.out.2
        clear hr FIN
        go_wp2
        go_ret2
        exact ⟨by rw [← V.out]; rfl, H.out⟩
end
end Go.Proofs.Ytddalplpmgmplaa
