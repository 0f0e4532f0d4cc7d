/- The document's disk: one, get. -/
import Derived.Test.YtddalplpmgmplaaIxLeaf
namespace Go.Proofs.Ytddalplpmgmplaa
open Go.ChangeShapes Go.WideShapes Go.ChangeAt Go.RowKit
set_option linter.unusedVariables false

section
variable {w : World} {B gD cap : Nat} {dn : Int} {sv : Value} {d : Id}

/-- The registers behind 'one is done'. -/
theorem next_reg (d : Id) (j : Nat) (hj : j < 7) : setB (setB (setB (setB (setB d.reg 3 ((d.place + 1) % 256)) 4 ((d.place + 1) / 256 % 256)) 5 ((d.place + 1) / 65536 % 256)) 6 (d.r6 - d.r6 % 16 + (d.place + 1) / 16777216 % 16)) 2 ((d.r2 - 1) % 256) j = d.next.reg j := by
  rcases (by omega : j = 0 ∨ j = 1 ∨ j = 2 ∨ j = 3 ∨ j = 4 ∨ j = 5 ∨ j = 6) with rfl | rfl | rfl | rfl | rfl | rfl | rfl <;> rfl

set_option maxRecDepth 20000 in
set_option maxHeartbeats 2000000 in
theorem xone_ok (h : XAt w B gD cap dn sv d) (k : d.Ok) (hm : d.mode = 1 ∨ d.mode = 2) : Calls Try.prog 37 #[.pointer (some ⟨B, 0, none⟩)] w fun e w' => e = .returned (.tuple #[]) ∧ XOk w B gD cap sv d.one w' := by
  have HP : Hid _ := xplace_any h k
  have hC : Hid (XAt w B gD cap dn sv d) := h
  have hK : Hid d.Ok := k
  have hM : Hid (d.mode = 1 ∨ d.mode = 2) := hm
  have p := k.place
  obtain ⟨b0, b1⟩ := k.r6
  obtain ⟨e0, e1⟩ := k.r2
  obtain ⟨P, hP⟩ : ∃ P, P = d.place := ⟨_, rfl⟩
  obtain ⟨N, hN⟩ : ∃ N, N = d.place + 1 := ⟨_, rfl⟩
  rw [← hP] at HP
  have n0 : 0 ≤ N := by omega
  have n1 : N ≤ 268435456 := by omega
  have f1 : P + 1 = N := by omega
  have HN : Hid (N = d.place + 1) := hN
  clear h k hm p hP hN
  go_enter Try.func37, Try.ntmps37
  go_wp2_with fail
  refine Calls.mono HP.out ?_; rintro e w1 ⟨rfl, m, rfl⟩
  have h1 := hC.out.keep (drewN_kp w m)
  have K1 : Hid (Kp noB w (w.drewN m)) := drewN_kp w m
  clear HP hC
  generalize w.drewN m = w1 at *
  have c2 := h1.r2
  have c3 := h1.r3
  have c4 := h1.r4
  have c5 := h1.r5
  have c6 := h1.r6
  have y2 := h1.fz 3
  have y3 := h1.fz 4
  have y4 := h1.fz 5
  have y5 := h1.fz 6
  have y6 := h1.fz 7
  have R4 : Hid (XRaw (((((w1.setCell ⟨B, 4, none⟩ (.int .u8 (N % 256))).setCell ⟨B, 5, none⟩ (.int .u8 (N / 256 % 256))).setCell ⟨B, 6, none⟩ (.int .u8 (N / 65536 % 256))).setCell ⟨B, 7, none⟩ (.int .u8 (d.r6 - d.r6 % 16 + N / 16777216 % 16))).drew) B gD cap d.n sv d.log d.D (setB (setB (setB (setB d.reg 3 (N % 256)) 4 (N / 256 % 256)) 5 (N / 65536 % 256)) 6 (d.r6 - d.r6 % 16 + N / 16777216 % 16)) d.buf d.c dn d.mode d.mark d.failed ∧ Kp (isB B) w (((((w1.setCell ⟨B, 4, none⟩ (.int .u8 (N % 256))).setCell ⟨B, 5, none⟩ (.int .u8 (N / 256 % 256))).setCell ⟨B, 6, none⟩ (.int .u8 (N / 65536 % 256))).setCell ⟨B, 7, none⟩ (.int .u8 (d.r6 - d.r6 % 16 + N / 16777216 % 16))).drew)) :=
    ⟨((((h1.raw.setR 3 (by decide) 4 rfl _).setR 4 (by decide) 5 rfl _).setR 5 (by decide) 6 rfl _).setR 6 (by decide) 7 rfl _).keep (Kp.refl _ _).drew, (K1.out.any.trans ((((kpB B _ _ _).trans (kpB B _ _ _)).trans (kpB B _ _ _)).trans (kpB B _ _ _))).drew⟩
  clear h1
  go_wp2
  go_region
  revert R4
  generalize ((((w1.setCell ⟨B, 4, none⟩ (.int .u8 (N % 256))).setCell ⟨B, 5, none⟩ (.int .u8 (N / 256 % 256))).setCell ⟨B, 6, none⟩ (.int .u8 (N / 65536 % 256))).setCell ⟨B, 7, none⟩ (.int .u8 (d.r6 - d.r6 % 16 + N / 16777216 % 16))).drew = w4
  intro R4
  have d2 : w4.cell? ⟨B, 3, none⟩ = some (.int .u8 d.r2) := R4.out.1.blk.cell 3 (by decide)
  have x2 := R4.out.1.blk.fz 3
  have R5 : Hid (XAt (w4.setCell ⟨B, 3, none⟩ (.int .u8 ((d.r2 - 1) % 256))).drew B gD cap dn sv d.next ∧ Kp (isB B) w (w4.setCell ⟨B, 3, none⟩ (.int .u8 ((d.r2 - 1) % 256))).drew) := by
    refine ⟨((R4.out.1.setR 2 (by decide) 3 rfl ((d.r2 - 1) % 256)).id d.next rfl rfl rfl (fun j hj => ?_) rfl rfl rfl rfl rfl).keep (Kp.refl _ _).drew, (R4.out.2.trans (kpB B _ _ _)).drew⟩
    rw [HN.out]
    exact next_reg d j hj
  clear c2 c3 c4 c5 c6 y2 y3 y4 y5 y6 R4 f1 n0 n1 b0 b1
  go_wp2
  go_region
  revert R5
  generalize (w4.setCell ⟨B, 3, none⟩ (.int .u8 ((d.r2 - 1) % 256))).drew = w5
  intro R5
  obtain ⟨h5, k5⟩ := R5.out
  have d2' : w5.cell? ⟨B, 3, none⟩ = some (.int .u8 d.next.r2) := h5.r2
  have cg : w5.cell? ⟨B, 522, none⟩ = some (.int .i64 d.mode) := h5.cmo
  have z3 := h5.fz 522
  clear d2 x2 e0 e1
  by_cases q : d.next.r2 = 0
  · have e : d.one = { d.next with mode := 0 } := by unfold Id.one; rw [if_pos q]
    have H : Hid (XOk w B gD cap sv d.one (w5.setCell ⟨B, 522, none⟩ (.int .i64 0))) := by
      rw [e]
      exact ⟨dn, (h5.raw.setmo 0).id _ rfl rfl rfl (fun _ _ => rfl) rfl rfl rfl rfl rfl, Dn.none rfl, k5.trans (kpB B _ _ _)⟩
    rw [q] at d2'
    clear h5 k5 R5 q e hK hM
    go_wp2
    refine bodyPost_ret (results_none rfl _ _ _) rfl ?_
    exact ⟨rfl, H.out⟩
  · have e : d.one = d.next.begin d.mode := by unfold Id.one; rw [if_neg q]
    have q' : (d.next.r2 == 0) = false := by simpa using q
    have HT : Hid _ := xbegin_ok h5 hK.out.next d.mode hM.out
    have K3 : Hid (Kp (isB B) w w5) := k5
    have E : Hid (d.one = d.next.begin d.mode) := e
    clear h5 k5 R5 q e hK hM
    generalize d.mode = g at *
    go_wp2_with fail
    refine Calls.mono HT.out ?_; rintro e w6 ⟨rfl, dn4, h4, d4, k4⟩
    have H : Hid (XOk w B gD cap sv d.one w6) := by
      rw [E.out]
      exact ⟨dn4, h4, d4, K3.out.trans k4⟩
    clear h4 k4 d4
    go_wp2
    go_end0
    exact ⟨rfl, H.out⟩

theorem xget_idle (h : XAt w B gD cap dn sv d) (hd : Dn d dn) (k : d.Ok) (hm : ¬ (d.mode = 1 ∨ d.mode = 3)) : Calls Try.prog 29 #[.pointer (some ⟨B, 0, none⟩)] w fun e w' => e = .returned (.int .u8 d.getV) ∧ XOk w B gD cap sv d.get w' := by
  have cg := h.cmo
  have e1 : d.getV = 255 := getV_idle d hm
  have e2 : d.get = d := by unfold Id.get; rw [if_neg hm]
  have H : Hid (XOk w B gD cap sv d w) := ⟨dn, h, hd, Kp.refl _ _⟩
  rw [e1, e2]
  have q1 : (d.mode != 1) = true := by rw [bne_iff_ne]; exact fun e => hm (.inl e)
  have q3 : (d.mode != 3) = true := by rw [bne_iff_ne]; exact fun e => hm (.inr e)
  clear h hd k hm e1 e2
  generalize d.mode = g at *
  go_enter Try.func29, Try.ntmps29
  go_wp2
  go_ret
  exact ⟨rfl, H.out⟩

set_option maxRecDepth 20000 in
set_option maxHeartbeats 1000000 in
theorem xget_on (h : XAt w B gD cap dn sv d) (hd : Dn d dn) (k : d.Ok) (hm : d.mode = 1 ∨ d.mode = 3) : Calls Try.prog 29 #[.pointer (some ⟨B, 0, none⟩)] w fun e w' => e = .returned (.int .u8 d.getV) ∧ XOk w B gD cap sv d.get w' := by
  have hdn : dn = d.don := hd (by omega)
  subst hdn
  have cg := h.cmo
  have cd := h.cdn
  have zd := h.fz 521
  have zg := h.fz 522
  have x1 := k.don
  obtain ⟨x, hx⟩ : ∃ x, x = d.don := ⟨_, rfl⟩
  have cb := h.cb x (by omega)
  have e1 : d.getV = d.buf x := by unfold Id.getV; rw [if_pos hm, hx]
  have eg : d.get = if x + 1 < 512 then { d with don := x + 1 } else if d.mode = 3 then { d with don := 0, mode := 0 } else ({ d with don := 0 } : Id).one := by unfold Id.get; rw [if_pos hm, hx]
  rw [← hx] at cd x1
  have HR : Hid (∀ n, XRaw ((w.setCell ⟨B, 521, none⟩ (.int .i64 ((x : Int) + 1))).drewN n) B gD cap d.n sv d.log d.D d.reg d.buf d.c ((x : Int) + 1) d.mode d.mark d.failed ∧ Kp (isB B) w ((w.setCell ⟨B, 521, none⟩ (.int .i64 ((x : Int) + 1))).drewN n)) := fun n => ⟨(h.raw.setdn _).keep (drewN_kp _ n), (kpB B _ _ _).trans (drewN_kp _ n).any⟩
  have hK : Hid d.Ok := k
  have HG : Hid (d.get = if x + 1 < 512 then { d with don := x + 1 } else if d.mode = 3 then { d with don := 0, mode := 0 } else ({ d with don := 0 } : Id).one) := eg
  have HM : Hid (d.mode = 1 ∨ d.mode = 3) := hm
  rw [e1]
  clear h hd k e1 eg hx
  generalize d.buf x = y at *
  rcases hm with hm | hm
  · have EM : Hid (d.mode = 1) := hm
    rw [hm] at cg
    clear hm
    by_cases hf : x + 1 < 512
    · have t1 : (((x : Int) + 1) == 512) = false := by rw [beq_eq_false_iff_ne]; omega
      have F : Hid (∀ n, XOk w B gD cap sv d.get ((w.setCell ⟨B, 521, none⟩ (.int .i64 ((x : Int) + 1))).drewN n)) := fun n => by
        rw [HG.out, if_pos hf]
        exact ⟨_, (HR.out n).1.id _ rfl rfl rfl (fun _ _ => rfl) rfl rfl rfl rfl rfl, fun _ => by show (x : Int) + 1 = ((x + 1 : Nat) : Int); omega, (HR.out n).2⟩
      clear HR HG hf
      go_enter Try.func29, Try.ntmps29
      go_wp2
      go_quiet (fail)
      go_wp2
      go_ret
      exact ⟨rfl, F.out _⟩
    · have t1 : (((x : Int) + 1) == 512) = true := by rw [beq_iff_eq]; omega
      have t2 : (x : Int) + 1 = 512 := by omega
      have hK0 : Id.Ok { d with don := 0 } := { hK.out with don := by show 0 < 512; decide }
      have HO : Hid (∀ n, Calls Try.prog 37 #[.pointer (some ⟨B, 0, none⟩)] ((w.setCell ⟨B, 521, none⟩ (.int .i64 ((x : Int) + 1))).drewN n) _) := fun n => xone_ok (d := { d with don := 0 }) ((HR.out n).1.id _ rfl rfl rfl (fun _ _ => rfl) rfl rfl rfl rfl rfl) hK0 (.inl EM.out)
      have F : Hid (∀ n w2, XOk ((w.setCell ⟨B, 521, none⟩ (.int .i64 ((x : Int) + 1))).drewN n) B gD cap sv ({ d with don := 0 } : Id).one w2 → XOk w B gD cap sv d.get w2) := fun n w2 h => by
        rw [HG.out, if_neg hf, if_neg (by rw [EM.out]; decide)]
        obtain ⟨a, b, c, e⟩ := h
        exact ⟨a, b, c, (HR.out n).2.trans e⟩
      clear HR HG hf
      go_enter Try.func29, Try.ntmps29
      go_wp2
      go_quiet (fail)
      rw [t2] at HO F
      go_wp2_with fail
      refine Calls.mono (HO.out _) ?_; rintro e w2 ⟨rfl, h2⟩
      have H : Hid _ := F.out _ _ h2
      clear h2 HO F
      go_wp2
      go_ret
      exact ⟨rfl, H.out⟩
  · have EM : Hid (d.mode = 3) := hm
    rw [hm] at cg
    clear hm
    by_cases hf : x + 1 < 512
    · have t1 : (((x : Int) + 1) == 512) = false := by rw [beq_eq_false_iff_ne]; omega
      have F : Hid (∀ n, XOk w B gD cap sv d.get ((w.setCell ⟨B, 521, none⟩ (.int .i64 ((x : Int) + 1))).drewN n)) := fun n => by
        rw [HG.out, if_pos hf]
        exact ⟨_, (HR.out n).1.id _ rfl rfl rfl (fun _ _ => rfl) rfl rfl rfl rfl rfl, fun _ => by show (x : Int) + 1 = ((x + 1 : Nat) : Int); omega, (HR.out n).2⟩
      clear HR HG hf
      go_enter Try.func29, Try.ntmps29
      go_wp2
      go_quiet (fail)
      go_wp2
      go_ret
      exact ⟨rfl, F.out _⟩
    · have t1 : (((x : Int) + 1) == 512) = true := by rw [beq_iff_eq]; omega
      have F : Hid (∀ n, XOk w B gD cap sv d.get (((w.setCell ⟨B, 521, none⟩ (.int .i64 ((x : Int) + 1))).drewN n).setCell ⟨B, 522, none⟩ (.int .i64 0))) := fun n => by
        rw [HG.out, if_neg hf, if_pos EM.out]
        exact ⟨_, ((HR.out n).1.setmo 0).id _ rfl rfl rfl (fun _ _ => rfl) rfl rfl rfl rfl rfl, Dn.none rfl, (HR.out n).2.trans (kpB B _ _ _)⟩
      have t2 : (x : Int) + 1 = 512 := by omega
      rw [t2] at F
      clear HR HG hf
      go_enter Try.func29, Try.ntmps29
      go_wp2
      go_quiet (fail)
      go_wp2
      go_ret
      exact ⟨rfl, F.out _⟩

theorem xget_ok (h : XAt w B gD cap dn sv d) (hd : Dn d dn) (k : d.Ok) : Calls Try.prog 29 #[.pointer (some ⟨B, 0, none⟩)] w fun e w' => e = .returned (.int .u8 d.getV) ∧ XOk w B gD cap sv d.get w' := by
  by_cases hm : d.mode = 1 ∨ d.mode = 3
  · exact xget_on h hd k hm
  · exact xget_idle h hd k hm
end
end Go.Proofs.Ytddalplpmgmplaa
