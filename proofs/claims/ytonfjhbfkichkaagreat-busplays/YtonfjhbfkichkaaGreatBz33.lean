/- The bus and its devices: IxMid, IxPut, IxOut, IxOut0. -/
import Derived.Test.YtonfjhbfkichkaaGreatBz21
import Derived.Test.YtonfjhbfkichkaaGreatBz13
namespace Go.Proofs.YtonfjhbfkichkaaGreat.Dk
open Go.ChangeShapes Go.WideShapes Go.ChangeAt Go.RowKit
set_option linter.unusedVariables false
set_option maxRecDepth 20000
section
variable {w : World} {B gD cap : Nat} {dn : Int} {sv : Value} {d : Id}
theorem next_reg (d : Id) (j : Nat) (hj : j < 7) : setB (setB (setB (setB (setB d.reg 3 ((d.place + 1) % 256)) 4 ((d.place + 1) / 256 % 256)) 5 ((d.place + 1) / 65536 % 256)) 6 (d.r6 - d.r6 % 16 + (d.place + 1) / 16777216 % 16)) 2 ((d.r2 - 1) % 256) j = d.next.reg j := by
 rcases (by omega : j = 0 ∨ j = 1 ∨ j = 2 ∨ j = 3 ∨ j = 4 ∨ j = 5 ∨ j = 6) with rfl | rfl | rfl | rfl | rfl | rfl | rfl <;> rfl
set_option maxRecDepth 20000 in
set_option maxHeartbeats 2000000 in
theorem xone_ok (h : XAt w B gD cap dn sv d) (k : d.Ok) (hm : d.mode = 1 ∨ d.mode = 2) : Calls Tryz.prog 156 #[.pointer (some ⟨B, 0, none⟩)] w fun e w' => e = .returned (.tuple #[]) ∧ XOk w B gD cap sv d.one w' := by
 have HP : Hid _ := xplace_any h k
 have hC : Hid (XAt w B gD cap dn sv d) := h
 have hK : Hid d.Ok := k
 have hM : Hid (d.mode = 1 ∨ d.mode = 2) := hm
 have p := k.place
 obtain ⟨b0, b1⟩ := k.r6
 obtain ⟨e0, e1⟩ := k.r2
 obtain ⟨P, hP⟩ : ∃ P, P = d.place := ⟨_, rfl⟩
 obtain ⟨N, hN⟩ : ∃ N, N = d.place + 1 := ⟨_, rfl⟩
 rw [← hP] at HP
 have n0 : 0 ≤ N := by omega
 have n1 : N ≤ 268435456 := by omega
 have f1 : P + 1 = N := by omega
 have HN : Hid (N = d.place + 1) := hN
 clear h k hm p hP hN
 go_enter Tryz.func156, Tryz.ntmps156
 go_wp2_with fail
 refine Calls.mono HP.out ?_; rintro e w1 ⟨rfl, m, rfl⟩
 have h1 := hC.out.keep (drewN_kp w m)
 have K1 : Hid (Kp noB w (w.drewN m)) := drewN_kp w m
 clear HP hC
 generalize w.drewN m = w1 at *
 have c2 := h1.r2
 have c3 := h1.r3
 have c4 := h1.r4
 have c5 := h1.r5
 have c6 := h1.r6
 have y2 := h1.fz 3
 have y3 := h1.fz 4
 have y4 := h1.fz 5
 have y5 := h1.fz 6
 have y6 := h1.fz 7
 have R4 : Hid (XRaw (((((w1.setCell ⟨B, 4, none⟩ (.int .u8 (N % 256))).setCell ⟨B, 5, none⟩ (.int .u8 (N / 256 % 256))).setCell ⟨B, 6, none⟩ (.int .u8 (N / 65536 % 256))).setCell ⟨B, 7, none⟩ (.int .u8 (d.r6 - d.r6 % 16 + N / 16777216 % 16))).drew) B gD cap d.n sv d.log d.D (setB (setB (setB (setB d.reg 3 (N % 256)) 4 (N / 256 % 256)) 5 (N / 65536 % 256)) 6 (d.r6 - d.r6 % 16 + N / 16777216 % 16)) d.buf d.c dn d.mode d.mark d.failed ∧ Kp (isB B) w (((((w1.setCell ⟨B, 4, none⟩ (.int .u8 (N % 256))).setCell ⟨B, 5, none⟩ (.int .u8 (N / 256 % 256))).setCell ⟨B, 6, none⟩ (.int .u8 (N / 65536 % 256))).setCell ⟨B, 7, none⟩ (.int .u8 (d.r6 - d.r6 % 16 + N / 16777216 % 16))).drew)) :=
  ⟨((((h1.raw.setR 3 (by decide) 4 rfl _).setR 4 (by decide) 5 rfl _).setR 5 (by decide) 6 rfl _).setR 6 (by decide) 7 rfl _).keep (Kp.refl _ _).drew, (K1.out.any.trans ((((kpB B _ _ _).trans (kpB B _ _ _)).trans (kpB B _ _ _)).trans (kpB B _ _ _))).drew⟩
 clear h1
 go_wp2
 go_region
 revert R4
 generalize ((((w1.setCell ⟨B, 4, none⟩ (.int .u8 (N % 256))).setCell ⟨B, 5, none⟩ (.int .u8 (N / 256 % 256))).setCell ⟨B, 6, none⟩ (.int .u8 (N / 65536 % 256))).setCell ⟨B, 7, none⟩ (.int .u8 (d.r6 - d.r6 % 16 + N / 16777216 % 16))).drew = w4
 intro R4
 have d2 : w4.cell? ⟨B, 3, none⟩ = some (.int .u8 d.r2) := R4.out.1.blk.cell 3 (by decide)
 have x2 := R4.out.1.blk.fz 3
 have R5 : Hid (XAt (w4.setCell ⟨B, 3, none⟩ (.int .u8 ((d.r2 - 1) % 256))).drew B gD cap dn sv d.next ∧ Kp (isB B) w (w4.setCell ⟨B, 3, none⟩ (.int .u8 ((d.r2 - 1) % 256))).drew) := by
  refine ⟨((R4.out.1.setR 2 (by decide) 3 rfl ((d.r2 - 1) % 256)).id d.next rfl rfl rfl (fun j hj => ?_) rfl rfl rfl rfl rfl).keep (Kp.refl _ _).drew, (R4.out.2.trans (kpB B _ _ _)).drew⟩
  rw [HN.out]
  exact next_reg d j hj
 clear c2 c3 c4 c5 c6 y2 y3 y4 y5 y6 R4 f1 n0 n1 b0 b1
 go_wp2
 go_region
 revert R5
 generalize (w4.setCell ⟨B, 3, none⟩ (.int .u8 ((d.r2 - 1) % 256))).drew = w5
 intro R5
 obtain ⟨h5, k5⟩ := R5.out
 have d2' : w5.cell? ⟨B, 3, none⟩ = some (.int .u8 d.next.r2) := h5.r2
 have cg : w5.cell? ⟨B, 522, none⟩ = some (.int .i64 d.mode) := h5.cmo
 have z3 := h5.fz 522
 clear d2 x2 e0 e1
 by_cases q : d.next.r2 = 0
 ·have e : d.one = { d.next with mode := 0 } := by unfold Id.one; rw [if_pos q]
  have H : Hid (XOk w B gD cap sv d.one (w5.setCell ⟨B, 522, none⟩ (.int .i64 0))) := by
   rw [e]
   exact ⟨dn, (h5.raw.setmo 0).id _ rfl rfl rfl (fun _ _ => rfl) rfl rfl rfl rfl rfl, Dn.none rfl, k5.trans (kpB B _ _ _)⟩
  rw [q] at d2'
  clear h5 k5 R5 q e hK hM
  go_wp2
  refine bodyPost_ret (results_none rfl _ _ _) rfl ?_
  exact ⟨rfl, H.out⟩
 ·have e : d.one = d.next.begin d.mode := by unfold Id.one; rw [if_neg q]
  have q' : (d.next.r2 == 0) = false := by simpa using q
  have HT : Hid _ := xbegin_ok h5 hK.out.next d.mode hM.out
  have K3 : Hid (Kp (isB B) w w5) := k5
  have E : Hid (d.one = d.next.begin d.mode) := e
  clear h5 k5 R5 q e hK hM
  generalize d.mode = g at *
  go_wp2_with fail
  refine Calls.mono HT.out ?_; rintro e w6 ⟨rfl, dn4, h4, d4, k4⟩
  have H : Hid (XOk w B gD cap sv d.one w6) := by
   rw [E.out]
   exact ⟨dn4, h4, d4, K3.out.trans k4⟩
  clear h4 k4 d4
  go_wp2
  go_end0
  exact ⟨rfl, H.out⟩
theorem xget_idle (h : XAt w B gD cap dn sv d) (hd : Dn d dn) (k : d.Ok) (hm : ¬ (d.mode = 1 ∨ d.mode = 3)) : Calls Tryz.prog 129 #[.pointer (some ⟨B, 0, none⟩)] w fun e w' => e = .returned (.int .u8 d.getV) ∧ XOk w B gD cap sv d.get w' := by
 have cg := h.cmo
 have e1 : d.getV = 255 := getV_idle d hm
 have e2 : d.get = d := by unfold Id.get; rw [if_neg hm]
 have H : Hid (XOk w B gD cap sv d w) := ⟨dn, h, hd, Kp.refl _ _⟩
 rw [e1, e2]
 have q1 : (d.mode != 1) = true := by rw [bne_iff_ne]; exact fun e => hm (.inl e)
 have q3 : (d.mode != 3) = true := by rw [bne_iff_ne]; exact fun e => hm (.inr e)
 clear h hd k hm e1 e2
 generalize d.mode = g at *
 go_enter Tryz.func129, Tryz.ntmps129
 go_wp2
 go_ret
 exact ⟨rfl, H.out⟩
set_option maxRecDepth 20000 in
set_option maxHeartbeats 1000000 in
theorem xget_on (h : XAt w B gD cap dn sv d) (hd : Dn d dn) (k : d.Ok) (hm : d.mode = 1 ∨ d.mode = 3) : Calls Tryz.prog 129 #[.pointer (some ⟨B, 0, none⟩)] w fun e w' => e = .returned (.int .u8 d.getV) ∧ XOk w B gD cap sv d.get w' := by
 have hdn : dn = d.don := hd (by omega)
 subst hdn
 have cg := h.cmo
 have cd := h.cdn
 have zd := h.fz 521
 have zg := h.fz 522
 have x1 := k.don
 obtain ⟨x, hx⟩ : ∃ x, x = d.don := ⟨_, rfl⟩
 have cb := h.cb x (by omega)
 have e1 : d.getV = d.buf x := by unfold Id.getV; rw [if_pos hm, hx]
 have eg : d.get = if x + 1 < 512 then { d with don := x + 1 } else if d.mode = 3 then { d with don := 0, mode := 0 } else ({ d with don := 0 } : Id).one := by unfold Id.get; rw [if_pos hm, hx]
 rw [← hx] at cd x1
 have HR : Hid (∀ n, XRaw ((w.setCell ⟨B, 521, none⟩ (.int .i64 ((x : Int) + 1))).drewN n) B gD cap d.n sv d.log d.D d.reg d.buf d.c ((x : Int) + 1) d.mode d.mark d.failed ∧ Kp (isB B) w ((w.setCell ⟨B, 521, none⟩ (.int .i64 ((x : Int) + 1))).drewN n)) := fun n => ⟨(h.raw.setdn _).keep (drewN_kp _ n), (kpB B _ _ _).trans (drewN_kp _ n).any⟩
 have hK : Hid d.Ok := k
 have HG : Hid (d.get = if x + 1 < 512 then { d with don := x + 1 } else if d.mode = 3 then { d with don := 0, mode := 0 } else ({ d with don := 0 } : Id).one) := eg
 have HM : Hid (d.mode = 1 ∨ d.mode = 3) := hm
 rw [e1]
 clear h hd k e1 eg hx
 generalize d.buf x = y at *
 rcases hm with hm | hm
 ·have EM : Hid (d.mode = 1) := hm
  rw [hm] at cg
  clear hm
  by_cases hf : x + 1 < 512
  ·have t1 : (((x : Int) + 1) == 512) = false := by rw [beq_eq_false_iff_ne]; omega
   have F : Hid (∀ n, XOk w B gD cap sv d.get ((w.setCell ⟨B, 521, none⟩ (.int .i64 ((x : Int) + 1))).drewN n)) := fun n => by
    rw [HG.out, if_pos hf]
    exact ⟨_, (HR.out n).1.id _ rfl rfl rfl (fun _ _ => rfl) rfl rfl rfl rfl rfl, fun _ => by show (x : Int) + 1 = ((x + 1 : Nat) : Int); omega, (HR.out n).2⟩
   clear HR HG hf
   go_enter Tryz.func129, Tryz.ntmps129
   go_wp2
   go_quiet (fail)
   go_wp2
   go_ret
   exact ⟨rfl, F.out _⟩
  ·have t1 : (((x : Int) + 1) == 512) = true := by rw [beq_iff_eq]; omega
   have t2 : (x : Int) + 1 = 512 := by omega
   have hK0 : Id.Ok { d with don := 0 } := { hK.out with don := by show 0 < 512; decide }
   have HO : Hid (∀ n, Calls Tryz.prog 156 #[.pointer (some ⟨B, 0, none⟩)] ((w.setCell ⟨B, 521, none⟩ (.int .i64 ((x : Int) + 1))).drewN n) _) := fun n => xone_ok (d := { d with don := 0 }) ((HR.out n).1.id _ rfl rfl rfl (fun _ _ => rfl) rfl rfl rfl rfl rfl) hK0 (.inl EM.out)
   have F : Hid (∀ n w2, XOk ((w.setCell ⟨B, 521, none⟩ (.int .i64 ((x : Int) + 1))).drewN n) B gD cap sv ({ d with don := 0 } : Id).one w2 → XOk w B gD cap sv d.get w2) := fun n w2 h => by
    rw [HG.out, if_neg hf, if_neg (by rw [EM.out]; decide)]
    obtain ⟨a, b, c, e⟩ := h
    exact ⟨a, b, c, (HR.out n).2.trans e⟩
   clear HR HG hf
   go_enter Tryz.func129, Tryz.ntmps129
   go_wp2
   go_quiet (fail)
   rw [t2] at HO F
   go_wp2_with fail
   refine Calls.mono (HO.out _) ?_; rintro e w2 ⟨rfl, h2⟩
   have H : Hid _ := F.out _ _ h2
   clear h2 HO F
   go_wp2
   go_ret
   exact ⟨rfl, H.out⟩
 ·have EM : Hid (d.mode = 3) := hm
  rw [hm] at cg
  clear hm
  by_cases hf : x + 1 < 512
  ·have t1 : (((x : Int) + 1) == 512) = false := by rw [beq_eq_false_iff_ne]; omega
   have F : Hid (∀ n, XOk w B gD cap sv d.get ((w.setCell ⟨B, 521, none⟩ (.int .i64 ((x : Int) + 1))).drewN n)) := fun n => by
    rw [HG.out, if_pos hf]
    exact ⟨_, (HR.out n).1.id _ rfl rfl rfl (fun _ _ => rfl) rfl rfl rfl rfl rfl, fun _ => by show (x : Int) + 1 = ((x + 1 : Nat) : Int); omega, (HR.out n).2⟩
   clear HR HG hf
   go_enter Tryz.func129, Tryz.ntmps129
   go_wp2
   go_quiet (fail)
   go_wp2
   go_ret
   exact ⟨rfl, F.out _⟩
  ·have t1 : (((x : Int) + 1) == 512) = true := by rw [beq_iff_eq]; omega
   have F : Hid (∀ n, XOk w B gD cap sv d.get (((w.setCell ⟨B, 521, none⟩ (.int .i64 ((x : Int) + 1))).drewN n).setCell ⟨B, 522, none⟩ (.int .i64 0))) := fun n => by
    rw [HG.out, if_neg hf, if_pos EM.out]
    exact ⟨_, ((HR.out n).1.setmo 0).id _ rfl rfl rfl (fun _ _ => rfl) rfl rfl rfl rfl rfl, Dn.none rfl, (HR.out n).2.trans (kpB B _ _ _)⟩
   have t2 : (x : Int) + 1 = 512 := by omega
   rw [t2] at F
   clear HR HG hf
   go_enter Tryz.func129, Tryz.ntmps129
   go_wp2
   go_quiet (fail)
   go_wp2
   go_ret
   exact ⟨rfl, F.out _⟩
theorem xget_ok (h : XAt w B gD cap dn sv d) (hd : Dn d dn) (k : d.Ok) : Calls Tryz.prog 129 #[.pointer (some ⟨B, 0, none⟩)] w fun e w' => e = .returned (.int .u8 d.getV) ∧ XOk w B gD cap sv d.get w' := by
 by_cases hm : d.mode = 1 ∨ d.mode = 3
 ·exact xget_on h hd k hm
 ·exact xget_idle h hd k hm
end
section
variable {w : World} {B gD cap : Nat} {dn : Int} {sv : Value} {d : Id}
theorem Kp.footX {w' : World} (h : Kp (isB B) w w') : Kp (footX B gD sv) w w' := h.mono fun k _ e => .inl e
theorem Kp.footD {w' : World} (h : Kp (isB gD) w w') : Kp (Go.Proofs.YtonfjhbfkichkaaGreat.Dk.footX B gD sv) w w' := h.mono fun k _ e => .inr (.inl e)
theorem XOk.out {w' : World} (h : XOk w B gD cap sv d w') : XOut w B gD cap sv d w' := by
 obtain ⟨dn', h1, hd, h2⟩ := h
 exact ⟨dn', sv, h1, hd, fun _ g => .inl g, h2.footX⟩
theorem XOut.then {w1 w2 : World} {sv1 : Value} {d' : Id} (hf : ∀ k, footX B gD sv1 k → footX B gD sv k ∨ w.heap.size ≤ k) (k1 : Kp (footX B gD sv) w w1) (h : XOut w1 B gD cap sv1 d' w2) : XOut w B gD cap sv d' w2 := by
 obtain ⟨dn', sv', h1, hd, h2, h3⟩ := h
 refine ⟨dn', sv', h1, hd, fun k g => ?_, k1.over h3 fun j hj g => ?_⟩
 ·rcases h2 k g with e | e
  ·exact hf k e
  ·exact .inr (Nat.le_trans k1.size e)
 ·rcases hf j g with e | e
  ·exact e
  ·omega
theorem xnote_ok (h : XAt w B gD cap dn sv d) (hs : d.log.length < 17592186044416) (p : Int) :
  ∃ p' n' c' w', (Builtin.append_ #[101, 101] 101 #[sv, .slice (some ⟨w.heap.size, 0, none⟩) 1 1]).run Tryz.prog (wI w p) = .ok (.slice p' n' c') w' ∧ w'.cell? ⟨B, 525, none⟩ = some sv ∧ w'.frozen? ⟨B, 525, none⟩ = false ∧
   XAt (w'.setCell ⟨B, 525, none⟩ (.slice p' n' c')) B gD cap dn (.slice p' n' c') { d with log := d.log ++ [p] } ∧ (∀ k, footX B gD (.slice p' n' c') k → footX B gD sv k ∨ w.heap.size ≤ k) ∧ Kp (footX B gD sv) w (w'.setCell ⟨B, 525, none⟩ (.slice p' n' c')) := by
 obtain ⟨v', w', hr, h2, h3, h4⟩ := appI h.log p hs
 obtain ⟨pa, ca, ev⟩ := h2.sl
 subst ev
 have hb := h.blk.kept h3 (fun e => h.raw.notB e rfl)
 have hd := h.row.kept h3 (fun e => h.raw.notL e rfl)
 refine ⟨pa, _, ca, w', hr, hb.cell 525 (by decide), hb.fz _, ?_, fun k g => ?_, ?_⟩
 ·have nB : ∀ g, (Value.slice pa (d.log ++ [p]).length ca).ownBlock = some g → ¬ isB B g := by
   rintro g e (rfl : g = B)
   obtain ⟨cur, g1⟩ := h2.lt e
   obtain ⟨c, g2, _⟩ := hb
   rw [g1] at g2
   simp at g2
  exact ⟨(hb.set 525 (by decide) _).of (fun i hi => xC_setsv _ i hi), hd.kept (kpB B _ _ _) h.raw.notD, h.le, h2.kept (kpB B _ _ _) nB⟩
 ·rcases g with g | g | g
  ·exact .inl (.inl g)
  ·exact .inl (.inr (.inl g))
  ·rcases h4 k g with e | e
   ·exact .inl (.inr (.inr e))
   ·exact .inr e
 ·exact (h3.mono fun k _ e => .inr (.inr e)).trans (kpB B _ _ _).footX
theorem xput_idle (h : XAt w B gD cap dn sv d) (hd : Dn d dn) (b : Int) (hm : d.mode ≠ 2) : Calls Tryz.prog 122 #[.pointer (some ⟨B, 0, none⟩), .int .u8 b] w fun e w' => e = .returned (.tuple #[]) ∧ XOut w B gD cap sv (d.put b) w' := by
 have cg := h.cmo
 have H : Hid (XOut w B gD cap sv (d.put b) w) := by
  show XOut _ _ _ _ _ _ _
  rw [put_idle d hm]
  exact XOk.out ⟨dn, h, hd, Kp.refl _ _⟩
 have q : (d.mode != 2) = true := by rw [bne_iff_ne]; exact hm
 generalize d.mode = g at *
 clear h hd hm
 go_enter Tryz.func122, Tryz.ntmps122
 go_wp2
 refine bodyPost_ret (results_none rfl _ _ _) rfl ?_
 exact ⟨rfl, H.out⟩
set_option maxRecDepth 20000 in
set_option maxHeartbeats 4000000 in
theorem xput_on (h : XAt w B gD cap dn sv d) (hd : Dn d dn) (k : d.Ok) (b : Int) (hb : byt b) (hm : d.mode = 2) (hs : d.log.length < 17592186044416) : Calls Tryz.prog 122 #[.pointer (some ⟨B, 0, none⟩), .int .u8 b] w fun e w' => e = .returned (.tuple #[]) ∧ XOut w B gD cap sv (d.put b) w' := by
 have hdn : dn = d.don := hd (by omega)
 subst hdn
 have cg := h.cmo
 rw [hm] at cg
 have cd := h.cdn
 have zd := h.fz 521
 have x1 := k.don
 obtain ⟨x, hx⟩ : ∃ x, x = d.don := ⟨_, rfl⟩
 have cb := h.cb x (by omega)
 have zb := h.fz (9 + x)
 rw [← hx] at cd x1
 have R2 : XRaw ((w.setCell ⟨B, 9 + x, none⟩ (.int .u8 b)).drew.setCell ⟨B, 521, none⟩ (.int .i64 ((x : Int) + 1))) B gD cap d.n sv d.log d.D d.reg (setB d.buf x b) d.c ((x : Int) + 1) 2 d.mark d.failed := by
  have := ((h.raw.setb x x1 b).keep (Kp.refl _ _).drew).setdn ((x : Int) + 1)
  rw [hm] at this
  exact this
 have K2 : Kp (isB B) w ((w.setCell ⟨B, 9 + x, none⟩ (.int .u8 b)).drew.setCell ⟨B, 521, none⟩ (.int .i64 ((x : Int) + 1))) := (kpB B _ _ _).drew.trans (kpB B _ _ _)
 obtain ⟨w2, hw2⟩ : ∃ w2, w2 = (w.setCell ⟨B, 9 + x, none⟩ (.int .u8 b)).drew.setCell ⟨B, 521, none⟩ (.int .i64 ((x : Int) + 1)) := ⟨_, rfl⟩
 rw [← hw2] at R2 K2
 have ep : d.put b = if x + 1 < 512 then { d with buf := setB d.buf x b, don := x + 1 } else if d.there = true then { (({ d with buf := setB d.buf x b, don := 0 } : Id).lay.one) with mark := true } else ({ d with buf := setB d.buf x b, don := 0 } : Id).fail 16 := by unfold Id.put; rw [if_pos hm, ← hx]
 have e2 : (w.setCell ⟨B, 9 + x, none⟩ (.int .u8 b)).drew.setCell ⟨B, 521, none⟩ (.int .i64 ((x : Int) + 1)) = ((w.setCell ⟨B, 9 + x, none⟩ (.int .u8 b)).setCell ⟨B, 521, none⟩ (.int .i64 ((x : Int) + 1))).drew := rfl
 rw [e2] at hw2
 generalize d.buf x = y9 at cb
 by_cases hf : x + 1 < 512
 ·have H : Hid (XOut w B gD cap sv (d.put b) w2) := by
   show XOut _ _ _ _ _ _ _
   rw [ep, if_pos hf]
   exact XOk.out ⟨_, R2.id _ rfl rfl rfl (fun _ _ => rfl) rfl rfl hm.symm rfl rfl, fun _ => by show (x : Int) + 1 = ((x + 1 : Nat) : Int); omega, K2⟩
  rw [hw2] at H
  have t1 : (x : Int) + 1 < 512 := by omega
  clear h hd k hb hm hs hx R2 K2 hw2 ep e2 hf
  go_enter Tryz.func122, Tryz.ntmps122
  go_wp2
  go_region
  go_wp2
  refine bodyPost_ret (results_none rfl _ _ _) rfl ?_
  exact ⟨rfl, H.out⟩
 ·have x511 : x = 511 := by omega
  have h5 : XAt w2 B gD cap 512 sv { d with buf := setB d.buf x b, don := 0 } := by
   have := R2.id (d := { d with buf := setB d.buf x b, don := 0 }) rfl rfl rfl (fun _ _ => rfl) rfl rfl hm.symm rfl rfl
   rw [show (x : Int) + 1 = 512 by omega] at this
   exact this
  have k5 : Id.Ok { d with buf := setB d.buf x b, don := 0 } := k.setB hb x (n := 0) (by decide)
  have HT : Hid _ := xthere_any h5 k5
  have et : ({ d with buf := setB d.buf x b, don := 0 } : Id).there = d.there := rfl
  rw [et] at HT
  have K2' : Hid (Kp (isB B) w w2) := K2
  have t2 : ¬ (x : Int) + 1 < 512 := by omega
  have t3 : decide ((x : Int) + 1 < 512) = false := by simp; omega
  rw [if_neg hf] at ep
  cases ht : d.there
  ·rw [ht] at ep HT
   rw [if_neg (by decide)] at ep
   have EP : Hid _ := ep
   have H5 : Hid _ := h5
   rw [hw2] at HT
   have W2 : Hid (w2 = ((w.setCell ⟨B, 9 + x, none⟩ (.int .u8 b)).setCell ⟨B, 521, none⟩ (.int .i64 ((x : Int) + 1))).drew) := hw2
   clear h hd k hb hm hs hx R2 K2 ep e2 hf h5 k5 et ht x511 hw2
   go_enter Tryz.func122, Tryz.ntmps122
   go_wp2
   go_region
   go_wp2_with fail
   refine Calls.mono HT.out ?_; rintro e w3 ⟨rfl, k3⟩
   rw [← W2.out] at k3
   have HF : Hid _ := xfail_ok (H5.out.keep k3) 16
   have K3 : Hid (Kp noB w2 w3) := k3
   clear k3 HT H5
   go_wp2_with fail
   refine Calls.mono HF.out ?_; rintro e w4 ⟨rfl, dn4, h4, d4, k4⟩
   have H : Hid (XOut w B gD cap sv (d.put b) w4) := by
    show XOut _ _ _ _ _ _ _
    rw [EP.out]
    exact XOk.out ⟨dn4, h4, d4, (K2'.out.trans K3.out.any).trans k4⟩
   clear h4 d4 k4 HF
   go_wp2
   refine bodyPost_ret (results_none rfl _ _ _) rfl ?_
   exact ⟨rfl, H.out⟩
  ·rw [ht] at ep HT
   rw [if_pos rfl] at ep
   have EP : Hid _ := ep
   obtain ⟨a1, a2, a3⟩ := at_lt k ht
   have a4 := k.at ht
   obtain ⟨A, hA⟩ : ∃ A, A = d.at := ⟨_, rfl⟩
   rw [← hA] at a2 a3 a4
   obtain ⟨bf, hbf⟩ : ∃ bf, bf = setB d.buf x b := ⟨_, rfl⟩
   rw [← hbf] at h5 k5 EP
   have hK5 : Hid (Id.Ok { d with buf := bf, don := 0 }) := k5
   have hT5 : Hid (({ d with buf := bf, don := 0 } : Id).there = true) := ht
   have hM5 : Hid (d.mode = 2) := hm
   have hL : Hid (d.log.length < 17592186044416) := hs
   have hAt : Hid (A = d.at) := hA
   have H5 : Hid (XAt w2 B gD cap 512 sv { d with buf := bf, don := 0 }) := h5
   have ppl := k.place
   rw [hw2] at HT
   have W2 : Hid (w2 = ((w.setCell ⟨B, 9 + x, none⟩ (.int .u8 b)).setCell ⟨B, 521, none⟩ (.int .i64 ((x : Int) + 1))).drew) := hw2
   have w64 : IntKind.i64.wrap (d.place * 512) = d.place * 512 := by rw [IntKind.wrap_i64]; omega
   clear h hd k hb hm hs hx R2 K2 ep e2 hf h5 k5 et ht x511 hw2 hA hbf
   go_enter Tryz.func122, Tryz.ntmps122
   go_wp2
   go_region
   go_wp2_with fail
   refine Calls.mono HT.out ?_; rintro e w3 ⟨rfl, k3⟩
   rw [← W2.out] at k3
   have h3 := H5.out.keep k3
   have K3 : Hid (Kp (isB B) w w3) := K2'.out.trans k3.any
   have HP : Hid _ := xplace_any h3 hK5.out
   have ep2 : ({ d with buf := bf, don := 0 } : Id).place = d.place := rfl
   rw [ep2] at HP
   have H3 : Hid (XAt w3 B gD cap 512 sv { d with buf := bf, don := 0 }) := h3
   clear k3 HT H5 h3 ep2 W2 K2' cg cd zd cb zb
   go_wp2_with fail
   refine Calls.mono HP.out ?_; rintro e w4 ⟨rfl, m, rfl⟩
   have P4 : Hid (XRaw (w3.drewN m) B gD cap d.n sv d.log (layB d.D A 0 bf) d.reg bf d.c 512 d.mode d.mark d.failed ∧ Kp (Go.Proofs.YtonfjhbfkichkaaGreat.Dk.footX B gD sv) w (w3.drewN m)) := by
    refine ⟨?_, (K3.out.trans (drewN_kp _ m).any).footX⟩
    have e0 : layB d.D A 0 bf = d.D := by
     funext j
     unfold layB
     rw [if_neg (by omega)]
    rw [e0]
    exact (H3.out.keep (drewN_kp _ m)).raw
   clear HP H3 K3
   generalize hpp : d.place = P at *
   have HPP : Hid (d.place = P) := hpp
   clear hpp
   go_wp2
   generalize w3.drewN m = w4 at *
   go_loopw [6] (fun s6 wr => ∃ i : Nat, i ≤ 512 ∧ s6 = .int .i64 i ∧ XRaw wr B gD cap d.n sv d.log (layB d.D A i bf) d.reg bf d.c 512 d.mode d.mark d.failed ∧ Kp (Go.Proofs.YtonfjhbfkichkaaGreat.Dk.footX B gD sv) w wr) (fun s6 _ => 512 - (intOf s6).toNat)
   case atStart => exact ⟨0, by omega, rfl, P4.out.1, P4.out.2⟩
   case round =>
    clear P4
    obtain ⟨i, hi, rfl, hr, kr⟩ := hrel
    by_cases hlt : i < 512
    ·have c0 : wr.cell? ⟨B, 0, none⟩ = some (.slice (some ⟨gD, 0, none⟩) (512 * d.n) cap) := hr.blk.cell 0 (by decide)
     obtain ⟨z, hz⟩ : ∃ z, z = A + i := ⟨_, rfl⟩
     have cz : wr.cell? ⟨gD, z, none⟩ = some (.int .u8 (layB d.D A i bf z)) ∧ wr.frozen? ⟨gD, z, none⟩ = false := by
      obtain ⟨cur, h1, h2, h3⟩ := hr.row
      rw [cell_at h1]
      exact ⟨h3 z (by omega), frozen_at h1⟩
     obtain ⟨cz, fz⟩ := cz
     have cb := hr.blk.cell (9 + i) (by omega)
     rw [xC_b hlt] at cb
     have g1 : P * 512 + (i : Int) = (z : Int) := by omega
     have g3 : (z : Int) < ((512 * d.n : Nat) : Int) := by omega
     have g4 : z < 512 * d.n := by omega
     have g5 : IntKind.i64.wrap (z : Int) = z := by rw [IntKind.wrap_i64]; omega
     have g6 : wrap64 (z : Int) = z := IntWalk.wrap64_in _ ⟨by omega, by omega⟩
     have H : Hid (XRaw (wr.setCell ⟨gD, z, none⟩ (.int .u8 (bf i))).drew B gD cap d.n sv d.log (layB d.D A (i + 1) bf) d.reg bf d.c 512 d.mode d.mark d.failed ∧ Kp (Go.Proofs.YtonfjhbfkichkaaGreat.Dk.footX B gD sv) w (wr.setCell ⟨gD, z, none⟩ (.int .u8 (bf i))).drew) := by
      have e0 : setB (layB d.D A i bf) z (bf i) = layB d.D A (i + 1) bf := by
       funext j
       unfold setB layB
       by_cases q : j = z
       ·rw [if_pos q, if_pos (by omega), show j - A = i by omega]
       ·rw [if_neg q]
        by_cases q2 : A ≤ j ∧ j < A + i
        ·rw [if_pos q2, if_pos (by omega)]
        ·rw [if_neg q2, if_neg (by omega)]
      have := (hr.setD z (bf i)).keep (Kp.refl _ _).drew
      rw [e0] at this
      exact ⟨this, (kr.trans (kpB gD _ _ _).footD).drew⟩
     clear hr kr hz a1 a2 a3 a4 w64 ppl
     obtain ⟨N, hN⟩ : ∃ N, N = 512 * d.n := ⟨_, rfl⟩
     rw [← hN] at c0 g3 g4
     clear hN
     generalize bf i = y at *
     generalize layB d.D A i bf z = y9 at cz
     go_wp2
     go_region
     go_wp2
     go_roundw
     case rel => exact ⟨i + 1, by omega, by go_num, H.out.1, H.out.2⟩
     case measure => simp [intOf]; omega
    ·have e : i = 512 := by omega
     subst e
     have h6 : XAt wr B gD cap 512 sv { d with buf := bf, don := 0, D := ({ d with buf := bf, don := 0 } : Id).lay.D } := by
      refine hr.id _ rfl ?_ rfl (fun _ _ => rfl) rfl rfl rfl rfl rfl
      rw [hAt.out]
      rfl
     have H6 : Hid (XAt wr.drew B gD cap 512 sv { d with buf := bf, don := 0, D := ({ d with buf := bf, don := 0 } : Id).lay.D }) := h6.keep (Kp.refl _ _).drew
     have K6 : Hid (Kp (Go.Proofs.YtonfjhbfkichkaaGreat.Dk.footX B gD sv) w wr) := kr
     have hk6 : Id.Ok { d with buf := bf, don := 0, D := ({ d with buf := bf, don := 0 } : Id).lay.D } := { hK5.out with D := (hK5.out.lay hT5.out).D }
     have HP : Hid (Calls Tryz.prog 155 #[.pointer (some ⟨B, 0, none⟩)] wr.drew fun e w' => e = .returned (.int .i64 P) ∧ ∃ n, w' = wr.drew.drewN n) := by
      have := xplace_any H6.out hk6
      have e9 : ({ d with buf := bf, don := 0, D := ({ d with buf := bf, don := 0 } : Id).lay.D } : Id).place = P := HPP.out
      rw [e9] at this
      exact this
     have HN : Hid (∀ W, Kp noB wr.drew W → _) := fun W kW => xnote_ok (H6.out.keep kW) hL.out P
     have c1 : wr.drew.cell? ⟨B, 525, none⟩ = some sv := H6.out.csv
     have HG : Hid (∀ W dn' sv', XAt W B gD cap dn' sv' ({ d with buf := bf, don := 0 } : Id).lay → _) := fun W dn' sv' hW => xone_ok hW (hK5.out.lay hT5.out) (.inr hM5.out)
     have EL : Hid (({ d with buf := bf, don := 0, D := ({ d with buf := bf, don := 0 } : Id).lay.D, log := d.log ++ [P] } : Id) = ({ d with buf := bf, don := 0 } : Id).lay) := by
      show _ = _
      rw [← HPP.out]
      rfl
     clear hr kr h6 hk6 a1 a2 a3 a4 w64 ppl hAt HPP
     go_wp2
     go_region_law (first
      | (refine step_enter rfl (by kernel_rfl) HP.out ?_
         rintro e w7 ⟨rfl, n7, rfl⟩
         refine ⟨_, rfl, ?_⟩
         have c3 : (wr.drew.drewN n7).cell? ⟨B, 525, none⟩ = some sv := (H6.out.keep (drewN_kp _ n7)).csv
         have c4 : ∀ o, ((wr.drew.drewN n7).alloc o).cell? ⟨B, 525, none⟩ = some sv := fun o => (H6.out.keep ((drewN_kp _ n7).trans (Kp.alloc noB _ _))).csv
         have K7 : Hid (Kp noB wr.drew (wr.drew.drewN n7)) := drewN_kp _ n7
         generalize wr.drew.drewN n7 = w7 at *)
      | (obtain ⟨p', n', c', w8, hr, q1, q2, q3, q4, q5⟩ := HN.out _ (Hid.out (by assumption : Hid (Kp noB wr.drew _)))
         have Q3 : Hid _ := And.intro q3 (And.intro q4 q5)
         refine step_appI rfl _ _ rfl rfl rfl rfl hr ?_
         clear hr q3 q4 q5))
     all_goals
      obtain ⟨q3, q4, q5⟩ := Q3.out
      clear Q3
      generalize (w8.setCell ⟨B, 525, none⟩ (.slice p' n' c')) = w9 at q3 q5 ⊢
      have h9 : XAt w9 B gD cap 512 (.slice p' n' c') ({ d with buf := bf, don := 0 } : Id).lay := by
       rw [← EL.out]
       exact q3
      have k7 : Kp (Go.Proofs.YtonfjhbfkichkaaGreat.Dk.footX B gD sv) w w7 := (K6.out.drew).trans (K7.out.any)
      have k9 : Kp (Go.Proofs.YtonfjhbfkichkaaGreat.Dk.footX B gD sv) w w9 := k7.trans q5
      have f9 : ∀ k, Go.Proofs.YtonfjhbfkichkaaGreat.Dk.footX B gD (.slice p' n' c') k → Go.Proofs.YtonfjhbfkichkaaGreat.Dk.footX B gD sv k ∨ w.heap.size ≤ k := fun k g => by
       rcases q4 k g with e | e
       ·exact .inl e
       ·exact .inr (Nat.le_trans k7.size e)
      have HG' : Hid _ := HG.out _ _ _ h9
      have F9 : Hid ((∀ k, Go.Proofs.YtonfjhbfkichkaaGreat.Dk.footX B gD (.slice p' n' c') k → Go.Proofs.YtonfjhbfkichkaaGreat.Dk.footX B gD sv k ∨ w.heap.size ≤ k) ∧ Kp (Go.Proofs.YtonfjhbfkichkaaGreat.Dk.footX B gD sv) w w9) := ⟨f9, k9⟩
      clear q3 q4 q5 h9 k7 k9 f9 HG HN HP H6 q1 q2 K7 K6 c1 EL
      go_wp2_with fail
      refine Calls.mono HG'.out ?_; rintro e wA ⟨rfl, dnA, hA, dA, kA⟩
      have cm := hA.cmk
      have zA := hA.fz 523
      have H : Hid (XOut w B gD cap sv (d.put b) (wA.setCell ⟨B, 523, none⟩ (.bool true))) := by
       show XOut _ _ _ _ _ _ _
       rw [EP.out]
       exact XOut.then F9.out.1 F9.out.2 ⟨dnA, _, (hA.raw.setmk true).id _ rfl rfl rfl (fun _ _ => rfl) rfl rfl rfl rfl rfl, dA, fun _ g => .inl g, (kA.trans (kpB B _ _ _)).footX⟩
      clear hA kA dA HG' F9
      go_wp2
      go_end0
      exact ⟨rfl, H.out⟩
theorem xput_ok (h : XAt w B gD cap dn sv d) (hd : Dn d dn) (k : d.Ok) (b : Int) (hb : byt b) (hs : d.log.length < 17592186044416) : Calls Tryz.prog 122 #[.pointer (some ⟨B, 0, none⟩), .int .u8 b] w fun e w' => e = .returned (.tuple #[]) ∧ XOut w B gD cap sv (d.put b) w' := by
 by_cases hm : d.mode = 2
 ·exact xput_on h hd k b hb hm hs
 ·exact xput_idle h hd b hm
end
theorem next_off (d : Id) : d.next.off = d.off := by
 show ((d.r6 - d.r6 % 16 + (d.place + 1) / 16777216 % 16) / 16 % 2 == 1) = (d.r6 / 16 % 2 == 1)
 have e : (d.r6 - d.r6 % 16 + (d.place + 1) / 16777216 % 16) / 16 = d.r6 / 16 := by omega
 rw [e]
theorem begin_off (d : Id) (m : Int) : (d.begin m).off = d.off := by
 unfold Id.begin
 repeat' split
 all_goals rfl
theorem one_off (d : Id) : d.one.off = d.off := by
 unfold Id.one
 split
 ·exact next_off d
 ·rw [begin_off, next_off]
theorem put_off (d : Id) (b : Int) : (d.put b).off = d.off := by
 unfold Id.put
 split
 ·split
  ·rfl
  ·split
   ·exact one_off _
   ·rfl
 ·rfl
theorem puts_off (d : Id) (v : Int) : ∀ k, (d.puts v k).off = d.off
 | 0 => rfl
 | k + 1 => (put_off _ _).trans (puts_off d v k)
theorem puts_work {d : Id} (k : d.Ok) (v : Int) (n : Nat) : (d.puts v n).work ≤ d.work + n := by
 rw [← putL_puts]
 have := putL_work (bytL v n) d k (bytL_byt v n)
 rwa [bytL_len] at this
section
variable {w : World} {B gD cap : Nat} {dn : Int} {sv : Value} {d : Id}
theorem XOut.refl (h : XAt w B gD cap dn sv d) (hd : Dn d dn) : XOut w B gD cap sv d w := XOk.out ⟨dn, h, hd, Kp.refl _ _⟩
theorem xout_no (w : World) (x : Option Addr) (reg size v : Int) (v0 : 0 ≤ v) (v1 : v < 4294967296) (h : ck reg size ≠ 0) : Calls Tryz.prog 79 #[.pointer x, .int .i64 reg, .int .i64 size, .int .u32 v] w fun e w' => e = .returned (.int .i64 (ck reg size)) ∧ w' = w := by
 by_cases a : reg < 0
 ·have e : ck reg size = 1 := by unfold ck; rw [if_pos (.inl a)]
  rw [e]
  clear h e
  go_enter Tryz.func79, Tryz.ntmps79
  go_wp2
  go_ret
  exact ⟨rfl, rfl⟩
 ·by_cases b : 8 < reg
  ·have e : ck reg size = 1 := by unfold ck; rw [if_pos (.inr (by omega))]
   rw [e]
   clear h e
   go_enter Tryz.func79, Tryz.ntmps79
   go_wp2
   go_ret
   exact ⟨rfl, rfl⟩
  ·have g : reg = 0 ∧ size ≠ 1 ∧ size ≠ 2 ∧ size ≠ 4 := by
    refine Decidable.byContradiction fun g => h ?_
    unfold ck
    rw [if_neg (by omega), if_neg g]
   obtain ⟨rfl, s1, s2, s4⟩ := g
   have e : ck 0 size = 2 := by unfold ck; rw [if_neg (by omega), if_pos ⟨rfl, s1, s2, s4⟩]
   rw [e]
   have q1 : (size != 1) = true := by rw [bne_iff_ne]; exact s1
   have q2 : (size != 2) = true := by rw [bne_iff_ne]; exact s2
   have q4 : (size != 4) = true := by rw [bne_iff_ne]; exact s4
   clear h e a b
   go_enter Tryz.func79, Tryz.ntmps79
   go_wp2
   go_ret
   exact ⟨rfl, rfl⟩
theorem xout_set (h : XAt w B gD cap dn sv d) (hd : Dn d dn) (reg size v : Int) (j : Nat) (hj : reg = j) (j2 : 2 ≤ j) (j6 : j ≤ 6) (v0 : 0 ≤ v) (v1 : v < 4294967296) (d' : Id) (hr : d'.reg = setB d.reg j (v % 256)) (e1 : d'.log = d.log) (e2 : d'.D = d.D) (e3 : d'.n = d.n) (e4 : d'.buf = d.buf) (e5 : d'.mode = d.mode) (e6 : d'.mark = d.mark) (e7 : d'.don = d.don) (e8 : d'.failed = d.failed) (e9 : d'.c = d.c) :
  Calls Tryz.prog 79 #[.pointer (some ⟨B, 0, none⟩), .int .i64 reg, .int .i64 size, .int .u32 v] w fun e w' => e = .returned (.int .i64 0) ∧ XOut w B gD cap sv d' w' := by
 have H : Hid (XOut w B gD cap sv d' (w.setCell ⟨B, 1 + j, none⟩ (.int .u8 (v % 256)))) := by
  refine XOk.out ⟨dn, (h.raw.setR j (by omega) _ rfl (v % 256)).id d' e1.symm e2.symm e3.symm (fun i _ => by rw [hr]) e4.symm e9.symm e5.symm e6.symm e8.symm, ?_, kpB B _ _ _⟩
  intro q
  rw [e7]
  exact hd (by rw [← e5]; exact q)
 have cc := h.cr j (by omega)
 have zz := h.fz (1 + j)
 clear h hd hr e1 e2 e3 e4 e5 e6 e7 e8 e9
 subst hj
 rcases (by omega : j = 2 ∨ j = 3 ∨ j = 4 ∨ j = 5 ∨ j = 6) with rfl | rfl | rfl | rfl | rfl
 all_goals
  simp only [Nat.reduceAdd] at H cc zz
  go_enter Tryz.func79, Tryz.ntmps79
  go_wp2
  go_ret
  exact ⟨rfl, H.out⟩
theorem xout_1 (h : XAt w B gD cap dn sv d) (hd : Dn d dn) (size v : Int) (v0 : 0 ≤ v) (v1 : v < 4294967296) : Calls Tryz.prog 79 #[.pointer (some ⟨B, 0, none⟩), .int .i64 1, .int .i64 size, .int .u32 v] w fun e w' => e = .returned (.int .i64 0) ∧ XOut w B gD cap sv d w' := by
 have H : Hid (XOut w B gD cap sv d w) := XOut.refl h hd
 clear h hd
 go_enter Tryz.func79, Tryz.ntmps79
 go_wp2
 go_ret
 exact ⟨rfl, H.out⟩
theorem xout_7 (h : XAt w B gD cap dn sv d) (hd : Dn d dn) (k : d.Ok) (size v : Int) (v0 : 0 ≤ v) (v1 : v < 4294967296) : Calls Tryz.prog 79 #[.pointer (some ⟨B, 0, none⟩), .int .i64 7, .int .i64 size, .int .u32 v] w fun e w' => e = .returned (.int .i64 0) ∧ XOut w B gD cap sv (d.command (v % 256)) w' := by
 have HM : Hid _ := xcommand_ok h hd k (v % 256) byt_m
 clear h hd k
 go_enter Tryz.func79, Tryz.ntmps79
 go_wp2_with fail
 refine Calls.mono HM.out ?_; rintro e w2 ⟨rfl, h2⟩
 have H : Hid (XOut w B gD cap sv (d.command (v % 256)) w2) := h2.out
 clear h2 HM
 go_wp2
 go_ret
 exact ⟨rfl, H.out⟩
theorem xout_8 (h : XAt w B gD cap dn sv d) (hd : Dn d dn) (k : d.Ok) (size v : Int) (v0 : 0 ≤ v) (v1 : v < 4294967296) : Calls Tryz.prog 79 #[.pointer (some ⟨B, 0, none⟩), .int .i64 8, .int .i64 size, .int .u32 v] w fun e w' => e = .returned (.int .i64 0) ∧ XOut w B gD cap sv (d.ctl (v % 256)) w' := by
 have h2 : XAt (w.setCell ⟨B, 8, none⟩ (.int .u8 (v % 256))) B gD cap dn sv { d with c := v % 256 } := (h.raw.setc (v % 256)).id _ rfl rfl rfl (fun j hj => by rcases (by omega : j = 0 ∨ j = 1 ∨ j = 2 ∨ j = 3 ∨ j = 4 ∨ j = 5 ∨ j = 6) with rfl | rfl | rfl | rfl | rfl | rfl | rfl <;> rfl) rfl rfl rfl rfl rfl
 have k2 : Kp (isB B) w (w.setCell ⟨B, 8, none⟩ (.int .u8 (v % 256))) := kpB B _ _ _
 have HM : Hid _ := xfresh_ok h2
 have c8 := h.cc
 have z8 := h.fz 8
 have K2 : Hid _ := k2
 have y0 : 0 ≤ v % 256 ∧ v % 256 < 256 := ⟨by omega, by omega⟩
 obtain ⟨y0, y1⟩ := y0
 by_cases q : v % 256 / 4 % 2 = 1
 ·have e : d.ctl (v % 256) = ({ d with c := v % 256 } : Id).fresh := by unfold Id.ctl; rw [if_pos q]
  rw [e]
  clear h hd k h2 k2 e
  go_enter Tryz.func79, Tryz.ntmps79
  go_wp2_with fail
  refine Calls.mono HM.out ?_; rintro e w2 ⟨rfl, dn', g1, g2, g3⟩
  have H : Hid (XOut w B gD cap sv ({ d with c := v % 256 } : Id).fresh w2) := XOk.out ⟨dn', g1, g2, K2.out.trans g3⟩
  clear g1 g2 g3 HM
  go_wp2
  go_ret
  exact ⟨rfl, H.out⟩
 ·have e : d.ctl (v % 256) = { d with c := v % 256 } := by unfold Id.ctl; rw [if_neg q]
  have H : Hid (XOut w B gD cap sv (d.ctl (v % 256)) (w.setCell ⟨B, 8, none⟩ (.int .u8 (v % 256)))) := by
   show XOut _ _ _ _ _ _ _
   rw [e]
   exact XOk.out ⟨dn, h2, hd, k2⟩
  clear h hd k h2 k2 e HM K2
  go_enter Tryz.func79, Tryz.ntmps79
  go_wp2
  go_ret
  exact ⟨rfl, H.out⟩
theorem xline_ok (h : XAt w B gD cap dn sv d) (k : d.Ok) : Calls Tryz.prog 78 #[.pointer (some ⟨B, 0, none⟩)] w fun e w' => e = .returned (.bool d.line) ∧ w' = w := by
 have cm := h.cmk
 have c8 := h.cc
 obtain ⟨c0, c1⟩ := k.c
 clear h k
 unfold Id.line
 generalize d.c = c at *
 cases q : d.mark
 ·rw [q] at cm
  clear q
  go_enter Tryz.func78, Tryz.ntmps78
  go_wp2
  go_ret
  exact ⟨rfl, rfl⟩
 ·rw [q] at cm
  clear q
  have e : (true && !(c / 2 % 2 == 1)) = (c / 2 % 2 == 0) := by
   rcases (by omega : c / 2 % 2 = 0 ∨ c / 2 % 2 = 1) with a | a <;> rw [a] <;> rfl
  rw [e]
  clear e
  go_enter Tryz.func78, Tryz.ntmps78
  go_wp2
  go_ret
  exact ⟨rfl, rfl⟩
theorem xwritten_ok (h : XAt w B gD cap dn sv d) : Calls Tryz.prog 48 #[.pointer (some ⟨B, 0, none⟩)] w fun e w' => e = .returned sv ∧ XAt w' B gD cap dn (.slice none 0 0) d.told ∧ Kp (isB B) w w' := by
 have cs := h.csv
 have zs := h.fz 525
 have H : Hid (XAt (w.setCell ⟨B, 525, none⟩ (.slice none 0 0)) B gD cap dn (.slice none 0 0) d.told) := (h.raw.setsv _ [] (OwnI.nil w)).id _ rfl rfl rfl (fun _ _ => rfl) rfl rfl rfl rfl rfl
 obtain ⟨p, c, es⟩ := h.log.sl
 subst es
 generalize d.log.length = n at *
 clear h
 go_enter Tryz.func48, Tryz.ntmps48
 go_wp2
 go_ret
 exact ⟨rfl, H.out, kpB B _ _ _⟩
end
section
variable {w : World} {B gD cap : Nat} {dn : Int} {sv : Value} {d : Id}
theorem xout_0off (h : XAt w B gD cap dn sv d) (hd : Dn d dn) (k : d.Ok) (ho : d.off = true) (s : Nat) (hs : s = 1 ∨ s = 2 ∨ s = 4) (v : Int) (v0 : 0 ≤ v) (v1 : v < 4294967296) : Calls Tryz.prog 79 #[.pointer (some ⟨B, 0, none⟩), .int .i64 0, .int .i64 s, .int .u32 v] w fun e w' => e = .returned (.int .i64 0) ∧ XOut w B gD cap sv d w' := by
 have H : Hid (XOut w B gD cap sv d w) := XOut.refl h hd
 have c6 := h.r6
 have q0 : (d.r6 / 16 % 2 == 1) = true := ho
 have q1 : d.r6 / 16 % 2 = 1 := by simpa using q0
 have q2 : (d.r6 / 16 % 2 == 0) = false := by rw [q1]; rfl
 obtain ⟨b0, b1⟩ := k.r6
 clear h hd k ho q0
 generalize d.r6 = r at *
 rcases hs with rfl | rfl | rfl
 all_goals
  go_enter Tryz.func79, Tryz.ntmps79
  go_wp2
  go_loopw [10] (fun s10 wr => s10 = .int .i64 0 ∧ wr = w) (fun s10 _ => 0)
  case atStart => exact ⟨rfl, rfl⟩
  case round =>
   obtain ⟨rfl, rfl⟩ := hrel
   go_wp2
   go_ret
   exact ⟨rfl, H.out⟩
theorem xout_0on (h : XAt w B gD cap dn sv d) (hd : Dn d dn) (k : d.Ok) (ho : d.off = false) (s : Nat) (hs : s = 1 ∨ s = 2 ∨ s = 4) (v : Int) (v0 : 0 ≤ v) (v1 : v < 4294967296) (hw : d.work + 4 < 9007199254740992) : Calls Tryz.prog 79 #[.pointer (some ⟨B, 0, none⟩), .int .i64 0, .int .i64 s, .int .u32 v] w fun e w' => e = .returned (.int .i64 0) ∧ XOut w B gD cap sv (d.puts v s) w' := by
 have H0 : Hid (XOut w B gD cap sv (d.puts v 0) w) := XOut.refl h hd
 have HK : Hid d.Ok := k
 have HO : Hid (d.off = false) := ho
 have HW : Hid (d.work + 4 < 9007199254740992) := hw
 clear h hd k ho hw
 have hs' : s ≤ 4 := by omega
 obtain ⟨S, hS⟩ : ∃ S : Int, S = s := ⟨_, rfl⟩
 rw [← hS]
 have q1 : S = 1 ∨ S = 2 ∨ S = 4 := by omega
 have FIN : Hid (∀ w', XOut w B gD cap sv (d.puts v S.toNat) w' → XOut w B gD cap sv (d.puts v s) w') := by
  intro w' g
  rw [hS, Int.toNat_natCast] at g
  exact g
 clear hs hs' hS
 rcases q1 with rfl | rfl | rfl
 ·go_enter Tryz.func79, Tryz.ntmps79
  go_wp2
  go_loopw [10] (fun s10 wr => ∃ i : Nat, (i : Int) ≤ 1 ∧ s10 = .int .i64 i ∧ XOut w B gD cap sv (d.puts v i) wr) (fun s10 _ => 4 - (intOf s10).toNat)
  case atStart => exact ⟨0, by omega, rfl, H0.out⟩
  case round =>
   clear H0
   obtain ⟨i, hi, rfl, hr⟩ := hrel
   by_cases hlt : (i : Int) < 1
   ·obtain ⟨dn1, sv1, x1, x2, x3, x4⟩ := hr
    have c6 := x1.r6
    have ko : ((d.puts v i).r6 / 16 % 2 == 1) = false := (puts_off d v i).trans HO.out
    have k1 := HK.out.puts v i
    obtain ⟨b0, b1⟩ := k1.r6
    have q3 : ¬ (d.puts v i).r6 / 16 % 2 = 1 := by simpa using ko
    have q4 : (d.puts v i).r6 / 16 % 2 = 0 := by omega
    have HP : Hid _ := xput_ok x1 x2 k1 (v / 2 ^ (8 * i) % 256) byt_m (by
     have a := puts_work HK.out v i
     have b := work_log (d.puts v i)
     have c := HW.out
     omega)
    have X : Hid (∀ w2, XOut wr B gD cap sv1 ((d.puts v i).put (v / 2 ^ (8 * i) % 256)) w2 → XOut w B gD cap sv (d.puts v (i + 1)) w2) := fun w2 g => XOut.then x3 x4 g
    clear x1 x2 x3 x4 k1 ko q3
    generalize (d.puts v i).r6 = r at *
    rcases (by omega : i = 0 ∨ i = 1 ∨ i = 2 ∨ i = 3) with rfl | rfl | rfl | rfl
    all_goals first
     | (exfalso; omega)
     | (simp only [Nat.reduceMul, Int.reducePow, Int.ediv_one, Int.cast_ofNat_Int] at HP X ⊢
        go_wp2_with fail
        refine Calls.mono HP.out ?_; rintro e w2 ⟨rfl, h2⟩
        have H : Hid _ := X.out _ h2
        clear h2 X HP c6
        go_wp2
        go_roundw
        case rel => exact ⟨_, by omega, by go_num, H.out⟩
        case measure => simp [intOf])
   ·have e : i = 1 := by omega
    subst e
    have H : Hid _ := FIN.out _ hr
    clear hr FIN
    go_wp2
    go_ret
    exact ⟨rfl, H.out⟩
 ·go_enter Tryz.func79, Tryz.ntmps79
  go_wp2
  go_loopw [10] (fun s10 wr => ∃ i : Nat, (i : Int) ≤ 2 ∧ s10 = .int .i64 i ∧ XOut w B gD cap sv (d.puts v i) wr) (fun s10 _ => 4 - (intOf s10).toNat)
  case atStart => exact ⟨0, by omega, rfl, H0.out⟩
  case round =>
   clear H0
   obtain ⟨i, hi, rfl, hr⟩ := hrel
   by_cases hlt : (i : Int) < 2
   ·obtain ⟨dn1, sv1, x1, x2, x3, x4⟩ := hr
    have c6 := x1.r6
    have ko : ((d.puts v i).r6 / 16 % 2 == 1) = false := (puts_off d v i).trans HO.out
    have k1 := HK.out.puts v i
    obtain ⟨b0, b1⟩ := k1.r6
    have q3 : ¬ (d.puts v i).r6 / 16 % 2 = 1 := by simpa using ko
    have q4 : (d.puts v i).r6 / 16 % 2 = 0 := by omega
    have HP : Hid _ := xput_ok x1 x2 k1 (v / 2 ^ (8 * i) % 256) byt_m (by
     have a := puts_work HK.out v i
     have b := work_log (d.puts v i)
     have c := HW.out
     omega)
    have X : Hid (∀ w2, XOut wr B gD cap sv1 ((d.puts v i).put (v / 2 ^ (8 * i) % 256)) w2 → XOut w B gD cap sv (d.puts v (i + 1)) w2) := fun w2 g => XOut.then x3 x4 g
    clear x1 x2 x3 x4 k1 ko q3
    generalize (d.puts v i).r6 = r at *
    rcases (by omega : i = 0 ∨ i = 1 ∨ i = 2 ∨ i = 3) with rfl | rfl | rfl | rfl
    all_goals first
     | (exfalso; omega)
     | (simp only [Nat.reduceMul, Int.reducePow, Int.ediv_one, Int.cast_ofNat_Int] at HP X ⊢
        go_wp2_with fail
        refine Calls.mono HP.out ?_; rintro e w2 ⟨rfl, h2⟩
        have H : Hid _ := X.out _ h2
        clear h2 X HP c6
        go_wp2
        go_roundw
        case rel => exact ⟨_, by omega, by go_num, H.out⟩
        case measure => simp [intOf])
   ·have e : i = 2 := by omega
    subst e
    have H : Hid _ := FIN.out _ hr
    clear hr FIN
    go_wp2
    go_ret
    exact ⟨rfl, H.out⟩
 ·go_enter Tryz.func79, Tryz.ntmps79
  go_wp2
  go_loopw [10] (fun s10 wr => ∃ i : Nat, (i : Int) ≤ 4 ∧ s10 = .int .i64 i ∧ XOut w B gD cap sv (d.puts v i) wr) (fun s10 _ => 4 - (intOf s10).toNat)
  case atStart => exact ⟨0, by omega, rfl, H0.out⟩
  case round =>
   clear H0
   obtain ⟨i, hi, rfl, hr⟩ := hrel
   by_cases hlt : (i : Int) < 4
   ·obtain ⟨dn1, sv1, x1, x2, x3, x4⟩ := hr
    have c6 := x1.r6
    have ko : ((d.puts v i).r6 / 16 % 2 == 1) = false := (puts_off d v i).trans HO.out
    have k1 := HK.out.puts v i
    obtain ⟨b0, b1⟩ := k1.r6
    have q3 : ¬ (d.puts v i).r6 / 16 % 2 = 1 := by simpa using ko
    have q4 : (d.puts v i).r6 / 16 % 2 = 0 := by omega
    have HP : Hid _ := xput_ok x1 x2 k1 (v / 2 ^ (8 * i) % 256) byt_m (by
     have a := puts_work HK.out v i
     have b := work_log (d.puts v i)
     have c := HW.out
     omega)
    have X : Hid (∀ w2, XOut wr B gD cap sv1 ((d.puts v i).put (v / 2 ^ (8 * i) % 256)) w2 → XOut w B gD cap sv (d.puts v (i + 1)) w2) := fun w2 g => XOut.then x3 x4 g
    clear x1 x2 x3 x4 k1 ko q3
    generalize (d.puts v i).r6 = r at *
    rcases (by omega : i = 0 ∨ i = 1 ∨ i = 2 ∨ i = 3) with rfl | rfl | rfl | rfl
    all_goals first
     | (exfalso; omega)
     | (simp only [Nat.reduceMul, Int.reducePow, Int.ediv_one, Int.cast_ofNat_Int] at HP X ⊢
        go_wp2_with fail
        refine Calls.mono HP.out ?_; rintro e w2 ⟨rfl, h2⟩
        have H : Hid _ := X.out _ h2
        clear h2 X HP c6
        go_wp2
        go_roundw
        case rel => exact ⟨_, by omega, by go_num, H.out⟩
        case measure => simp [intOf])
   ·have e : i = 4 := by omega
    subst e
    have H : Hid _ := FIN.out _ hr
    clear hr FIN
    go_wp2
    go_ret
    exact ⟨rfl, H.out⟩
theorem xout_ok (h : XAt w B gD cap dn sv d) (hd : Dn d dn) (k : d.Ok) (reg size v : Int) (v0 : 0 ≤ v) (v1 : v < 4294967296) (hw : d.work + 4 < 9007199254740992) (hc : ck reg size = 0) : Calls Tryz.prog 79 #[.pointer (some ⟨B, 0, none⟩), .int .i64 reg, .int .i64 size, .int .u32 v] w fun e w' => e = .returned (.int .i64 0) ∧ XOut w B gD cap sv (d.out reg size.toNat v) w' := by
 have hr : 0 ≤ reg ∧ reg < 9 ∧ (reg = 0 → size = 1 ∨ size = 2 ∨ size = 4) := by
  unfold ck at hc
  split at hc
  ·cases hc
  ·split at hc
   ·cases hc
   ·omega
 obtain ⟨r0, r9, rs⟩ := hr
 clear hc
 rcases (by omega : reg = 0 ∨ reg = 1 ∨ reg = 2 ∨ reg = 3 ∨ reg = 4 ∨ reg = 5 ∨ reg = 6 ∨ reg = 7 ∨ reg = 8) with rfl | rfl | rfl | rfl | rfl | rfl | rfl | rfl | rfl
 ·have hs := rs rfl
  obtain ⟨s, rfl⟩ : ∃ s : Nat, size = s := ⟨size.toNat, by omega⟩
  rw [Int.toNat_natCast]
  have e0 : d.out 0 s v = if d.off = true then d else d.puts v s := rfl
  rw [e0]
  cases ho : d.off
  ·rw [if_neg (by decide)]
   exact xout_0on h hd k ho s (by omega) v v0 v1 hw
  ·rw [if_pos rfl]
   exact xout_0off h hd k ho s (by omega) v v0 v1
 ·exact xout_1 h hd size v v0 v1
 ·exact xout_set h hd 2 size v 2 rfl (by decide) (by decide) v0 v1 _ (reg_2 _) rfl rfl rfl rfl rfl rfl rfl rfl rfl
 ·exact xout_set h hd 3 size v 3 rfl (by decide) (by decide) v0 v1 _ (reg_3 _) rfl rfl rfl rfl rfl rfl rfl rfl rfl
 ·exact xout_set h hd 4 size v 4 rfl (by decide) (by decide) v0 v1 _ (reg_4 _) rfl rfl rfl rfl rfl rfl rfl rfl rfl
 ·exact xout_set h hd 5 size v 5 rfl (by decide) (by decide) v0 v1 _ (reg_5 _) rfl rfl rfl rfl rfl rfl rfl rfl rfl
 ·exact xout_set h hd 6 size v 6 rfl (by decide) (by decide) v0 v1 _ (reg_6 _) rfl rfl rfl rfl rfl rfl rfl rfl rfl
 ·exact xout_7 h hd k size v v0 v1
 ·exact xout_8 h hd k size v v0 v1
end
end Go.Proofs.YtonfjhbfkichkaaGreat.Dk
