/- The document's disk: put. -/
import Derived.Test.YtddalplpmgmplaaIxMid
namespace Go.Proofs.Ytddalplpmgmplaa
open Go.ChangeShapes Go.WideShapes Go.ChangeAt Go.RowKit
set_option linter.unusedVariables false

section
variable {w : World} {B gD cap : Nat} {dn : Int} {sv : Value} {d : Id}

theorem Kp.footX {w' : World} (h : Kp (isB B) w w') : Kp (footX B gD sv) w w' := h.mono fun k _ e => .inl e
theorem Kp.footD {w' : World} (h : Kp (isB gD) w w') : Kp (Go.Proofs.Ytddalplpmgmplaa.footX B gD sv) w w' := h.mono fun k _ e => .inr (.inl e)
theorem XOk.out {w' : World} (h : XOk w B gD cap sv d w') : XOut w B gD cap sv d w' := by
  obtain ⟨dn', h1, hd, h2⟩ := h
  exact ⟨dn', sv, h1, hd, fun _ g => .inl g, h2.footX⟩

theorem XOut.then {w1 w2 : World} {sv1 : Value} {d' : Id} (hf : ∀ k, footX B gD sv1 k → footX B gD sv k ∨ w.heap.size ≤ k) (k1 : Kp (footX B gD sv) w w1) (h : XOut w1 B gD cap sv1 d' w2) : XOut w B gD cap sv d' w2 := by
  obtain ⟨dn', sv', h1, hd, h2, h3⟩ := h
  refine ⟨dn', sv', h1, hd, fun k g => ?_, k1.over h3 fun j hj g => ?_⟩
  · rcases h2 k g with e | e
    · exact hf k e
    · exact .inr (Nat.le_trans k1.size e)
  · rcases hf j g with e | e
    · exact e
    · omega

theorem XAt.raw' (h : XAt w B gD cap dn sv d) : XRaw w B gD cap d.n sv d.log d.D d.reg d.buf d.c dn d.mode d.mark d.failed := h.raw

/-- The note of a place that was written. -/
theorem xnote_ok (h : XAt w B gD cap dn sv d) (hs : d.log.length < 17592186044416) (p : Int) :
    ∃ p' n' c' w', (Builtin.append_ #[39, 39] 39 #[sv, .slice (some ⟨w.heap.size, 0, none⟩) 1 1]).run Try.prog (wI w p) = .ok (.slice p' n' c') w' ∧ w'.cell? ⟨B, 525, none⟩ = some sv ∧ w'.frozen? ⟨B, 525, none⟩ = false ∧
      XAt (w'.setCell ⟨B, 525, none⟩ (.slice p' n' c')) B gD cap dn (.slice p' n' c') { d with log := d.log ++ [p] } ∧ (∀ k, footX B gD (.slice p' n' c') k → footX B gD sv k ∨ w.heap.size ≤ k) ∧ Kp (footX B gD sv) w (w'.setCell ⟨B, 525, none⟩ (.slice p' n' c')) := by
  obtain ⟨v', w', hr, h2, h3, h4⟩ := appI h.log p hs
  obtain ⟨pa, ca, ev⟩ := h2.sl
  subst ev
  have hb := h.blk.kept h3 (fun e => h.raw.notB e rfl)
  have hd := h.row.kept h3 (fun e => h.raw.notL e rfl)
  refine ⟨pa, _, ca, w', hr, hb.cell 525 (by decide), hb.fz _, ?_, fun k g => ?_, ?_⟩
  · have nB : ∀ g, (Value.slice pa (d.log ++ [p]).length ca).ownBlock = some g → ¬ isB B g := by
      rintro g e (rfl : g = B)
      obtain ⟨cur, g1⟩ := h2.lt e
      obtain ⟨c, g2, _⟩ := hb
      rw [g1] at g2
      simp at g2
    exact ⟨(hb.set 525 (by decide) _).of (fun i hi => xC_setsv _ i hi), hd.kept (kpB B _ _ _) h.raw.notD, h.le, h2.kept (kpB B _ _ _) nB⟩
  · rcases g with g | g | g
    · exact .inl (.inl g)
    · exact .inl (.inr (.inl g))
    · rcases h4 k g with e | e
      · exact .inl (.inr (.inr e))
      · exact .inr e
  · exact (h3.mono fun k _ e => .inr (.inr e)).trans (kpB B _ _ _).footX

theorem xput_idle (h : XAt w B gD cap dn sv d) (hd : Dn d dn) (b : Int) (hm : d.mode ≠ 2) : Calls Try.prog 24 #[.pointer (some ⟨B, 0, none⟩), .int .u8 b] w fun e w' => e = .returned (.tuple #[]) ∧ XOut w B gD cap sv (d.put b) w' := by
  have cg := h.cmo
  have H : Hid (XOut w B gD cap sv (d.put b) w) := by
    show XOut _ _ _ _ _ _ _
    rw [put_idle d hm]
    exact XOk.out ⟨dn, h, hd, Kp.refl _ _⟩
  have q : (d.mode != 2) = true := by rw [bne_iff_ne]; exact hm
  generalize d.mode = g at *
  clear h hd hm
  go_enter Try.func24, Try.ntmps24
  go_wp2
  refine bodyPost_ret (results_none rfl _ _ _) rfl ?_
  exact ⟨rfl, H.out⟩

set_option maxRecDepth 20000 in
set_option maxHeartbeats 4000000 in
theorem xput_on (h : XAt w B gD cap dn sv d) (hd : Dn d dn) (k : d.Ok) (b : Int) (hb : byt b) (hm : d.mode = 2) (hs : d.log.length < 17592186044416) : Calls Try.prog 24 #[.pointer (some ⟨B, 0, none⟩), .int .u8 b] w fun e w' => e = .returned (.tuple #[]) ∧ XOut w B gD cap sv (d.put b) w' := by
  have hdn : dn = d.don := hd (by omega)
  subst hdn
  have cg := h.cmo
  rw [hm] at cg
  have cd := h.cdn
  have zd := h.fz 521
  have x1 := k.don
  obtain ⟨x, hx⟩ : ∃ x, x = d.don := ⟨_, rfl⟩
  have cb := h.cb x (by omega)
  have zb := h.fz (9 + x)
  rw [← hx] at cd x1
  have R2 : XRaw ((w.setCell ⟨B, 9 + x, none⟩ (.int .u8 b)).drew.setCell ⟨B, 521, none⟩ (.int .i64 ((x : Int) + 1))) B gD cap d.n sv d.log d.D d.reg (setB d.buf x b) d.c ((x : Int) + 1) 2 d.mark d.failed := by
    have := ((h.raw.setb x x1 b).keep (Kp.refl _ _).drew).setdn ((x : Int) + 1)
    rw [hm] at this
    exact this
  have K2 : Kp (isB B) w ((w.setCell ⟨B, 9 + x, none⟩ (.int .u8 b)).drew.setCell ⟨B, 521, none⟩ (.int .i64 ((x : Int) + 1))) := (kpB B _ _ _).drew.trans (kpB B _ _ _)
  obtain ⟨w2, hw2⟩ : ∃ w2, w2 = (w.setCell ⟨B, 9 + x, none⟩ (.int .u8 b)).drew.setCell ⟨B, 521, none⟩ (.int .i64 ((x : Int) + 1)) := ⟨_, rfl⟩
  rw [← hw2] at R2 K2
  have ep : d.put b = if x + 1 < 512 then { d with buf := setB d.buf x b, don := x + 1 } else if d.there = true then { (({ d with buf := setB d.buf x b, don := 0 } : Id).lay.one) with mark := true } else ({ d with buf := setB d.buf x b, don := 0 } : Id).fail 16 := by unfold Id.put; rw [if_pos hm, ← hx]
  have e2 : (w.setCell ⟨B, 9 + x, none⟩ (.int .u8 b)).drew.setCell ⟨B, 521, none⟩ (.int .i64 ((x : Int) + 1)) = ((w.setCell ⟨B, 9 + x, none⟩ (.int .u8 b)).setCell ⟨B, 521, none⟩ (.int .i64 ((x : Int) + 1))).drew := rfl
  rw [e2] at hw2
  generalize d.buf x = y9 at cb
  by_cases hf : x + 1 < 512
  · have H : Hid (XOut w B gD cap sv (d.put b) w2) := by
      show XOut _ _ _ _ _ _ _
      rw [ep, if_pos hf]
      exact XOk.out ⟨_, R2.id _ rfl rfl rfl (fun _ _ => rfl) rfl rfl hm.symm rfl rfl, fun _ => by show (x : Int) + 1 = ((x + 1 : Nat) : Int); omega, K2⟩
    rw [hw2] at H
    have t1 : (x : Int) + 1 < 512 := by omega
    clear h hd k hb hm hs hx R2 K2 hw2 ep e2 hf
    go_enter Try.func24, Try.ntmps24
    go_wp2
    go_region
    go_wp2
    refine bodyPost_ret (results_none rfl _ _ _) rfl ?_
    exact ⟨rfl, H.out⟩
  · have x511 : x = 511 := by omega
    have h5 : XAt w2 B gD cap 512 sv { d with buf := setB d.buf x b, don := 0 } := by
      have := R2.id (d := { d with buf := setB d.buf x b, don := 0 }) rfl rfl rfl (fun _ _ => rfl) rfl rfl hm.symm rfl rfl
      rw [show (x : Int) + 1 = 512 by omega] at this
      exact this
    have k5 : Id.Ok { d with buf := setB d.buf x b, don := 0 } := k.setB hb x (n := 0) (by decide)
    have HT : Hid _ := xthere_any h5 k5
    have et : ({ d with buf := setB d.buf x b, don := 0 } : Id).there = d.there := rfl
    rw [et] at HT
    have K2' : Hid (Kp (isB B) w w2) := K2
    have t2 : ¬ (x : Int) + 1 < 512 := by omega
    have t3 : decide ((x : Int) + 1 < 512) = false := by simp; omega
    rw [if_neg hf] at ep
    cases ht : d.there
    · rw [ht] at ep HT
      rw [if_neg (by decide)] at ep
      have EP : Hid _ := ep
      have H5 : Hid _ := h5
      rw [hw2] at HT
      have W2 : Hid (w2 = ((w.setCell ⟨B, 9 + x, none⟩ (.int .u8 b)).setCell ⟨B, 521, none⟩ (.int .i64 ((x : Int) + 1))).drew) := hw2
      clear h hd k hb hm hs hx R2 K2 ep e2 hf h5 k5 et ht x511 hw2
      go_enter Try.func24, Try.ntmps24
      go_wp2
      go_region
      go_wp2_with fail
      refine Calls.mono HT.out ?_; rintro e w3 ⟨rfl, k3⟩
      rw [← W2.out] at k3
      have HF : Hid _ := xfail_ok (H5.out.keep k3) 16
      have K3 : Hid (Kp noB w2 w3) := k3
      clear k3 HT H5
      go_wp2_with fail
      refine Calls.mono HF.out ?_; rintro e w4 ⟨rfl, dn4, h4, d4, k4⟩
      have H : Hid (XOut w B gD cap sv (d.put b) w4) := by
        show XOut _ _ _ _ _ _ _
        rw [EP.out]
        exact XOk.out ⟨dn4, h4, d4, (K2'.out.trans K3.out.any).trans k4⟩
      clear h4 d4 k4 HF
      go_wp2
      refine bodyPost_ret (results_none rfl _ _ _) rfl ?_
      exact ⟨rfl, H.out⟩
    · rw [ht] at ep HT
      rw [if_pos rfl] at ep
      have EP : Hid _ := ep
      obtain ⟨a1, a2, a3⟩ := at_lt k ht
      have a4 := k.at ht
      obtain ⟨A, hA⟩ : ∃ A, A = d.at := ⟨_, rfl⟩
      rw [← hA] at a2 a3 a4
      obtain ⟨bf, hbf⟩ : ∃ bf, bf = setB d.buf x b := ⟨_, rfl⟩
      rw [← hbf] at h5 k5 EP
      have hK5 : Hid (Id.Ok { d with buf := bf, don := 0 }) := k5
      have hT5 : Hid (({ d with buf := bf, don := 0 } : Id).there = true) := ht
      have hM5 : Hid (d.mode = 2) := hm
      have hL : Hid (d.log.length < 17592186044416) := hs
      have hAt : Hid (A = d.at) := hA
      have H5 : Hid (XAt w2 B gD cap 512 sv { d with buf := bf, don := 0 }) := h5
      have ppl := k.place
      rw [hw2] at HT
      have W2 : Hid (w2 = ((w.setCell ⟨B, 9 + x, none⟩ (.int .u8 b)).setCell ⟨B, 521, none⟩ (.int .i64 ((x : Int) + 1))).drew) := hw2
      have w64 : IntKind.i64.wrap (d.place * 512) = d.place * 512 := by rw [IntKind.wrap_i64]; omega
      clear h hd k hb hm hs hx R2 K2 ep e2 hf h5 k5 et ht x511 hw2 hA hbf
      go_enter Try.func24, Try.ntmps24
      go_wp2
      go_region
      go_wp2_with fail
      refine Calls.mono HT.out ?_; rintro e w3 ⟨rfl, k3⟩
      rw [← W2.out] at k3
      have h3 := H5.out.keep k3
      have K3 : Hid (Kp (isB B) w w3) := K2'.out.trans k3.any
      have HP : Hid _ := xplace_any h3 hK5.out
      have ep2 : ({ d with buf := bf, don := 0 } : Id).place = d.place := rfl
      rw [ep2] at HP
      have H3 : Hid (XAt w3 B gD cap 512 sv { d with buf := bf, don := 0 }) := h3
      clear k3 HT H5 h3 ep2 W2 K2' cg cd zd cb zb
      go_wp2_with fail
      refine Calls.mono HP.out ?_; rintro e w4 ⟨rfl, m, rfl⟩
      have P4 : Hid (XRaw (w3.drewN m) B gD cap d.n sv d.log (layB d.D A 0 bf) d.reg bf d.c 512 d.mode d.mark d.failed ∧ Kp (Go.Proofs.Ytddalplpmgmplaa.footX B gD sv) w (w3.drewN m)) := by
        refine ⟨?_, (K3.out.trans (drewN_kp _ m).any).footX⟩
        have e0 : layB d.D A 0 bf = d.D := by
          funext j
          unfold layB
          rw [if_neg (by omega)]
        rw [e0]
        exact (H3.out.keep (drewN_kp _ m)).raw
      clear HP H3 K3
      generalize hpp : d.place = P at *
      have HPP : Hid (d.place = P) := hpp
      clear hpp
      go_wp2
      generalize w3.drewN m = w4 at *
      go_loopw [6] (fun s6 wr => ∃ i : Nat, i ≤ 512 ∧ s6 = .int .i64 i ∧ XRaw wr B gD cap d.n sv d.log (layB d.D A i bf) d.reg bf d.c 512 d.mode d.mark d.failed ∧ Kp (Go.Proofs.Ytddalplpmgmplaa.footX B gD sv) w wr) (fun s6 _ => 512 - (intOf s6).toNat)
      case atStart => exact ⟨0, by omega, rfl, P4.out.1, P4.out.2⟩
      case round =>
        clear P4
        obtain ⟨i, hi, rfl, hr, kr⟩ := hrel
        by_cases hlt : i < 512
        · have c0 : wr.cell? ⟨B, 0, none⟩ = some (.slice (some ⟨gD, 0, none⟩) (512 * d.n) cap) := hr.blk.cell 0 (by decide)
          obtain ⟨z, hz⟩ : ∃ z, z = A + i := ⟨_, rfl⟩
          have cz : wr.cell? ⟨gD, z, none⟩ = some (.int .u8 (layB d.D A i bf z)) ∧ wr.frozen? ⟨gD, z, none⟩ = false := by
            obtain ⟨cur, h1, h2, h3⟩ := hr.row
            rw [cell_at h1]
            exact ⟨h3 z (by omega), frozen_at h1⟩
          obtain ⟨cz, fz⟩ := cz
          have cb := hr.blk.cell (9 + i) (by omega)
          rw [xC_b hlt] at cb
          have g1 : P * 512 + (i : Int) = (z : Int) := by omega
          have g3 : (z : Int) < ((512 * d.n : Nat) : Int) := by omega
          have g4 : z < 512 * d.n := by omega
          have g5 : IntKind.i64.wrap (z : Int) = z := by rw [IntKind.wrap_i64]; omega
          have g6 : wrap64 (z : Int) = z := IntWalk.wrap64_in _ ⟨by omega, by omega⟩
          have H : Hid (XRaw (wr.setCell ⟨gD, z, none⟩ (.int .u8 (bf i))).drew B gD cap d.n sv d.log (layB d.D A (i + 1) bf) d.reg bf d.c 512 d.mode d.mark d.failed ∧ Kp (Go.Proofs.Ytddalplpmgmplaa.footX B gD sv) w (wr.setCell ⟨gD, z, none⟩ (.int .u8 (bf i))).drew) := by
            have e0 : setB (layB d.D A i bf) z (bf i) = layB d.D A (i + 1) bf := by
              funext j
              unfold setB layB
              by_cases q : j = z
              · rw [if_pos q, if_pos (by omega), show j - A = i by omega]
              · rw [if_neg q]
                by_cases q2 : A ≤ j ∧ j < A + i
                · rw [if_pos q2, if_pos (by omega)]
                · rw [if_neg q2, if_neg (by omega)]
            have := (hr.setD z (bf i)).keep (Kp.refl _ _).drew
            rw [e0] at this
            exact ⟨this, (kr.trans (kpB gD _ _ _).footD).drew⟩
          clear hr kr hz a1 a2 a3 a4 w64 ppl
          obtain ⟨N, hN⟩ : ∃ N, N = 512 * d.n := ⟨_, rfl⟩
          rw [← hN] at c0 g3 g4
          clear hN
          generalize bf i = y at *
          generalize layB d.D A i bf z = y9 at cz
          go_wp2
          go_region
          go_wp2
          go_roundw
          case rel => exact ⟨i + 1, by omega, by go_num, H.out.1, H.out.2⟩
          case measure => simp [intOf]; omega
        · have e : i = 512 := by omega
          subst e
          have h6 : XAt wr B gD cap 512 sv { d with buf := bf, don := 0, D := ({ d with buf := bf, don := 0 } : Id).lay.D } := by
            refine hr.id _ rfl ?_ rfl (fun _ _ => rfl) rfl rfl rfl rfl rfl
            rw [hAt.out]
            rfl
          have H6 : Hid (XAt wr.drew B gD cap 512 sv { d with buf := bf, don := 0, D := ({ d with buf := bf, don := 0 } : Id).lay.D }) := h6.keep (Kp.refl _ _).drew
          have K6 : Hid (Kp (Go.Proofs.Ytddalplpmgmplaa.footX B gD sv) w wr) := kr
          have hk6 : Id.Ok { d with buf := bf, don := 0, D := ({ d with buf := bf, don := 0 } : Id).lay.D } := { hK5.out with D := (hK5.out.lay hT5.out).D }
          have HP : Hid (Calls Try.prog 36 #[.pointer (some ⟨B, 0, none⟩)] wr.drew fun e w' => e = .returned (.int .i64 P) ∧ ∃ n, w' = wr.drew.drewN n) := by
            have := xplace_any H6.out hk6
            have e9 : ({ d with buf := bf, don := 0, D := ({ d with buf := bf, don := 0 } : Id).lay.D } : Id).place = P := HPP.out
            rw [e9] at this
            exact this
          have HN : Hid (∀ W, Kp noB wr.drew W → _) := fun W kW => xnote_ok (H6.out.keep kW) hL.out P
          have c1 : wr.drew.cell? ⟨B, 525, none⟩ = some sv := H6.out.csv
          have HG : Hid (∀ W dn' sv', XAt W B gD cap dn' sv' ({ d with buf := bf, don := 0 } : Id).lay → _) := fun W dn' sv' hW => xone_ok hW (hK5.out.lay hT5.out) (.inr hM5.out)
          have EL : Hid (({ d with buf := bf, don := 0, D := ({ d with buf := bf, don := 0 } : Id).lay.D, log := d.log ++ [P] } : Id) = ({ d with buf := bf, don := 0 } : Id).lay) := by
            show _ = _
            rw [← HPP.out]
            rfl
          clear hr kr h6 hk6 a1 a2 a3 a4 w64 ppl hAt HPP
          go_wp2
          go_region_law (first
            | (refine step_enter rfl (by kernel_rfl) HP.out ?_
               rintro e w7 ⟨rfl, n7, rfl⟩
               refine ⟨_, rfl, ?_⟩
               have c3 : (wr.drew.drewN n7).cell? ⟨B, 525, none⟩ = some sv := (H6.out.keep (drewN_kp _ n7)).csv
               have c4 : ∀ o, ((wr.drew.drewN n7).alloc o).cell? ⟨B, 525, none⟩ = some sv := fun o => (H6.out.keep ((drewN_kp _ n7).trans (Kp.alloc noB _ _))).csv
               have K7 : Hid (Kp noB wr.drew (wr.drew.drewN n7)) := drewN_kp _ n7
               generalize wr.drew.drewN n7 = w7 at *)
            | (obtain ⟨p', n', c', w8, hr, q1, q2, q3, q4, q5⟩ := HN.out _ (Hid.out (by assumption : Hid (Kp noB wr.drew _)))
               have Q3 : Hid _ := And.intro q3 (And.intro q4 q5)
               refine step_appI rfl _ _ rfl rfl rfl rfl hr ?_
               clear hr q3 q4 q5))
          all_goals
            obtain ⟨q3, q4, q5⟩ := Q3.out
            clear Q3
            generalize (w8.setCell ⟨B, 525, none⟩ (.slice p' n' c')) = w9 at q3 q5 ⊢
            have h9 : XAt w9 B gD cap 512 (.slice p' n' c') ({ d with buf := bf, don := 0 } : Id).lay := by
              rw [← EL.out]
              exact q3
            have k7 : Kp (Go.Proofs.Ytddalplpmgmplaa.footX B gD sv) w w7 := (K6.out.drew).trans (K7.out.any)
            have k9 : Kp (Go.Proofs.Ytddalplpmgmplaa.footX B gD sv) w w9 := k7.trans q5
            have f9 : ∀ k, Go.Proofs.Ytddalplpmgmplaa.footX B gD (.slice p' n' c') k → Go.Proofs.Ytddalplpmgmplaa.footX B gD sv k ∨ w.heap.size ≤ k := fun k g => by
              rcases q4 k g with e | e
              · exact .inl e
              · exact .inr (Nat.le_trans k7.size e)
            have HG' : Hid _ := HG.out _ _ _ h9
            have F9 : Hid ((∀ k, Go.Proofs.Ytddalplpmgmplaa.footX B gD (.slice p' n' c') k → Go.Proofs.Ytddalplpmgmplaa.footX B gD sv k ∨ w.heap.size ≤ k) ∧ Kp (Go.Proofs.Ytddalplpmgmplaa.footX B gD sv) w w9) := ⟨f9, k9⟩
            clear q3 q4 q5 h9 k7 k9 f9 HG HN HP H6 q1 q2 K7 K6 c1 EL
            go_wp2_with fail
            refine Calls.mono HG'.out ?_; rintro e wA ⟨rfl, dnA, hA, dA, kA⟩
            have cm := hA.cmk
            have zA := hA.fz 523
            have H : Hid (XOut w B gD cap sv (d.put b) (wA.setCell ⟨B, 523, none⟩ (.bool true))) := by
              show XOut _ _ _ _ _ _ _
              rw [EP.out]
              exact XOut.then F9.out.1 F9.out.2 ⟨dnA, _, (hA.raw.setmk true).id _ rfl rfl rfl (fun _ _ => rfl) rfl rfl rfl rfl rfl, dA, fun _ g => .inl g, (kA.trans (kpB B _ _ _)).footX⟩
            clear hA kA dA HG' F9
            go_wp2
            go_end0
            exact ⟨rfl, H.out⟩

theorem xput_ok (h : XAt w B gD cap dn sv d) (hd : Dn d dn) (k : d.Ok) (b : Int) (hb : byt b) (hs : d.log.length < 17592186044416) : Calls Try.prog 24 #[.pointer (some ⟨B, 0, none⟩), .int .u8 b] w fun e w' => e = .returned (.tuple #[]) ∧ XOut w B gD cap sv (d.put b) w' := by
  by_cases hm : d.mode = 2
  · exact xput_on h hd k b hb hm hs
  · exact xput_idle h hd b hm
end
end Go.Proofs.Ytddalplpmgmplaa
