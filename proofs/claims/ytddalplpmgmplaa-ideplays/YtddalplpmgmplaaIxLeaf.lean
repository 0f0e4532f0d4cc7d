/- The document's disk: place, there, fail, fresh, begin, one. -/
import Derived.Test.YtddalplpmgmplaaIxBase
namespace Go.Proofs.Ytddalplpmgmplaa
open Go.ChangeShapes Go.WideShapes Go.ChangeAt Go.RowKit
set_option linter.unusedVariables false

section
variable {w : World} {B gD cap : Nat} {dn : Int} {sv : Value} {d : Id}

theorem xplace_any (h : XAt w B gD cap dn sv d) (k : d.Ok) : Calls Try.prog 36 #[.pointer (some ⟨B, 0, none⟩)] w fun e w' => e = .returned (.int .i64 d.place) ∧ ∃ n, w' = w.drewN n := by
  have c3 := h.r3
  have c4 := h.r4
  have c5 := h.r5
  have c6 := h.r6
  obtain ⟨a0, a1⟩ := k.r3
  obtain ⟨b0, b1⟩ := k.r4
  obtain ⟨f0, f1⟩ := k.r5
  obtain ⟨q0, q1⟩ := k.r6
  clear h k
  unfold Id.place
  generalize d.r6 = q at *
  generalize d.r3 = a at *
  generalize d.r4 = b at *
  generalize d.r5 = f at *
  go_enter Try.func36, Try.ntmps36
  go_wp2
  go_quiet (fail)
  go_wp2
  go_ret
  exact ⟨rfl, _, rfl⟩

theorem drewN_kp (w : World) (n : Nat) : Kp noB w (w.drewN n) := (Kp.refl _ _).drewN n

theorem xthere_any (h : XAt w B gD cap dn sv d) (k : d.Ok) : Calls Try.prog 34 #[.pointer (some ⟨B, 0, none⟩)] w fun e w' => e = .returned (.bool d.there) ∧ Kp noB w w' := by
  have HP : Hid (∀ n, Calls Try.prog 36 #[.pointer (some ⟨B, 0, none⟩)] (w.drewN n) fun e w' => e = .returned (.int .i64 d.place) ∧ ∃ m, w' = (w.drewN n).drewN m) := fun n => xplace_any (h.keep (drewN_kp w n)) k
  have c0 := h.c0
  have p := k.place
  have f := k.few
  have e : decide ((d.place + 1) * 512 ≤ ((512 * d.n : Nat) : Int)) = d.there := by
    unfold Id.there
    rw [decide_eq_decide]
    omega
  generalize d.place = P at *
  generalize d.there = T at *
  have hS : Hid (w.drew.cell? ⟨B, 0, none⟩ = some (.slice (some ⟨gD, 0, none⟩) (512 * d.n) cap)) := c0
  have HQ : Hid (Calls Try.prog 36 #[.pointer (some ⟨B, 0, none⟩)] w.drew fun e w' => e = .returned (.int .i64 P) ∧ ∃ m, w' = w.drew.drewN m) := HP.out 1
  have HC : Hid (∀ m, (w.drew.drewN m).cell? ⟨B, 0, none⟩ = some (.slice (some ⟨gD, 0, none⟩) (512 * d.n) cap)) := fun m => c0
  clear h k HP
  generalize d.n = N at *
  go_enter Try.func34, Try.ntmps34
  go_wp2
  go_region_held3 (fun W' => W'.cell? ⟨B, 0, none⟩ = some (.slice (some ⟨gD, 0, none⟩) (512 * N) cap))
    (first | exact hS.out | exact HC.out _ | assumption)
    (first
      | (go_at_call 36; refine Calls.mono HQ.out ?_; rintro e z5 ⟨rfl, m, rfl⟩))
  all_goals
    go_wp2
    go_ret
    refine ⟨ret_bool ?_, drewN_kp w _⟩
    rw [← e, decide_eq_decide, IntKind.wrap_i64, IntKind.wrap_i64]
    omega

theorem xfail_ok (h : XAt w B gD cap dn sv d) (x : Int) : Calls Try.prog 35 #[.pointer (some ⟨B, 0, none⟩), .int .u8 x] w fun e w' => e = .returned (.tuple #[]) ∧ XOk w B gD cap sv (d.fail x) w' := by
  have c1 := h.r1
  have cf := h.cfl
  have cg := h.cmo
  have cm := h.cmk
  have z1 := h.fz 2
  have z2 := h.fz 524
  have z3 := h.fz 522
  have z4 := h.fz 523
  have H : Hid (XOk w B gD cap sv (d.fail x) ((((w.setCell ⟨B, 2, none⟩ (.int .u8 x)).setCell ⟨B, 524, none⟩ (.bool true)).setCell ⟨B, 522, none⟩ (.int .i64 0)).setCell ⟨B, 523, none⟩ (.bool true))) := by
    refine ⟨dn, ((((h.raw.setR 1 (by decide) 2 rfl x).setfl true).setmo 0).setmk true).id (d.fail x) rfl rfl rfl (fun j _ => ?_) rfl rfl rfl rfl rfl, Dn.none rfl, (((kpB B _ _ _).trans (kpB B _ _ _)).trans (kpB B _ _ _)).trans (kpB B _ _ _)⟩
    exact congrFun (reg_1 (d := { d with failed := true, mode := 0, mark := true }) x).symm j
  clear h
  go_enter Try.func35, Try.ntmps35
  go_wp2
  go_end0
  exact ⟨rfl, H.out⟩

theorem xfresh_ok (h : XAt w B gD cap dn sv d) : Calls Try.prog 19 #[.pointer (some ⟨B, 0, none⟩)] w fun e w' => e = .returned (.tuple #[]) ∧ XOk w B gD cap sv d.fresh w' := by
  have c0 := h.r0
  have c1 := h.r1
  have c2 := h.r2
  have c3 := h.r3
  have c4 := h.r4
  have c5 := h.r5
  have c6 := h.r6
  have cd := h.cdn
  have cf := h.cfl
  have cg := h.cmo
  have cm := h.cmk
  have y0 := h.fz 1
  have y1 := h.fz 2
  have y2 := h.fz 3
  have y3 := h.fz 4
  have y4 := h.fz 5
  have y5 := h.fz 6
  have y6 := h.fz 7
  have y7 := h.fz 521
  have y8 := h.fz 522
  have y9 := h.fz 523
  have ya := h.fz 524
  have hC : Hid (XAt w B gD cap dn sv d) := h
  clear h
  go_enter Try.func19, Try.ntmps19
  go_wp2
  go_end0
  refine ⟨rfl, 0, ?_, Dn.none rfl, ?_⟩
  · refine (((((((((((hC.out.raw.setR 0 (by decide) 1 rfl 0).setR 1 (by decide) 2 rfl 1).setR 2 (by decide) 3 rfl 1).setR 3 (by decide) 4 rfl 1).setR 4 (by decide) 5 rfl 0).setR 5 (by decide) 6 rfl 0).setR 6 (by decide) 7 rfl 0).setmo 0).setdn 0).setmk false).setfl false).id _ rfl rfl rfl (fun j hj => ?_) rfl rfl rfl rfl rfl
    rcases (by omega : j = 0 ∨ j = 1 ∨ j = 2 ∨ j = 3 ∨ j = 4 ∨ j = 5 ∨ j = 6) with rfl | rfl | rfl | rfl | rfl | rfl | rfl <;> rfl
  · exact (((((((((((kpB B _ _ _).trans (kpB B _ _ _)).trans (kpB B _ _ _)).trans (kpB B _ _ _)).trans (kpB B _ _ _)).trans (kpB B _ _ _)).trans (kpB B _ _ _)).trans (kpB B _ _ _)).trans (kpB B _ _ _)).trans (kpB B _ _ _)).trans (kpB B _ _ _))

theorem XOk.over {w1 w2 : World} {d' : Id} (k : Kp noB w w1) (h : XOk w1 B gD cap sv d' w2) : XOk w B gD cap sv d' w2 := by
  obtain ⟨dn', h1, hd, h2⟩ := h
  exact ⟨dn', h1, hd, k.any.trans h2⟩

theorem xbegin_none (h : XAt w B gD cap dn sv d) (k : d.Ok) (ht : d.there = false) (m : Int) : Calls Try.prog 38 #[.pointer (some ⟨B, 0, none⟩), .int .i64 m] w fun e w' => e = .returned (.tuple #[]) ∧ XOk w B gD cap sv (d.begin m) w' := by
  have HS : Hid _ := xthere_any h k
  rw [ht] at HS
  have hC : Hid (XAt w B gD cap dn sv d) := h
  have e : d.begin m = d.fail 16 := by unfold Id.begin; rw [if_neg (by rw [ht]; decide)]
  rw [e]
  clear h k ht e
  go_enter Try.func38, Try.ntmps38
  go_wp2_with fail
  refine Calls.mono HS.out ?_; rintro e w1 ⟨rfl, k1⟩
  have HF : Hid _ := xfail_ok (hC.out.keep k1) 16
  have K : Hid (Kp noB w w1) := k1
  clear k1
  go_wp2_with fail
  refine Calls.mono HF.out ?_; rintro e w2 ⟨rfl, h2⟩
  have H2 : Hid (XOk w B gD cap sv (d.fail 16) w2) := h2.over K.out
  clear h2 HF
  go_wp2
  refine bodyPost_ret (results_none rfl _ _ _) rfl ?_
  exact ⟨rfl, H2.out⟩

theorem xbegin_write (h : XAt w B gD cap dn sv d) (k : d.Ok) (ht : d.there = true) : Calls Try.prog 38 #[.pointer (some ⟨B, 0, none⟩), .int .i64 2] w fun e w' => e = .returned (.tuple #[]) ∧ XOk w B gD cap sv (d.begin 2) w' := by
  have HS : Hid _ := xthere_any h k
  rw [ht] at HS
  have hC : Hid (XAt w B gD cap dn sv d) := h
  have e : d.begin 2 = { d with mode := 2, don := 0 } := by unfold Id.begin; rw [if_pos ht, if_neg (by decide)]
  rw [e]
  clear h k ht e
  go_enter Try.func38, Try.ntmps38
  go_wp2_with fail
  refine Calls.mono HS.out ?_; rintro e w1 ⟨rfl, k1⟩
  have h1 := hC.out.keep k1
  have cg := h1.cmo
  have cd := h1.cdn
  have z1 := h1.fz 522
  have z2 := h1.fz 521
  have H : Hid (XOk w B gD cap sv { d with mode := 2, don := 0 } ((w1.setCell ⟨B, 522, none⟩ (.int .i64 2)).setCell ⟨B, 521, none⟩ (.int .i64 0))) :=
    ⟨0, ((h1.raw.setmo 2).setdn 0).id _ rfl rfl rfl (fun _ _ => rfl) rfl rfl rfl rfl rfl, fun _ => rfl, k1.any.trans ((kpB B _ _ _).trans (kpB B _ _ _))⟩
  clear k1 h1
  go_wp2
  go_end0
  exact ⟨rfl, H.out⟩

set_option maxRecDepth 20000 in
set_option maxHeartbeats 2000000 in
theorem xbegin_read (h : XAt w B gD cap dn sv d) (k : d.Ok) (ht : d.there = true) : Calls Try.prog 38 #[.pointer (some ⟨B, 0, none⟩), .int .i64 1] w fun e w' => e = .returned (.tuple #[]) ∧ XOk w B gD cap sv (d.begin 1) w' := by
  have HS : Hid _ := xthere_any h k
  rw [ht] at HS
  have hC : Hid (XAt w B gD cap dn sv d) := h
  have e : d.begin 1 = { d with mode := 1, don := 0, buf := fun i => d.D (d.at + i), mark := true } := by unfold Id.begin; rw [if_pos ht, if_pos rfl]
  rw [e]
  obtain ⟨a1, a2, a3⟩ := at_lt k ht
  have a4 := k.at ht
  obtain ⟨A, hA⟩ : ∃ A, A = d.at := ⟨_, rfl⟩
  rw [← hA] at a2 a3 a4 ⊢
  have hK : Hid d.Ok := k
  have p := k.place
  clear h k ht e hA
  go_enter Try.func38, Try.ntmps38
  go_wp2_with fail
  refine Calls.mono HS.out ?_; rintro e w1 ⟨rfl, k1⟩
  have h1 := hC.out.keep k1
  have cg := h1.cmo
  have cd := h1.cdn
  have z1 := h1.fz 522
  have z2 := h1.fz 521
  have h2 : XAt ((w1.setCell ⟨B, 522, none⟩ (.int .i64 1)).setCell ⟨B, 521, none⟩ (.int .i64 0)) B gD cap 0 sv { d with mode := 1 } := ((h1.raw.setmo 1).setdn 0).id _ rfl rfl rfl (fun _ _ => rfl) rfl rfl rfl rfl rfl
  have k2 : Kp (isB B) w ((w1.setCell ⟨B, 522, none⟩ (.int .i64 1)).setCell ⟨B, 521, none⟩ (.int .i64 0)) := k1.any.trans ((kpB B _ _ _).trans (kpB B _ _ _))
  have HP : Hid _ := xplace_any h2 { hK.out with mode := .inr (.inl rfl) }
  have hp1 : ({ d with mode := 1 } : Id).place = d.place := rfl
  rw [hp1] at HP
  have H2 : Hid (XAt ((w1.setCell ⟨B, 522, none⟩ (.int .i64 1)).setCell ⟨B, 521, none⟩ (.int .i64 0)) B gD cap 0 sv { d with mode := 1 } ∧ Kp (isB B) w ((w1.setCell ⟨B, 522, none⟩ (.int .i64 1)).setCell ⟨B, 521, none⟩ (.int .i64 0))) := ⟨h2, k2⟩
  clear h1 k1 h2 k2 HS
  go_wp2_with fail
  generalize (w1.setCell ⟨B, 522, none⟩ (.int .i64 1)).setCell ⟨B, 521, none⟩ (.int .i64 0) = w2 at *
  refine Calls.mono HP.out ?_; rintro e w3 ⟨rfl, m, rfl⟩
  have P3 : Hid (XRaw (w2.drewN m) B gD cap d.n sv d.log d.D d.reg (layB d.buf 0 0 (fun i => d.D (A + i))) d.c 0 1 d.mark d.failed ∧ Kp (isB B) w (w2.drewN m)) := by
    refine ⟨((H2.out.1.keep (drewN_kp _ m)).raw.same fun i hi => ?_), H2.out.2.trans (drewN_kp _ m).any⟩
    unfold layB
    rw [if_neg (by omega)]
  have w64 : IntKind.i64.wrap (d.place * 512) = d.place * 512 := by rw [IntKind.wrap_i64]; omega
  clear HP H2
  generalize d.place = P at *
  go_wp2
  generalize w2.drewN m = w3 at *
  go_loopw [6] (fun s6 wr => ∃ i : Nat, i ≤ 512 ∧ s6 = .int .i64 i ∧ XRaw wr B gD cap d.n sv d.log d.D d.reg (layB d.buf 0 i (fun i => d.D (A + i))) d.c 0 1 d.mark d.failed ∧ Kp (isB B) w wr) (fun s6 _ => 512 - (intOf s6).toNat)
  case atStart => exact ⟨0, by omega, rfl, P3.out.1, P3.out.2⟩
  case round =>
    clear P3
    obtain ⟨i, hi, rfl, hr, kr⟩ := hrel
    by_cases hlt : i < 512
    · have c0 : wr.cell? ⟨B, 0, none⟩ = some (.slice (some ⟨gD, 0, none⟩) (512 * d.n) cap) := hr.blk.cell 0 (by decide)
      obtain ⟨z, hz⟩ : ∃ z, z = A + i := ⟨_, rfl⟩
      have cz : wr.cell? ⟨gD, z, none⟩ = some (.int .u8 (d.D z)) := by
        obtain ⟨cur, h1, h2, h3⟩ := hr.row
        rw [cell_at h1]
        exact h3 z (by omega)
      have cb := hr.blk.cell (9 + i) (by omega)
      rw [xC_b hlt] at cb
      have zb := hr.blk.fz (9 + i)
      have g1 : P * 512 + (i : Int) = (z : Int) := by omega
      have g2 : (z : Int) < 512 * (d.n : Int) := by omega
      have g3 : (z : Int) < ((512 * d.n : Nat) : Int) := by omega
      have g4 : z < 512 * d.n := by omega
      have g5 : IntKind.i64.wrap (z : Int) = z := by rw [IntKind.wrap_i64]; omega
      have g6 : wrap64 (z : Int) = z := IntWalk.wrap64_in _ ⟨by omega, by omega⟩
      have H : Hid (XRaw (wr.setCell ⟨B, 9 + i, none⟩ (.int .u8 (d.D z))).drew B gD cap d.n sv d.log d.D d.reg (layB d.buf 0 (i + 1) (fun i => d.D (A + i))) d.c 0 1 d.mark d.failed ∧ Kp (isB B) w (wr.setCell ⟨B, 9 + i, none⟩ (.int .u8 (d.D z))).drew) := by
        refine ⟨((hr.setb i hlt (d.D z)).same fun j hj => ?_).keep (Kp.refl _ _).drew, (kr.trans (kpB B _ _ _)).drew⟩
        unfold setB layB
        by_cases q : j = i
        · rw [if_pos q, if_pos (by omega), q, hz, Nat.sub_zero]
        · rw [if_neg q]
          by_cases q2 : j < i
          · rw [if_pos (by omega), if_pos (by omega)]
          · rw [if_neg (by omega), if_neg (by omega)]
      clear hr kr hz a1 a2 a3 a4 w64 hp1 g2 p
      obtain ⟨N, hN⟩ : ∃ N, N = 512 * d.n := ⟨_, rfl⟩
      rw [← hN] at c0 g3 g4
      clear hN
      generalize d.D z = y at *
      generalize layB d.buf 0 i _ i = y9 at cb
      go_wp2
      go_region
      go_wp2
      go_roundw
      case rel => exact ⟨i + 1, by omega, by go_num, H.out.1, H.out.2⟩
      case measure => simp [intOf]; omega
    · have e : i = 512 := by omega
      subst e
      have cm : wr.cell? ⟨B, 523, none⟩ = some (.bool d.mark) := hr.blk.cell 523 (by decide)
      have zm := hr.blk.fz 523
      have H : Hid (XOk w B gD cap sv { d with mode := 1, don := 0, buf := fun i => d.D (A + i), mark := true } (wr.setCell ⟨B, 523, none⟩ (.bool true))) := by
        refine ⟨0, ((hr.setmk true).same (b' := fun i => d.D (A + i)) fun j hj => ?_).id _ rfl rfl rfl (fun _ _ => rfl) rfl rfl rfl rfl rfl, fun _ => rfl, kr.trans (kpB B _ _ _)⟩
        unfold layB
        rw [if_pos (by omega), Nat.sub_zero]
      clear hr kr
      go_wp2
      go_end0
      exact ⟨rfl, H.out⟩

theorem xbegin_ok (h : XAt w B gD cap dn sv d) (k : d.Ok) (m : Int) (hm : m = 1 ∨ m = 2) : Calls Try.prog 38 #[.pointer (some ⟨B, 0, none⟩), .int .i64 m] w fun e w' => e = .returned (.tuple #[]) ∧ XOk w B gD cap sv (d.begin m) w' := by
  cases ht : d.there
  · exact xbegin_none h k ht _
  · rcases hm with rfl | rfl
    · exact xbegin_read h k ht
    · exact xbegin_write h k ht
end
end Go.Proofs.Ytddalplpmgmplaa
