/- The walk of BusPlays. -/
import Derived.Test.YtonfjhbfkichkaaGreatBz46
import Derived.Test.YtonfjhbfkichkaaGreatBz42
namespace Go.Proofs.YtonfjhbfkichkaaGreat.Bs
open Go.ChangeShapes Go.WideShapes Go.ChangeAt Go.RowKit
open Go.Proofs.YtonfjhbfkichkaaGreat.Ut (Kp heap_lt heap_kept heap_set heap_new noB isB kpB)
set_option linter.unusedVariables false
set_option maxRecDepth 20000

theorem both_no (w : World) (a : Option Addr) (Ld c : Nat) (h : Ld % 512 ≠ 0 ∨ 32768 < Ld) (hL : Ld < 9223372036854775808) : Calls Tryz.prog 9 #[.int .i64 256, .slice a Ld c] w fun e w' => e = .returned (.tuple #[.pointer none, .pointer none, .pointer none]) ∧ Kp noB w w' := by
  have HM : Hid _ := Rm.new_ok w 256 (by decide) (by decide)
  have HR : Hid (∀ W, _) := fun W => Rm.refNew_ok W 256 (by decide) (by decide)
  have HN : Hid (∀ W b, _) := fun W b => new_no W b a Ld c h hL
  have HX : Hid (∀ W b, _) := fun W b => dnew_no W b a Ld c h hL
  clear h hL
  go_enter Tryz.func9, Tryz.ntmps9
  go_wp2_with fail
  refine Calls.mono HM.out ?_; rintro e w1 ⟨rfl, m1, z1, b1⟩
  have K1 : Hid (Kp noB w w1) := kBelow b1
  generalize w.heap.size + 3 = M at *
  clear m1 z1 b1 HM
  go_wp2_with fail
  refine Calls.mono (HR.out w1) ?_; rintro e w2 ⟨R, rfl, r1, r2, r3⟩
  have K2 : Hid (Kp noB w w2) := K1.out.trans (kRm r3)
  clear r1 r2 r3 HR K1
  go_wp2_with fail
  refine Calls.mono (HN.out _ _) ?_; rintro e w3 ⟨rfl, hw⟩; replace hw := hw.symm; subst hw
  go_wp2_with fail
  refine Calls.mono (HX.out _ _) ?_; rintro e w3 ⟨rfl, hw⟩; replace hw := hw.symm; subst hw
  clear HN HX
  go_wp2
  refine bodyPost_ret (results_tmp3 rfl _ _ _) rfl ?_
  exact ⟨rfl, K2.out⟩

theorem plays_bad (W : World) (ad : Option Addr) (Ld cd : Nat) (bad : Ld % 512 ≠ 0 ∨ 32768 < Ld) (le : Ld ≤ 140737488351232) (a0 : Option Addr) (Ln cap : Nat) : Calls Tryz.prog 3 #[.slice ad Ld cd, .slice a0 Ln cap] W fun e w' => e = .returned (.bool true) ∧ Below W.heap.size W w' := by
  have HA : Hid (∀ w, _) := awake_ok
  have HM : Hid (∀ w, _) := fun w => Rm.new_ok w 1 (by decide) (by decide)
  have HR : Hid (∀ W, _) := fun W => Rm.refNew_ok W 1 (by decide) (by decide)
  have HN : Hid (∀ W b, _) := fun W b => new_no W b ad Ld cd bad (by omega)
  have HX : Hid (∀ W b, _) := fun W b => dnew_no W b ad Ld cd bad (by omega)
  have HB : Hid (∀ w, _) := fun w => both_no w ad Ld cd bad (by omega)
  have HE : Hid (∀ w' : World, Kp noB W w' → Below W.heap.size W w') := fun w' h => kpE h
  clear bad le
  go_enter Tryz.func3, Tryz.ntmps3
  go_wp2_with fail
  refine Calls.mono (HA.out _) ?_; rintro e w0 ⟨rfl, q0⟩
  have Q0 : Hid (Kp noB W w0) := q0
  have HM0 : Hid _ := HM.out w0
  clear q0 HA HM
  go_wp2_with fail
  refine Calls.mono HM0.out ?_; rintro e w1 ⟨rfl, m1, z1, b1⟩
  have Q1 : Hid (Kp noB W w1) := Q0.out.trans (kBelow b1)
  generalize w0.heap.size + 3 = M at *
  clear m1 z1 b1 HM0 Q0
  go_wp2_with fail
  refine Calls.mono (HN.out _ _) ?_; rintro e w3 ⟨rfl, hw⟩; replace hw := hw.symm; subst hw
  clear HN
  go_wp2_with fail
  refine Calls.mono (HR.out w1) ?_; rintro e w2 ⟨R, rfl, r1, r2, r3⟩
  have Q2 : Hid (Kp noB W w2) := Q1.out.trans (kRm r3)
  clear r1 r2 r3 HR Q1
  go_wp2_with fail
  refine Calls.mono (HX.out _ _) ?_; rintro e w3 ⟨rfl, hw⟩; replace hw := hw.symm; subst hw
  clear HX
  go_wp2_with fail
  refine Calls.mono (HB.out w2) ?_; rintro e w3 ⟨rfl, q3⟩
  have KZ : Hid _ := HE.out _ (Q2.out.trans q3)
  clear q3 Q2 HB HE
  go_wp2
  go_ret
  exact ⟨rfl, KZ.out⟩

set_option maxHeartbeats 8000000 in
theorem plays_good (W : World) (ad : Option Addr) (Ld cd : Nat) (bt : Nat → Int) (hbt : Dk.BytIn W ad Ld bt) (h1 : Ld % 512 = 0) (h2 : Ld ≤ 32768) (a0 : Option Addr) (Ln cap : Nat) (lq : Ln ≤ 4398046510976) (ws : ∀ i, i < Ln → OpIn W a0 i) : Calls Tryz.prog 3 #[.slice ad Ld cd, .slice a0 Ln cap] W fun e w' => e = .returned (.bool true) ∧ Below W.heap.size W w' := by
  have HA : Hid (∀ w, _) := awake_ok
  have HY : Hid (∀ w, Kp noB W w → Dk.BytAt w ad Ld bt) := fun w k => hbt.at'.kept (dkK k) (fun _ _ => id)
  have HC : Hid (∀ w, Kp noB W w → _) := fun w k => firstC w ad Ld cd bt (HY.out w k) hbt.bd h1 h2
  have HD : Hid (∀ w, Kp noB W w → _) := fun w k => firstD w ad Ld cd bt (HY.out w k) hbt.bd h1 h2
  have HB : Hid (∀ w, Kp noB W w → _) := fun w k => both_ok w 256 (by decide) (by decide) ad Ld cd bt (HY.out w k) hbt.bd h1 h2
  have okd : (Dk.id0 (Ld / 512) (Dk.dB Ld bt)).Ok := Dk.idN_ok h2 hbt.bd
  unfold BothP at HB
  obtain ⟨x0, hx0⟩ : ∃ x0, x0 = (bm0 (Ld / 512) (Dk.dB Ld bt) (Rm.mem0 256)).tell := ⟨_, rfl⟩
  have G0 : Hid (Gt x0) := by rw [hx0]; exact ⟨(bm0_ok okd).tell, rfl⟩
  have W0 : Hid (x0.wk = 0) := by rw [hx0]; rfl
  rw [← hx0] at HB
  have HO : Hid (∀ w i, i < Ln → Kp noB W w → OpIn w a0 i) := fun w i hi k => (ws i hi).kp k
  have HE : Hid (∀ w' : World, Kp noB W w' → Below W.heap.size W w') := fun w' h => kpE h
  clear hbt h1 h2 okd hx0 ws HY
  go_enter Tryz.func3, Tryz.ntmps3
  go_wp2_with fail
  refine Calls.mono (HA.out _) ?_; rintro e w0 ⟨rfl, q0⟩
  have Q0 : Hid (Kp noB W w0) := q0
  have H0 : Hid _ := HC.out _ q0
  clear q0 HA HC
  go_wp2_with fail
  refine Calls.mono H0.out ?_; rintro e w1 ⟨A, rfl, c1⟩
  have C1 : Hid _ := c1
  clear c1 H0
  go_wp2_with fail
  refine Calls.mono C1.out ?_; rintro e w2 ⟨v1, rfl, q2⟩
  have Q2 : Hid (Kp noB W w2) := Q0.out.trans q2
  have H2 : Hid _ := HD.out _ Q2.out
  clear q2 C1 Q0 HD
  go_wp2_with fail
  refine Calls.mono H2.out ?_; rintro e w3 ⟨A2, rfl, c3⟩
  have C3 : Hid _ := c3
  clear c3 H2
  go_wp2_with fail
  refine Calls.mono C3.out ?_; rintro e w4 ⟨v2, rfl, q4⟩
  have Q4 : Hid (Kp noB W w4) := Q2.out.trans q4
  have H4 : Hid _ := HB.out _ Q4.out
  clear q4 C3 Q2 HB
  go_wp2_with fail
  refine Calls.mono H4.out ?_; rintro e w5 ⟨Lb, Ld', rfl, p5⟩
  have P5 : Hid (Hs w4 w5 (TT (fun _ => .none) Lb x0 Ld' x0)) := by rw [← TT.two]; exact p5
  have RN : Hid ((fun _ => Res.none) 2 = Res.none ∧ (fun _ => Res.none) 3 = Res.none) := ⟨rfl, rfl⟩
  clear p5 H4
  generalize hR : (fun _ => Res.none : Nat → Res) = R at P5 RN
  clear hR
  go_wp2_with fail
  go_loopw [17] (fun s17 wr => ∃ (i : Nat) (x : Bm), s17 = .int .i64 i ∧ i ≤ Ln ∧ i ≤ 300 ∧ Gt x ∧ x.wk ≤ 16 * i ∧ Hs w4 wr (TT R Lb x Ld' x)) (fun s17 _ => (300 - intOf s17).toNat)
  case atStart => exact ⟨0, x0, rfl, by omega, by omega, G0.out, by rw [W0.out]; omega, P5.out⟩
  case round =>
    clear P5 G0 W0
    obtain ⟨i, x, rfl, hi, h3, g, hw, hh⟩ := hrel
    by_cases hlt : i < Ln ∧ i < 300
    · obtain ⟨l1, l2⟩ := hlt
      obtain ⟨blk, off, kd, pt, sz, v, rfl, hb, ⟨c0, c1, c2, c3⟩, ⟨k0, k1⟩, ⟨p0, p1⟩, ⟨s0, s1⟩, v0, v1⟩ := HO.out wr i l1 (Q4.out.trans hh.kp)
      have HQ : Hid _ := asked_any hh RN.out.1 g (by omega) kd pt sz v p0 p1 v0 v1
      have HX : Hid (x.wk ≤ 16 * i) := hw
      have l1' : (i : Int) < Ln := by omega
      have l2' : (i : Int) < 300 := by omega
      clear hh g hw hb HO k0 k1 s0 s1
      go_wp2_with fail
      refine Calls.mono HQ.out ?_; rintro e w6 ⟨rfl, y, gy, wy, hy⟩
      have GY : Hid (Gt y ∧ y.wk ≤ 16 * (i + 1)) := ⟨gy, by have := HX.out; omega⟩
      have P6 : Hid (Hs w4 w6.drew (TT R Lb y Ld' y)) := hy.drew
      have HF : Hid (∀ w, Hs w4 w (TT R Lb y Ld' y) → _) := fun w h => tSee h
      have HP1 : Hid (∀ w, Hs w4 w (TT R Lb y Ld' y) → _) := fun w h => tPend h gy.ok
      have HP2 : Hid (∀ w, Hs w4 w (TT R Lb y Ld' y) → _) := fun w h => tPendD h
      have HP3 : Hid (∀ w, Hs w4 w (TT R Lb y Ld' y) → _) := fun w h => tNow h
      generalize (y.p.a.next != -1) = pd at *
      generalize hnw : y.now = nw at HF HP3
      clear hnw gy wy hy HX HQ c0 c1 c2 c3
      go_wp2
      refine OrdG.region_vals (τ := Unit) (fun _ => [(.bool true), (.bool false), (.bool false), (.pointer (some ⟨Lb.B, 0, none⟩)), (.bool pd), (.pointer (some ⟨Ld'.B, 0, none⟩)), (.pointer (some ⟨Ld'.B, 0, none⟩)), (.pointer (some ⟨Ld'.B, 1, none⟩)), (.pointer (some ⟨Ld'.P, 0, none⟩)), (.bool pd), (.bool false), (.bool false), (.bool false), (.pointer (some ⟨Lb.B, 0, none⟩)), (.int .u64 nw), (.pointer (some ⟨Ld'.B, 0, none⟩)), (.pointer (some ⟨Ld'.B, 0, none⟩)), (.pointer (some ⟨Ld'.B, 5, none⟩)), (.int .u64 nw), (.bool false), (.bool false)]) (fun _ _ w' => Hs w4 w' (TT R Lb y Ld' y)) () (by kernel_rfl) (by kernel_rfl) (by kernel_rfl) (by kernel_rfl) (fun _ => rfl) (fun t => by simp only [OrdG.puts, Act.put, List.setIfInBounds_toArray, List.set_cons_zero, List.set_cons_succ]; rfl) (fun _ => by kernel_rfl) P6.out ?_ ?_
      · refine ⟨?_, ?_, ?_, ?_, ?_, ?_, ?_, ?_, ?_, ?_, ?_, ?_, ?_, ?_, ?_, ?_, ?_, ?_, ?_, ?_, ?_, trivial⟩
        all_goals (intro t listed W' hz hSh hl hI hb K hK hK0; change Hs w4 W' (TT R Lb y Ld' y) at hI; obtain ⟨s1, s2⟩ := HF.out _ hI)
        · go_simp
          exact hK0 _ hI
        · go_simp
          exact hK0 _ hI
        · go_simp
          exact hK0 _ hI
        · go_simp
          exact hK0 _ hI
        · have H1 : Hid _ := HP1.out _ hI
          go_simp
          refine Calls.mono H1.out ?_; rintro e z5 ⟨rfl, h5⟩
          exact hK0 _ h5
        · go_simp
          exact hK0 _ hI
        · go_simp
          exact hK0 _ hI
        · go_simp
          exact hK0 _ hI
        · go_simp
          exact hK0 _ hI
        · have H1 : Hid _ := HP2.out _ hI
          go_simp
          refine Calls.mono H1.out ?_; rintro e z5 ⟨rfl, h5⟩
          exact hK0 _ h5
        · go_simp
          exact hK0 _ hI
        · go_simp
          exact hK0 _ hI
        · go_simp
          exact hK0 _ hI
        · go_simp
          exact hK0 _ hI
        · have H1 : Hid _ := HP3.out _ hI
          go_simp
          refine Calls.mono H1.out ?_; rintro e z5 ⟨rfl, hz5⟩
          subst hz5
          exact hK0 _ hI
        · go_simp
          exact hK0 _ hI
        · go_simp
          exact hK0 _ hI
        · go_simp
          exact hK0 _ hI
        · go_simp
          exact hK0 _ hI
        · go_simp
          exact hK0 _ hI
        · go_simp
          exact hK0 _ hI
      · intro t listed W' hall hI
        have P7 : Hid _ := hI
        clear hI hall P6 HF HP1 HP2 HP3
        go_wp2
        go_roundw
        case rel => exact ⟨i + 1, y, by go_num, by omega, by omega, GY.out.1, GY.out.2, P7.out⟩
        case measure => simp [intOf]; omega
    · have hle : x.d.log.length < 4611686018427387904 := by
        have := hw
        unfold Bm.wk Dk.Id.work at this
        omega
      obtain ⟨y, hy⟩ : ∃ y : Bm, y = { x with m := x.m.put false 0 7 } := ⟨_, rfl⟩
      have r7 : y.m.read 1048576 1 = seven x.cl := by rw [hy]; show (x.m.put false 0 7).read 1048576 1 = _; rw [g.m]; exact gate_seven x.cl
      have ky : y.Ok := by rw [hy]; exact { g.ok with }
      have yl : y.d.log.length < 4611686018427387904 := by rw [hy]; exact hle
      have yc : y.cl = x.cl := by rw [hy]
      have HW : Hid (Calls Tryz.prog 14 #[.pointer (some ⟨Lb.M + 3, 0, none⟩), .int .u32 0, .int .i64 1, .int .u32 7] wr fun e w' => e = .returned (.int .i64 0) ∧ Hs w4 w' (TT R Lb y Ld' y)) := by
        rw [hy]
        exact tWrite hh 0 7 (by decide) (by decide) ⟨by decide, by decide⟩
      have HQ : Hid (∀ w', Hs w4 w' (TT R Lb y Ld' y) → Calls Tryz.prog 15 #[.pointer (some ⟨Lb.M + 3, 0, none⟩), .int .u32 1048576, .int .i64 1] w' fun e w' => e = .returned (.tuple #[.int .u32 (seven x.cl), .int .i64 0]) ∧ Hs w4 w' (TT R Lb y Ld' y)) := fun w' h => by
        have := tRead h 1048576 (by decide) (by decide)
        rw [r7] at this
        exact this
      have HG : Hid (∀ w', Hs w4 w' (TT R Lb y Ld' y) → w'.cell? ⟨Ld'.B, 0, none⟩ = some (.pointer (some ⟨Ld'.M, 0, none⟩)) ∧ w'.cell? ⟨Ld'.M, 4, none⟩ = some (.bool x.cl)) := fun w' h => by
        have := tGate h
        rw [yc] at this
        exact this
      have HL : Hid (∀ w', Hs w4 w' (TT R Lb y Ld' y) → _) := fun w' h => alike_ok h RN.out.1 RN.out.2 ky yl
      have HZ : Hid (∀ w', Kp noB w4 w' → Below W.heap.size W w') := fun w' k => HE.out _ (Q4.out.trans k)
      have hge : ¬ (i : Int) < Ln ∨ ((i : Int) < Ln ∧ ¬ (i : Int) < 300) := by omega
      generalize Lb.M + 3 = M3 at *
      generalize x.cl = cl at HQ HG r7 yc
      clear g hw hh hlt hle hy r7 ky yl yc HE Q4 RN HO hi h3
      cases cl
      · have e7 : seven false = 255 := rfl
        rw [e7] at HQ
        clear e7
        rcases hge with hge | ⟨hg1, hg2⟩
        all_goals
          go_wp2_with fail
          refine Calls.mono HW.out ?_; rintro e z1 ⟨rfl, t1⟩
          have T1 : Hid _ := HQ.out _ t1
          clear t1 HW HQ
          go_wp2_with fail
          refine Calls.mono T1.out ?_; rintro e z2 ⟨rfl, t2⟩
          obtain ⟨d0, d4⟩ := HG.out _ t2
          have T2 : Hid _ := HL.out _ t2
          clear t2 T1 HG HL
          go_wp2_with fail
          refine Calls.mono T2.out ?_; rintro e z3 ⟨rfl, t3⟩
          have T3 : Hid _ := HZ.out _ t3
          clear t3 T2 HZ d0 d4
          go_wp2
          go_ret
          exact ⟨rfl, T3.out⟩
      · have e7 : seven true = 7 := rfl
        rw [e7] at HQ
        clear e7
        rcases hge with hge | ⟨hg1, hg2⟩
        all_goals
          go_wp2_with fail
          refine Calls.mono HW.out ?_; rintro e z1 ⟨rfl, t1⟩
          have T1 : Hid _ := HQ.out _ t1
          clear t1 HW HQ
          go_wp2_with fail
          refine Calls.mono T1.out ?_; rintro e z2 ⟨rfl, t2⟩
          obtain ⟨d0, d4⟩ := HG.out _ t2
          have T2 : Hid _ := HL.out _ t2
          clear t2 T1 HG HL
          go_wp2_with fail
          refine Calls.mono T2.out ?_; rintro e z3 ⟨rfl, t3⟩
          have T3 : Hid _ := HZ.out _ t3
          clear t3 T2 HZ d0 d4
          go_wp2
          go_ret
          exact ⟨rfl, T3.out⟩

theorem BusPlays_walk (W : World) (ad : Option Addr) (Ld cd : Nat) (bt : Nat → Int) (hbt : Dk.BytIn W ad Ld bt) (a0 : Option Addr) (Ln cap : Nat) (lq : Ln ≤ 4398046510976) (ws : ∀ i, i < Ln → OpIn W a0 i) : Calls Tryz.prog 3 #[.slice ad Ld cd, .slice a0 Ln cap] W fun e w' => e = .returned (.bool true) ∧ Below W.heap.size W w' := by
  by_cases h : Ld % 512 = 0 ∧ Ld ≤ 32768
  · exact plays_good W ad Ld cd bt hbt h.1 h.2 a0 Ln cap lq ws
  · exact plays_bad W ad Ld cd (by omega) hbt.le a0 Ln cap
end Go.Proofs.YtonfjhbfkichkaaGreat.Bs
