/- The walk of BusTicks. -/
import Derived.Test.YtclejmdmbanedaaGreatBsDuo
namespace Go.Proofs.YtclejmdmbanedaaGreat.Bs
open Go.ChangeShapes Go.WideShapes Go.ChangeAt Go.RowKit
open Go.Proofs.YtclejmdmbanedaaGreat.Ut (Kp heap_lt heap_kept heap_set heap_new noB isB kpB)
set_option linter.unusedVariables false
set_option maxRecDepth 20000

set_option maxHeartbeats 4000000 in
theorem BusTicks_walk (W : World) (a0 : Option Addr) (L cap : Nat) (lq : L ≤ 4398046510976) (ws : ∀ i, i < L → OpIn W a0 i) (a1 : Option Addr) (L2 cap2 : Nat) (lq2 : L2 ≤ 17592186043904) (wi : IntsIn W a1 L2) : Calls Tryz.prog 4 #[.slice a0 L cap, .slice a1 L2 cap2] W fun e w' => e = .returned (.bool true) ∧ Below W.heap.size W w' := by
  have WI : Hid (IntsIn W a1 L2) := wi
  clear wi
  have HA : Hid (∀ w, _) := awake_ok
  have HB : Hid (∀ w, _) := both20
  have HS : Hid (∀ i, i < L → OpIn W a0 i) := ws
  have HE : Hid (∀ w0 w' : World, Kp noB W w0 → Kp noB w0 w' → Below W.heap.size W w') := fun w0 w' h k => kpE (h.trans k)
  clear ws
  go_enter Tryz.func4, Tryz.ntmps4
  go_wp2_with fail
  refine Calls.mono (HA.out _) ?_; rintro e w0 ⟨rfl, q0⟩
  have Q0 : Hid (Kp noB W w0) := q0
  clear q0 HA
  go_wp2_with fail
  refine Calls.mono (HB.out _) ?_; rintro e w1 ⟨rfl, q1, hb1⟩
  have Q1 : Hid (Kp noB W w1) := Q0.out.trans q1
  have HB1 : Hid _ := hb1
  clear q1 hb1 Q0
  go_wp2_with fail
  refine Calls.mono HB1.out ?_; rintro e w2 ⟨Lb, Lb', rfl, p2⟩
  have P2 : Hid _ := p2
  clear p2 HB1
  go_wp2_with fail
  refine Calls.mono (HB.out _) ?_; rintro e w3 ⟨rfl, q3, hb3⟩
  have P3 : Hid (Hs w1 w3 (two (busR Lb x20) (docR Lb' x20))) := P2.out.keep q3
  have HB3 : Hid _ := hb3
  clear q3 hb3 P2 HB
  go_wp2_with fail
  refine Calls.mono HB3.out ?_; rintro e w4 ⟨Lc, Lc', rfl, p4⟩
  have P4 : Hid (Hs w1 w4 (DD (joinR 2 (two .none (docR Lb' x20)) (two .none (docR Lc' x20))) Lb x20 Lc x20)) := by rw [← join_dd]; exact P3.out.join p4 2
  have R5 : Hid (joinR 2 (two .none (docR Lb' x20)) (two .none (docR Lc' x20)) 5 = Res.none ∧ joinR 2 (two .none (docR Lb' x20)) (two .none (docR Lc' x20)) 6 = Res.none ∧ joinR 2 (two .none (docR Lb' x20)) (two .none (docR Lc' x20)) 7 = Res.none) := ⟨join_free (by decide), join_free (by decide), join_free (by decide)⟩
  generalize joinR 2 (two .none (docR Lb' x20)) (two .none (docR Lc' x20)) = R at *
  have QX : Hid (Qt x20 ∧ x20.wk ≤ 0) := ⟨qt20, by rw [wk20]; exact Nat.le_refl 0⟩
  generalize x20 = x0 at *
  clear p4 HB3 P3
  go_wp2_with fail
  go_loopw [12] (fun s wr => ∃ (i : Nat) (x : Bm), s = .int .i64 i ∧ i ≤ L ∧ i ≤ 100 ∧ Hs w1 wr (DD R Lb x Lc x) ∧ Qt x ∧ x.wk ≤ 16 * i) (fun s _ => 100 - (intOf s).toNat)
  case atStart => exact ⟨0, x0, rfl, by omega, by omega, P4.out, QX.out.1, by have := QX.out.2; omega⟩
  case round =>
    clear P4 QX
    obtain ⟨i, x, rfl, hi, h100, hh, qt, hw⟩ := hrel
    by_cases hgo : i < L ∧ i < 100
    · obtain ⟨blk, off, kd, pt, sz, v, rfl, hblk, ⟨c0, c1, c2, c3⟩, ⟨bd0, bd1⟩, ⟨bp0, bp1⟩, ⟨bs0, bs1⟩, ⟨v0, v1⟩⟩ := (HS.out i hgo.1).kp (Q1.out.trans hh.kp)
      have hL1 : i < L := hgo.1
      have hL2 : i < 100 := hgo.2
      have P5 : Hid (Hs w1 (wr.alloc (opO kd pt sz v)) (DD (updR R 5 (.blk wr.heap.size (opO kd pt sz v))) Lb x Lc x)) := ddNew hh R5.out.1 (by decide) (by decide) _
      have CX : Hid (∀ w X x y, Hs w1 w (DD (updR R 5 (.blk X (opO kd pt sz v))) Lb x Lc y) → _) := fun w X x y h => opO_cells (ddBlk h (by decide) (by decide))
      have DX : Hid (∀ w X x y, Hs w1 w (DD (updR R 5 (.blk X (opO kd pt sz v))) Lb x Lc y) → Hs w1 w (DD R Lb x Lc y)) := fun w X x y h => ddDrop h R5.out.1 (by decide) (by decide)
      unfold opO at P5
      clear hh hblk hgo
      by_cases e1 : kd = 1
      · subst e1
        have KK : Hid (Qt (x.out pt sz v) ∧ (x.out pt sz v).wk ≤ 16 * (i + 1)) := ⟨qt.out _ _ _, by have := out_wk qt.ok pt sz v; omega⟩
        have H1 : Hid (∀ w X, Hs w1 w (DD (updR R 5 (.blk X (opO 1 pt sz v))) Lb x Lc x) → _) := fun w X h => outB h qt.ok pt sz v bp0 bp1 v0 v1 (by omega)
        have H2 : Hid (∀ w X, Hs w1 w (DD (updR R 5 (.blk X (opO 1 pt sz v))) Lb (x.out pt sz v) Lc x) → _) := fun w X h => outC h qt.ok pt sz v bp0 bp1 v0 v1 (by omega)
        generalize x.out pt sz v = x' at *
        generalize erS sz = er at *
        clear qt hw
        go_wp2_with fail
        generalize wr.alloc _ = w5 at P5 ⊢
        generalize wr.heap.size = X at P5 ⊢
        refine Calls.mono (H1.out _ _ P5.out) ?_; rintro e w6 ⟨rfl, p6⟩
        obtain ⟨o0, o1, o2, o3⟩ := CX.out _ _ _ _ p6
        have P6 : Hid _ := p6
        clear p6 P5 H1 c0 c1 c2 c3
        go_wp2_with fail
        refine Calls.mono (H2.out _ _ P6.out) ?_; rintro e w7 ⟨rfl, p7⟩
        have P7 : Hid (Hs w1 w7 (DD R Lb x' Lc x')) := DX.out _ _ _ _ p7
        clear p7 P6 H2 o0 o1 o2 o3 CX DX
        go_wp2
        go_roundw
        case rel => exact ⟨i + 1, x', by go_num, by omega, by omega, P7.out, KK.out.1, KK.out.2⟩
        case measure => simp [intOf]; omega
      · have e1' : (kd == 1) = false := by rw [beq_eq_false_iff_ne]; exact e1
        have KK : Hid (Qt x ∧ x.wk ≤ 16 * (i + 1)) := ⟨qt, by omega⟩
        clear qt hw
        go_wp2
        go_roundw
        case rel => exact ⟨i + 1, x, by go_num, by omega, by omega, DX.out _ _ _ _ P5.out, KK.out.1, KK.out.2⟩
        case measure => simp [intOf]; omega
    · have P5 : Hid (Hs w1 wr (DD R Lb x Lc x)) := hh
      have QX : Hid (Qt x ∧ x.wk ≤ 1600) := ⟨qt, by omega⟩
      have hend : i < L → ¬ i < 100 := fun a b => hgo ⟨a, b⟩
      clear hh qt hw hgo HS
      generalize wr = w5 at *
      by_cases hl : i < L
      · have hh := hend hl
        clear hend
        go_wp2_with fail
        go_loopw [14, 15] (fun s14 s15 wr => ∃ (j A : Nat), s14 = .int .i64 A ∧ s15 = .int .i64 j ∧ j ≤ 20 ∧ j ≤ L2 ∧ A ≤ 5000 * j ∧ Hs w1 wr (DD R Lb (Bm.ticks A x) Lc x)) (fun _ s15 _ => 20 - (intOf s15).toNat)
        case atStart => exact ⟨0, 0, rfl, rfl, by omega, by omega, by omega, P5.out⟩
        case round =>
          clear P5
          obtain ⟨j, A, rfl, rfl, j20, jL, hA, hh⟩ := hrel
          by_cases hgo : j < L2 ∧ j < 20
          · obtain ⟨blk, off, z, rfl, hblk, cz, z0, z1⟩ := (WI.out.kp (Q1.out.trans hh.kp)) j hgo.1
            have hL1 : j < L2 := hgo.1
            have hL2 : j < 20 := hgo.2
            obtain ⟨n, hn⟩ : ∃ n, n = z.tmod 5000 := ⟨_, rfl⟩
            have n0 : -5000 < n ∧ n < 5000 := by
              have a := Int.tmod_lt_of_pos z (show (0 : Int) < 5000 by decide)
              have b := Int.lt_tmod_of_pos z (show (0 : Int) < 5000 by decide)
              rw [hn]
              exact ⟨by omega, by omega⟩
            have f1 : z.tmod 5000 = n := hn.symm
            have f2 : IntKind.i64.wrap (z.tmod 5000) = n := by rw [IntKind.wrap_i64]; omega
            have et : (Bm.ticks A x).tickN n = Bm.ticks (A + n.toNat) x := by
              unfold Bm.tickN
              rw [if_neg (by omega), ticks_add]
            have HT : Hid (Calls Tryz.prog 23 #[.pointer (some ⟨Lb.B, 0, none⟩), .int .i64 n] wr fun e w' => e = .returned (.tuple #[]) ∧ Hs w1 w' (DD R Lb (Bm.ticks (A + n.toNat) x) Lc x)) := by
              have := tickB hh (QX.out.1.ok.ticks A) n (by omega)
              rw [et] at this
              exact this
            clear hh hgo hblk et hn
            by_cases hp : n > 0
            · obtain ⟨N, rfl⟩ : ∃ N : Nat, n = N := ⟨n.toNat, by omega⟩
              rw [Int.toNat_natCast] at HT
              have f3 : IntKind.i64.wrap ((A : Int) + N) = ((A + N : Nat) : Int) := by rw [IntKind.wrap_i64]; omega
              have hp' : 0 < N := by omega
              have hN5 : N < 5000 := by omega
              clear n0
              go_wp2_with fail
              refine Calls.mono HT.out ?_; rintro e w6 ⟨rfl, p6⟩
              have P6 : Hid _ := p6
              clear p6 HT cz f1 f2
              go_wp2
              go_roundw
              case rel => exact ⟨j + 1, A + N, by first | rfl | go_num, by go_num, by omega, by omega, by omega, P6.out⟩
              case measure => simp [intOf]; omega
            · rw [show A + n.toNat = A by omega] at HT
              go_wp2_with fail
              refine Calls.mono HT.out ?_; rintro e w6 ⟨rfl, p6⟩
              have P6 : Hid _ := p6
              clear p6 HT cz f1 f2
              go_wp2
              go_roundw
              case rel => exact ⟨j + 1, A, rfl, by go_num, by omega, by omega, by omega, P6.out⟩
              case measure => simp [intOf]; omega
          · have et : x.tickN A = Bm.ticks A x := by rw [tickN_is QX.out.1 A (by omega) (by omega), Int.toNat_natCast]
            have kz : (Bm.ticks A x).Ok := QX.out.1.ok.ticks A
            have HT : Hid (Calls Tryz.prog 23 #[.pointer (some ⟨Lc.B, 0, none⟩), .int .i64 A] wr fun e w' => e = .returned (.tuple #[]) ∧ Hs w1 w' (DD R Lb (Bm.ticks A x) Lc (Bm.ticks A x))) := by
              have := tickC hh QX.out.1.ok A (by omega)
              rw [et] at this
              exact this
            have hend2 : j < L2 → ¬ j < 20 := fun a b => hgo ⟨a, b⟩
            clear hh et hgo
            generalize Bm.ticks A x = z at *
            obtain ⟨z2, hz2⟩ : ∃ z2, z2 = z.inn 64 1 := ⟨_, rfl⟩
            have k2 : z2.Ok := by rw [hz2]; exact kz.inn _ _
            have H1 : Hid (∀ w, Hs w1 w (DD R Lb z Lc z) → _) := fun w h => inB h kz 64 1 (by decide) (by decide)
            have H2 : Hid (∀ w, Hs w1 w (DD R Lb z2 Lc z) → _) := fun w h => inC h kz 64 1 (by decide) (by decide)
            rw [← hz2] at H1 H2
            generalize z.innV 64 1 = V at *
            have H3 : Hid (∀ w, Hs w1 w (DD R Lb z2 Lc z2) → _) := fun w h => nowB h
            have H4 : Hid (∀ w, Hs w1 w (DD R Lb z2 Lc z2) → _) := fun w h => nowC h
            have H5 : Hid (∀ w, Hs w1 w (DD R Lb z2 Lc z2) → _) := fun w h => pendB h k2
            have H6 : Hid (∀ w, Hs w1 w (DD R Lb z2 Lc z2) → _) := fun w h => pendC h k2
            have H7 : Hid (∀ w, Hs w1 w (DD R Lb z2 Lc z2) → _) := fun w h => ackB h k2
            have H8 : Hid (∀ w, Hs w1 w (DD R Lb z2.ack Lc z2) → _) := fun w h => ackC h k2
            generalize z2.now = T at *
            generalize (z2.p.a.next != -1) = B1 at *
            generalize z2.p.vec = V8 at *
            have EV : erS 1 = 0 := rfl
            rw [EV] at H1 H2
            have hgA : j < L2 ∨ ¬ j < L2 := Decidable.em _
            clear kz k2 hz2 EV QX
            rcases hgA with hgA | hgA
            · have hg2 := hend2 hgA
              clear hend2
              go_wp2_with fail
              refine Calls.mono HT.out ?_; rintro e y1 ⟨rfl, p⟩
              have P6 : Hid _ := p
              clear p HT
              go_wp2_with fail
              refine Calls.mono (H1.out _ P6.out) ?_; rintro e y2 ⟨rfl, p⟩
              have P7 : Hid _ := p
              clear p H1 P6
              go_wp2_with fail
              refine Calls.mono (H2.out _ P7.out) ?_; rintro e y3 ⟨rfl, p⟩
              have P8 : Hid _ := p
              clear p H2 P7
              go_wp2_with fail
              refine Calls.mono (H3.out _ P8.out) ?_; rintro e y4 ⟨rfl, hz⟩; replace hz := hz.symm; subst hz
              go_wp2_with fail
              refine Calls.mono (H4.out _ P8.out) ?_; rintro e y4 ⟨rfl, hz⟩; replace hz := hz.symm; subst hz
              go_wp2_with fail
              refine Calls.mono (H5.out _ P8.out) ?_; rintro e y4 ⟨rfl, p⟩
              have P9 : Hid _ := p
              clear p H5 P8
              go_wp2_with fail
              refine Calls.mono (H6.out _ P9.out) ?_; rintro e y5 ⟨rfl, p⟩
              have P10 : Hid _ := p
              clear p H6 P9
              go_wp2_with fail
              refine Calls.mono (H7.out _ P10.out) ?_; rintro e y6 ⟨rfl, p⟩
              have P11 : Hid _ := p
              clear p H7 P10
              go_wp2_with fail
              refine Calls.mono (H8.out _ P11.out) ?_; rintro e y7 ⟨rfl, p⟩
              have KZ : Hid _ := HE.out _ _ Q1.out p.kp
              clear p H8 P11
              go_wp2
              go_ret
              exact ⟨rfl, KZ.out⟩
            · clear hend2
              go_wp2_with fail
              refine Calls.mono HT.out ?_; rintro e y1 ⟨rfl, p⟩
              have P6 : Hid _ := p
              clear p HT
              go_wp2_with fail
              refine Calls.mono (H1.out _ P6.out) ?_; rintro e y2 ⟨rfl, p⟩
              have P7 : Hid _ := p
              clear p H1 P6
              go_wp2_with fail
              refine Calls.mono (H2.out _ P7.out) ?_; rintro e y3 ⟨rfl, p⟩
              have P8 : Hid _ := p
              clear p H2 P7
              go_wp2_with fail
              refine Calls.mono (H3.out _ P8.out) ?_; rintro e y4 ⟨rfl, hz⟩; replace hz := hz.symm; subst hz
              go_wp2_with fail
              refine Calls.mono (H4.out _ P8.out) ?_; rintro e y4 ⟨rfl, hz⟩; replace hz := hz.symm; subst hz
              go_wp2_with fail
              refine Calls.mono (H5.out _ P8.out) ?_; rintro e y4 ⟨rfl, p⟩
              have P9 : Hid _ := p
              clear p H5 P8
              go_wp2_with fail
              refine Calls.mono (H6.out _ P9.out) ?_; rintro e y5 ⟨rfl, p⟩
              have P10 : Hid _ := p
              clear p H6 P9
              go_wp2_with fail
              refine Calls.mono (H7.out _ P10.out) ?_; rintro e y6 ⟨rfl, p⟩
              have P11 : Hid _ := p
              clear p H7 P10
              go_wp2_with fail
              refine Calls.mono (H8.out _ P11.out) ?_; rintro e y7 ⟨rfl, p⟩
              have KZ : Hid _ := HE.out _ _ Q1.out p.kp
              clear p H8 P11
              go_wp2
              go_ret
              exact ⟨rfl, KZ.out⟩
      · clear hend
        go_wp2_with fail
        go_loopw [14, 15] (fun s14 s15 wr => ∃ (j A : Nat), s14 = .int .i64 A ∧ s15 = .int .i64 j ∧ j ≤ 20 ∧ j ≤ L2 ∧ A ≤ 5000 * j ∧ Hs w1 wr (DD R Lb (Bm.ticks A x) Lc x)) (fun _ s15 _ => 20 - (intOf s15).toNat)
        case atStart => exact ⟨0, 0, rfl, rfl, by omega, by omega, by omega, P5.out⟩
        case round =>
          clear P5
          obtain ⟨j, A, rfl, rfl, j20, jL, hA, hh⟩ := hrel
          by_cases hgo : j < L2 ∧ j < 20
          · obtain ⟨blk, off, z, rfl, hblk, cz, z0, z1⟩ := (WI.out.kp (Q1.out.trans hh.kp)) j hgo.1
            have hL1 : j < L2 := hgo.1
            have hL2 : j < 20 := hgo.2
            obtain ⟨n, hn⟩ : ∃ n, n = z.tmod 5000 := ⟨_, rfl⟩
            have n0 : -5000 < n ∧ n < 5000 := by
              have a := Int.tmod_lt_of_pos z (show (0 : Int) < 5000 by decide)
              have b := Int.lt_tmod_of_pos z (show (0 : Int) < 5000 by decide)
              rw [hn]
              exact ⟨by omega, by omega⟩
            have f1 : z.tmod 5000 = n := hn.symm
            have f2 : IntKind.i64.wrap (z.tmod 5000) = n := by rw [IntKind.wrap_i64]; omega
            have et : (Bm.ticks A x).tickN n = Bm.ticks (A + n.toNat) x := by
              unfold Bm.tickN
              rw [if_neg (by omega), ticks_add]
            have HT : Hid (Calls Tryz.prog 23 #[.pointer (some ⟨Lb.B, 0, none⟩), .int .i64 n] wr fun e w' => e = .returned (.tuple #[]) ∧ Hs w1 w' (DD R Lb (Bm.ticks (A + n.toNat) x) Lc x)) := by
              have := tickB hh (QX.out.1.ok.ticks A) n (by omega)
              rw [et] at this
              exact this
            clear hh hgo hblk et hn
            by_cases hp : n > 0
            · obtain ⟨N, rfl⟩ : ∃ N : Nat, n = N := ⟨n.toNat, by omega⟩
              rw [Int.toNat_natCast] at HT
              have f3 : IntKind.i64.wrap ((A : Int) + N) = ((A + N : Nat) : Int) := by rw [IntKind.wrap_i64]; omega
              have hp' : 0 < N := by omega
              have hN5 : N < 5000 := by omega
              clear n0
              go_wp2_with fail
              refine Calls.mono HT.out ?_; rintro e w6 ⟨rfl, p6⟩
              have P6 : Hid _ := p6
              clear p6 HT cz f1 f2
              go_wp2
              go_roundw
              case rel => exact ⟨j + 1, A + N, by first | rfl | go_num, by go_num, by omega, by omega, by omega, P6.out⟩
              case measure => simp [intOf]; omega
            · rw [show A + n.toNat = A by omega] at HT
              go_wp2_with fail
              refine Calls.mono HT.out ?_; rintro e w6 ⟨rfl, p6⟩
              have P6 : Hid _ := p6
              clear p6 HT cz f1 f2
              go_wp2
              go_roundw
              case rel => exact ⟨j + 1, A, rfl, by go_num, by omega, by omega, by omega, P6.out⟩
              case measure => simp [intOf]; omega
          · have et : x.tickN A = Bm.ticks A x := by rw [tickN_is QX.out.1 A (by omega) (by omega), Int.toNat_natCast]
            have kz : (Bm.ticks A x).Ok := QX.out.1.ok.ticks A
            have HT : Hid (Calls Tryz.prog 23 #[.pointer (some ⟨Lc.B, 0, none⟩), .int .i64 A] wr fun e w' => e = .returned (.tuple #[]) ∧ Hs w1 w' (DD R Lb (Bm.ticks A x) Lc (Bm.ticks A x))) := by
              have := tickC hh QX.out.1.ok A (by omega)
              rw [et] at this
              exact this
            have hend2 : j < L2 → ¬ j < 20 := fun a b => hgo ⟨a, b⟩
            clear hh et hgo
            generalize Bm.ticks A x = z at *
            obtain ⟨z2, hz2⟩ : ∃ z2, z2 = z.inn 64 1 := ⟨_, rfl⟩
            have k2 : z2.Ok := by rw [hz2]; exact kz.inn _ _
            have H1 : Hid (∀ w, Hs w1 w (DD R Lb z Lc z) → _) := fun w h => inB h kz 64 1 (by decide) (by decide)
            have H2 : Hid (∀ w, Hs w1 w (DD R Lb z2 Lc z) → _) := fun w h => inC h kz 64 1 (by decide) (by decide)
            rw [← hz2] at H1 H2
            generalize z.innV 64 1 = V at *
            have H3 : Hid (∀ w, Hs w1 w (DD R Lb z2 Lc z2) → _) := fun w h => nowB h
            have H4 : Hid (∀ w, Hs w1 w (DD R Lb z2 Lc z2) → _) := fun w h => nowC h
            have H5 : Hid (∀ w, Hs w1 w (DD R Lb z2 Lc z2) → _) := fun w h => pendB h k2
            have H6 : Hid (∀ w, Hs w1 w (DD R Lb z2 Lc z2) → _) := fun w h => pendC h k2
            have H7 : Hid (∀ w, Hs w1 w (DD R Lb z2 Lc z2) → _) := fun w h => ackB h k2
            have H8 : Hid (∀ w, Hs w1 w (DD R Lb z2.ack Lc z2) → _) := fun w h => ackC h k2
            generalize z2.now = T at *
            generalize (z2.p.a.next != -1) = B1 at *
            generalize z2.p.vec = V8 at *
            have EV : erS 1 = 0 := rfl
            rw [EV] at H1 H2
            have hgA : j < L2 ∨ ¬ j < L2 := Decidable.em _
            clear kz k2 hz2 EV QX
            rcases hgA with hgA | hgA
            · have hg2 := hend2 hgA
              clear hend2
              go_wp2_with fail
              refine Calls.mono HT.out ?_; rintro e y1 ⟨rfl, p⟩
              have P6 : Hid _ := p
              clear p HT
              go_wp2_with fail
              refine Calls.mono (H1.out _ P6.out) ?_; rintro e y2 ⟨rfl, p⟩
              have P7 : Hid _ := p
              clear p H1 P6
              go_wp2_with fail
              refine Calls.mono (H2.out _ P7.out) ?_; rintro e y3 ⟨rfl, p⟩
              have P8 : Hid _ := p
              clear p H2 P7
              go_wp2_with fail
              refine Calls.mono (H3.out _ P8.out) ?_; rintro e y4 ⟨rfl, hz⟩; replace hz := hz.symm; subst hz
              go_wp2_with fail
              refine Calls.mono (H4.out _ P8.out) ?_; rintro e y4 ⟨rfl, hz⟩; replace hz := hz.symm; subst hz
              go_wp2_with fail
              refine Calls.mono (H5.out _ P8.out) ?_; rintro e y4 ⟨rfl, p⟩
              have P9 : Hid _ := p
              clear p H5 P8
              go_wp2_with fail
              refine Calls.mono (H6.out _ P9.out) ?_; rintro e y5 ⟨rfl, p⟩
              have P10 : Hid _ := p
              clear p H6 P9
              go_wp2_with fail
              refine Calls.mono (H7.out _ P10.out) ?_; rintro e y6 ⟨rfl, p⟩
              have P11 : Hid _ := p
              clear p H7 P10
              go_wp2_with fail
              refine Calls.mono (H8.out _ P11.out) ?_; rintro e y7 ⟨rfl, p⟩
              have KZ : Hid _ := HE.out _ _ Q1.out p.kp
              clear p H8 P11
              go_wp2
              go_ret
              exact ⟨rfl, KZ.out⟩
            · clear hend2
              go_wp2_with fail
              refine Calls.mono HT.out ?_; rintro e y1 ⟨rfl, p⟩
              have P6 : Hid _ := p
              clear p HT
              go_wp2_with fail
              refine Calls.mono (H1.out _ P6.out) ?_; rintro e y2 ⟨rfl, p⟩
              have P7 : Hid _ := p
              clear p H1 P6
              go_wp2_with fail
              refine Calls.mono (H2.out _ P7.out) ?_; rintro e y3 ⟨rfl, p⟩
              have P8 : Hid _ := p
              clear p H2 P7
              go_wp2_with fail
              refine Calls.mono (H3.out _ P8.out) ?_; rintro e y4 ⟨rfl, hz⟩; replace hz := hz.symm; subst hz
              go_wp2_with fail
              refine Calls.mono (H4.out _ P8.out) ?_; rintro e y4 ⟨rfl, hz⟩; replace hz := hz.symm; subst hz
              go_wp2_with fail
              refine Calls.mono (H5.out _ P8.out) ?_; rintro e y4 ⟨rfl, p⟩
              have P9 : Hid _ := p
              clear p H5 P8
              go_wp2_with fail
              refine Calls.mono (H6.out _ P9.out) ?_; rintro e y5 ⟨rfl, p⟩
              have P10 : Hid _ := p
              clear p H6 P9
              go_wp2_with fail
              refine Calls.mono (H7.out _ P10.out) ?_; rintro e y6 ⟨rfl, p⟩
              have P11 : Hid _ := p
              clear p H7 P10
              go_wp2_with fail
              refine Calls.mono (H8.out _ P11.out) ?_; rintro e y7 ⟨rfl, p⟩
              have KZ : Hid _ := HE.out _ _ Q1.out p.kp
              clear p H8 P11
              go_wp2
              go_ret
              exact ⟨rfl, KZ.out⟩
end Go.Proofs.YtclejmdmbanedaaGreat.Bs
