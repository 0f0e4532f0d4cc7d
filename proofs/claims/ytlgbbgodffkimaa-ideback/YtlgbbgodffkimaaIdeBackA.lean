/- IdeBack: the place below nought, 4 bytes at once. -/
import Derived.Test.YtlgbbgodffkimaaIdBkW
namespace Go.Proofs.Ytlgbbgodffkimaa
open Go.ChangeShapes Go.WideShapes Go.ChangeAt Go.RowKit
set_option linter.unusedVariables false

set_option maxRecDepth 20000 in
set_option maxHeartbeats 4000000 in
theorem back_A (W : World) (s : Int) (s0 : -9223372036854775808 ≤ s) (s1 : s ≤ 9223372036854775807) (pl : Int) (p0 : -9223372036854775808 ≤ pl) (p1 : pl ≤ 9223372036854775807) (ab : Option Addr) (Lb cb : Nat) (bt0 : Nat → Int) (hbt : BytIn W ab Lb bt0) (neg : pl < 0) : Calls Try.prog 5 #[.int .i64 s, .int .i64 pl, .slice ab Lb cb, .bool true] W fun e w' => e = .returned (.bool true) ∧ Below W.heap.size W w' := by
  have HA : Hid (∀ w, _) := awake_ok
  have HD : Hid (∀ w, _) := fun w => lDisk_any w s 0 s0 s1 ⟨by decide, by decide⟩
  obtain ⟨m, hm⟩ : ∃ m, m = secN s := ⟨_, rfl⟩
  have m5 := secN_lt s
  rw [← hm] at HD m5
  obtain ⟨D, hDD⟩ : ∃ D, D = dB (512 * m) (dskS 0) := ⟨_, rfl⟩
  have HN : Hid (∀ w g (_ : RowB w g (512 * m) (dskS 0)), Calls Try.prog 10 #[.slice (some ⟨g, 0, none⟩) (512 * m) (512 * m)] w fun e w' => e = .returned (.tuple #[.pointer (some ⟨w.heap.size, 0, none⟩), .int .i64 0]) ∧ ∃ S, IW w' S w.heap.size (id0 m D) ∧ (∀ k, S k → w.heap.size ≤ k) ∧ Kp noB w w') := fun w g r => by
    have := wNew w _ (512 * m) (512 * m) _ r.at (by omega) (by omega)
    unfold INew at this
    rw [show 512 * m / 512 = m by omega, ← hDD] at this
    exact this
  have HE : Hid (∀ w', Kp noB W w' → Below W.heap.size W w') := fun w' h => h.every
  have ok0 : Hid (id0 m D).Ok := by
    show (id0 m D).Ok
    rw [hDD]
    exact id0_ok (by omega) (fun i _ => dB_byt (fun j _ => dskS_byt 0 j) i)
  have D0 : Hid (∀ j, j < 512 * m → D j = dskS 0 j) := fun j hj => by
    rw [hDD]
    unfold dB
    rw [if_pos hj]
  have HB : Hid (BytIn W ab Lb bt0) := hbt
  have lb := hbt.le
  clear hm hDD hbt
  go_enter Try.func5, Try.ntmps5
  go_wp2_with fail
  refine Calls.mono (HA.out _) ?_; rintro e w1 ⟨rfl, k1⟩
  go_wp2_with fail
  refine Calls.mono (HD.out _) ?_; rintro e w2 ⟨rfl, r2, k2⟩
  go_wp2_with fail
  refine Calls.mono (HN.out _ _ r2) ?_; rintro e w3 ⟨rfl, S3, h3, n3, k3⟩
  obtain ⟨cur, ir, hg⟩ := r2.is
  have P3 : Hid (St W w3 w2.heap.size [(w1.heap.size, rowO cur)] (id0 m D)) := by
    refine ⟨⟨S3, h3, ⟨fun k g => Nat.le_trans (k1.trans k2).size (n3 k g), (k1.trans k2).trans k3⟩, fun x hx => ?_⟩, ok0.out⟩
    rw [List.mem_singleton] at hx
    subst hx
    exact ⟨fun g => by have := n3 _ g; have := r2.lt; omega, heap_kept hg k3 id⟩
  have IR : Hid (isRow cur (512 * m) (dskS 0)) := ir
  have GG : Hid (W.heap.size ≤ w1.heap.size) := k1.size
  clear HA HD HN k1 k2 k3 r2 h3 n3 ir hg
  generalize w2.heap.size = B at *
  generalize w1.heap.size = g at *
  have q1 : ((512 * m : Nat) : Int) / 512 = m := by omega
  by_cases m0 : m = 0
  · subst m0
    have H7 : Hid _ := HE.out _ P3.out.kp
    go_wp2
    go_ret
    exact ⟨rfl, H7.out⟩
  · have m0' : (((512 * m : Nat) : Int) == 0) = false := by rw [beq_eq_false_iff_ne]; omega
    by_cases b0 : Lb = 0
    · subst b0
      have H7 : Hid _ := HE.out _ P3.out.kp
      go_wp2
      go_ret
      exact ⟨rfl, H7.out⟩
    · have b0' : ((Lb : Int) == 0) = false := by rw [beq_eq_false_iff_ne]; omega
      obtain ⟨p, hp⟩ : ∃ p : Nat, p = (foldN pl % m).toNat := ⟨_, rfl⟩
      have pb : 0 ≤ foldN pl % m ∧ foldN pl % m < m := ⟨Int.emod_nonneg _ (by omega), Int.emod_lt_of_pos _ (by omega)⟩
      have pm : p < m := by omega
      have pe : foldN pl % m = p := by omega
      have HSc : Hid _ := sector_ok P3.out 48 p (by decide) (by decide) (by omega) (by omega) (by rw [id0_work]; decide)
      rw [dW_cmd m5 pm] at HSc
      have hby : ∀ j, byt (btR bt0 Lb j) := fun j => HB.out.bd _ (Nat.mod_lt _ (by omega))
      have BY : Hid (∀ j, byt (btR bt0 Lb j)) := hby
      obtain ⟨bt, hbt⟩ : ∃ bt, bt = btR bt0 Lb := ⟨_, rfl⟩
      rw [← hbt] at BY
      have CB : Hid (∀ w j, Kp noB W w → ∃ blk off, ab = some ⟨blk, off, none⟩ ∧ blk < W.heap.size ∧ w.cell? ⟨blk, off + j % Lb, none⟩ = some (.int .u8 (bt j))) := fun w j k => by
        obtain ⟨blk, off, e, hlt, hc⟩ := HB.out.at' (j % Lb) (Nat.mod_lt _ (by omega))
        rw [hbt]
        exact ⟨blk, off, e, hlt, cell_kept hc k id⟩
      clear hby hbt hp P3
      have pq : (-(pl + 1)).tmod m = p := by
        rw [Int.tmod_eq_emod_of_nonneg (by omega)]
        unfold foldN at pe
        rw [if_pos neg] at pe
        exact pe
      clear pe pb
      go_wp2_with fail
      refine Calls.mono HSc.out ?_; rintro e w4 ⟨rfl, h4⟩
      have R4 : Hid (Rw W w4 B g (512 * m) (rwF p bt (dskS 0) 0) (wT (dW m D p) bt 0)) := by
        show Rw _ _ _ _ _ _ _
        rw [rwF_0, wT_0 _ _ rfl]
        exact ⟨cur, IR.out, h4⟩
      clear h4 HSc
      go_wp2
      go_loopw [14] (fun s14 wr => ∃ i : Nat, i ≤ 512 ∧ i % 4 = 0 ∧ s14 = .int .i64 i ∧ Rw W wr B g (512 * m) (rwF p bt (dskS 0) i) (wT (dW m D p) bt i)) (fun s14 _ => 512 - (intOf s14).toNat)
      case atStart => exact ⟨0, by omega, rfl, rfl, R4.out⟩
      case round =>
        clear R4
        obtain ⟨i, hi, hi2, rfl, st⟩ := hrel
        by_cases hlt : i < 512
        · have R5 : Hid (Rw W wr B g (512 * m) (rwF p bt (dskS 0) (i + 0)) (wT (dW m D p) bt i)) := st
          clear st
          go_wp2
          go_loopw [15, 16] (fun s15 s16 wr => ∃ k : Nat, k ≤ 4 ∧ s15 = .int .u32 (vS bt i k) ∧ s16 = .int .i64 k ∧ Rw W wr B g (512 * m) (rwF p bt (dskS 0) (i + k)) (wT (dW m D p) bt i)) (fun _ s16 _ => 4 - (intOf s16).toNat)
          case atStart => exact ⟨0, by omega, rfl, rfl, R5.out⟩
          case round =>
            clear R5
            obtain ⟨k, hk, rfl, rfl, hR⟩ := hrel
            rcases (by omega : k = 0 ∨ k = 1 ∨ k = 2 ∨ k = 3 ∨ k = 4) with rfl | rfl | rfl | rfl | rfl
            · as_aux_lemma =>
                have hr := hR.row
                obtain ⟨z0, hz0⟩ : ∃ z0 : Nat, z0 = p * 512 + i := ⟨_, rfl⟩
                obtain ⟨q, hq⟩ : ∃ q : Nat, q = i % Lb := ⟨_, rfl⟩
                obtain ⟨blk, off, hab, hbk, hc⟩ := CB.out _ i hR.kp
                subst hab
                rw [← hq] at hc
                obtain ⟨y0, y1⟩ := BY.out i
                have cg := hr.cell (j := z0) (by omega)
                have zg := hr.fz z0
                have HV : Hid (vS bt i 1 = vS bt i 0 + bt i * 1) := by
                  show vS bt i 0 + bt (i + 0) * 2 ^ (8 * 0) = _
                  rfl
                have vb := vS_bd BY.out i 0
                have HN : Hid (Rw W (wr.setCell ⟨g, z0, none⟩ (.int .u8 (bt i))) B g (512 * m) (rwF p bt (dskS 0) (i + (0 + 1))) (wT (dW m D p) bt i)) := by
                  show Rw _ _ _ _ _ _ _
                  refine (hR.set GG.out z0 (bt i)).of ?_
                  rw [hz0]
                  exact rwF_set p bt (dskS 0) i
                have q2 : q < Lb := by rw [hq]; exact Nat.mod_lt _ (by omega)
                have q3 : (q : Int) < (Lb : Int) := by omega
                have q4 : ((i : Nat) : Int).tmod Lb = (q : Int) := by rw [Int.tmod_eq_emod_of_nonneg (by omega), hq]; omega
                have q5 : ((i : Nat) : Int) % Lb = (q : Int) := by rw [hq]; omega
                have g1 : (p : Int) * 512 + i = (z0 : Int) := by omega
                have g3 : (z0 : Int) < ((512 * m : Nat) : Int) := by omega
                have g4 : (z0 : Int) < 512 * (m : Int) := by omega
                have g5 : z0 < 512 * m := by omega
                rw [show vS bt i 0 = 0 from rfl] at HV ⊢
                have hc2 : (wr.setCell ⟨g, z0, none⟩ (.int .u8 (bt i))).cell? ⟨blk, off + q, none⟩ = some (.int .u8 (bt i)) := cell_kept hc (kpB g _ _ _) (fun e : blk = g => by have := GG.out; omega)
                generalize bt i = y at *
                clear hq hz0 hr hR vb
                generalize rwF p bt (dskS 0) _ _ = y9 at cg
                go_wp2
                go_roundw
                case rel =>
                  refine ⟨1, by omega, ?_, rfl, HN.out⟩
                  rw [HV.out] <;> first | rfl | (congr 1 <;> omega)
                case measure => simp [intOf]
            · as_aux_lemma =>
                have hr := hR.row
                obtain ⟨x, hx⟩ : ∃ x : Nat, x = i + 1 := ⟨_, rfl⟩
                obtain ⟨z0, hz0⟩ : ∃ z0 : Nat, z0 = p * 512 + i := ⟨_, rfl⟩
                obtain ⟨z, hz⟩ : ∃ z : Nat, z = z0 + 1 := ⟨_, rfl⟩
                obtain ⟨q, hq⟩ : ∃ q : Nat, q = x % Lb := ⟨_, rfl⟩
                obtain ⟨blk, off, hab, hbk, hc⟩ := CB.out _ x hR.kp
                subst hab
                rw [← hq] at hc
                obtain ⟨y0, y1⟩ := BY.out x
                have cg := hr.cell (j := z) (by omega)
                have zg := hr.fz z
                have HV : Hid (vS bt i 2 = vS bt i 1 + bt x * 256) := by
                  show vS bt i 1 + bt (i + 1) * 2 ^ (8 * 1) = _
                  rw [hx]
                  rfl
                have vb := vS_bd BY.out i 1
                have HN : Hid (Rw W (wr.setCell ⟨g, z, none⟩ (.int .u8 (bt x))) B g (512 * m) (rwF p bt (dskS 0) (i + (1 + 1))) (wT (dW m D p) bt i)) := by
                  show Rw _ _ _ _ _ _ _
                  refine (hR.set GG.out z (bt x)).of ?_
                  rw [hz, hz0, hx, Nat.add_assoc]
                  exact rwF_set p bt (dskS 0) (i + 1)
                have q2 : q < Lb := by rw [hq]; exact Nat.mod_lt _ (by omega)
                have q3 : (q : Int) < (Lb : Int) := by omega
                have q4 : ((x : Nat) : Int).tmod Lb = (q : Int) := by rw [Int.tmod_eq_emod_of_nonneg (by omega), hq]; omega
                have q5 : ((x : Nat) : Int) % Lb = (q : Int) := by rw [hq]; omega
                have g1 : (p : Int) * 512 + i = (z0 : Int) := by omega
                have f1 : (i : Int) + 1 = (x : Int) := by omega
                have g2 : (z0 : Int) + 1 = (z : Int) := by omega
                have g3 : (z : Int) < ((512 * m : Nat) : Int) := by omega
                have g4 : (z : Int) < 512 * (m : Int) := by omega
                have g5 : z < 512 * m := by omega
                generalize vS bt i 1 = v at *
                obtain ⟨v0, v1⟩ := vb
                have hc2 : (wr.setCell ⟨g, z, none⟩ (.int .u8 (bt x))).cell? ⟨blk, off + q, none⟩ = some (.int .u8 (bt x)) := cell_kept hc (kpB g _ _ _) (fun e : blk = g => by have := GG.out; omega)
                generalize bt x = y at *
                clear hq hz0 hx hz hr hR
                generalize rwF p bt (dskS 0) _ _ = y9 at cg
                go_wp2
                go_roundw
                case rel =>
                  refine ⟨2, by omega, ?_, rfl, HN.out⟩
                  rw [HV.out] <;> first | rfl | (congr 1 <;> omega)
                case measure => simp [intOf]
            · as_aux_lemma =>
                have hr := hR.row
                obtain ⟨x, hx⟩ : ∃ x : Nat, x = i + 2 := ⟨_, rfl⟩
                obtain ⟨z0, hz0⟩ : ∃ z0 : Nat, z0 = p * 512 + i := ⟨_, rfl⟩
                obtain ⟨z, hz⟩ : ∃ z : Nat, z = z0 + 2 := ⟨_, rfl⟩
                obtain ⟨q, hq⟩ : ∃ q : Nat, q = x % Lb := ⟨_, rfl⟩
                obtain ⟨blk, off, hab, hbk, hc⟩ := CB.out _ x hR.kp
                subst hab
                rw [← hq] at hc
                obtain ⟨y0, y1⟩ := BY.out x
                have cg := hr.cell (j := z) (by omega)
                have zg := hr.fz z
                have HV : Hid (vS bt i 3 = vS bt i 2 + bt x * 65536) := by
                  show vS bt i 2 + bt (i + 2) * 2 ^ (8 * 2) = _
                  rw [hx]
                  rfl
                have vb := vS_bd BY.out i 2
                have HN : Hid (Rw W (wr.setCell ⟨g, z, none⟩ (.int .u8 (bt x))) B g (512 * m) (rwF p bt (dskS 0) (i + (2 + 1))) (wT (dW m D p) bt i)) := by
                  show Rw _ _ _ _ _ _ _
                  refine (hR.set GG.out z (bt x)).of ?_
                  rw [hz, hz0, hx, Nat.add_assoc]
                  exact rwF_set p bt (dskS 0) (i + 2)
                have q2 : q < Lb := by rw [hq]; exact Nat.mod_lt _ (by omega)
                have q3 : (q : Int) < (Lb : Int) := by omega
                have q4 : ((x : Nat) : Int).tmod Lb = (q : Int) := by rw [Int.tmod_eq_emod_of_nonneg (by omega), hq]; omega
                have q5 : ((x : Nat) : Int) % Lb = (q : Int) := by rw [hq]; omega
                have g1 : (p : Int) * 512 + i = (z0 : Int) := by omega
                have f1 : (i : Int) + 2 = (x : Int) := by omega
                have g2 : (z0 : Int) + 2 = (z : Int) := by omega
                have g3 : (z : Int) < ((512 * m : Nat) : Int) := by omega
                have g4 : (z : Int) < 512 * (m : Int) := by omega
                have g5 : z < 512 * m := by omega
                generalize vS bt i 2 = v at *
                obtain ⟨v0, v1⟩ := vb
                have hc2 : (wr.setCell ⟨g, z, none⟩ (.int .u8 (bt x))).cell? ⟨blk, off + q, none⟩ = some (.int .u8 (bt x)) := cell_kept hc (kpB g _ _ _) (fun e : blk = g => by have := GG.out; omega)
                generalize bt x = y at *
                clear hq hz0 hx hz hr hR
                generalize rwF p bt (dskS 0) _ _ = y9 at cg
                go_wp2
                go_roundw
                case rel =>
                  refine ⟨3, by omega, ?_, rfl, HN.out⟩
                  rw [HV.out] <;> first | rfl | (congr 1 <;> omega)
                case measure => simp [intOf]
            · as_aux_lemma =>
                have hr := hR.row
                obtain ⟨x, hx⟩ : ∃ x : Nat, x = i + 3 := ⟨_, rfl⟩
                obtain ⟨z0, hz0⟩ : ∃ z0 : Nat, z0 = p * 512 + i := ⟨_, rfl⟩
                obtain ⟨z, hz⟩ : ∃ z : Nat, z = z0 + 3 := ⟨_, rfl⟩
                obtain ⟨q, hq⟩ : ∃ q : Nat, q = x % Lb := ⟨_, rfl⟩
                obtain ⟨blk, off, hab, hbk, hc⟩ := CB.out _ x hR.kp
                subst hab
                rw [← hq] at hc
                obtain ⟨y0, y1⟩ := BY.out x
                have cg := hr.cell (j := z) (by omega)
                have zg := hr.fz z
                have HV : Hid (vS bt i 4 = vS bt i 3 + bt x * 16777216) := by
                  show vS bt i 3 + bt (i + 3) * 2 ^ (8 * 3) = _
                  rw [hx]
                  rfl
                have vb := vS_bd BY.out i 3
                have HN : Hid (Rw W (wr.setCell ⟨g, z, none⟩ (.int .u8 (bt x))) B g (512 * m) (rwF p bt (dskS 0) (i + (3 + 1))) (wT (dW m D p) bt i)) := by
                  show Rw _ _ _ _ _ _ _
                  refine (hR.set GG.out z (bt x)).of ?_
                  rw [hz, hz0, hx, Nat.add_assoc]
                  exact rwF_set p bt (dskS 0) (i + 3)
                have q2 : q < Lb := by rw [hq]; exact Nat.mod_lt _ (by omega)
                have q3 : (q : Int) < (Lb : Int) := by omega
                have q4 : ((x : Nat) : Int).tmod Lb = (q : Int) := by rw [Int.tmod_eq_emod_of_nonneg (by omega), hq]; omega
                have q5 : ((x : Nat) : Int) % Lb = (q : Int) := by rw [hq]; omega
                have g1 : (p : Int) * 512 + i = (z0 : Int) := by omega
                have f1 : (i : Int) + 3 = (x : Int) := by omega
                have g2 : (z0 : Int) + 3 = (z : Int) := by omega
                have g3 : (z : Int) < ((512 * m : Nat) : Int) := by omega
                have g4 : (z : Int) < 512 * (m : Int) := by omega
                have g5 : z < 512 * m := by omega
                generalize vS bt i 3 = v at *
                obtain ⟨v0, v1⟩ := vb
                have hc2 : (wr.setCell ⟨g, z, none⟩ (.int .u8 (bt x))).cell? ⟨blk, off + q, none⟩ = some (.int .u8 (bt x)) := cell_kept hc (kpB g _ _ _) (fun e : blk = g => by have := GG.out; omega)
                generalize bt x = y at *
                clear hq hz0 hx hz hr hR
                generalize rwF p bt (dskS 0) _ _ = y9 at cg
                go_wp2
                go_roundw
                case rel =>
                  refine ⟨4, by omega, ?_, rfl, HN.out⟩
                  rw [HV.out] <;> first | rfl | (congr 1 <;> omega)
                case measure => simp [intOf]
            · as_aux_lemma =>
              have HO : Hid _ := hR.out 0 4 (vS bt i 4) (vS_byte BY.out i (.inr rfl)).1.1 (vS_byte BY.out i (.inr rfl)).1.2 (by have := wT_work (n := m) (p := p) D bt (i := i) hlt; omega)
              have ws := wT_step m5 pm D BY.out (i := i) (s := 4) (.inr rfl) (by omega)
              rw [show ((4 : Nat) : Int) = 4 from rfl] at ws
              rw [show ck 0 4 = 0 from by decide, ws] at HO
              generalize vS bt i 4 = v at *
              clear hR ws
              go_wp2_with fail
              refine Calls.mono HO.out ?_; rintro e w6 ⟨rfl, h6⟩
              have H6 : Hid _ := h6
              clear h6 HO
              go_wp2
              go_roundw
              case rel => exact ⟨i + 4, by omega, by omega, by go_num, H6.out⟩
              case measure => simp [intOf]; omega
        · as_aux_lemma =>
          have e : i = 512 := by omega
          subst e
          obtain ⟨cur1, ir1, st1⟩ := st
          have bk : Bkx (wT (dW m D p) bt 512) m p bt D := bk_x m5 pm st1.ok
          have xg : Hid (St W wr.drew B [(g, rowO cur1)] (wT (dW m D p) bt 512)) := st1.drew
          generalize wT (dW m D p) bt 512 = x at *
          have IR1 : Hid (isRow cur1 (512 * m) (rwF p bt (dskS 0) 512)) := ir1
          have HK : Hid (∀ w d' sd, (g, rowO cur1) ∈ sd → St W w B sd d' → _) := Bkx.conv ir1
          have HT : Hid (∀ w w', Dsk1 W w B [(g, rowO cur1)] x w' → _) := bk.read D0.out
          have HDk : Hid (∀ w, St W w B [(g, rowO cur1)] x → _) := bk.disk
          have HWr : Hid (∀ w sd, St W w B sd x → _) := bk.written
          have HSm : Hid (∀ w pa pb c e, IntAt w pa [(p : Int)] → IntAt w pb [(p : Int)] → _) := fun w pa pb c e => same_one w pa pb c e p
          have HLt : Hid (∀ (w : World) (X : Nat), w.heap[X]? = some (.cells #[.int .i64 (p : Int)] 3 (0, 0)) → _) := fun w X => one_at w X p
          have HS2 : Hid (∀ w, St W w B [(g, rowO cur1)] x.told → _) := bk.sector
          have HI0 : Hid (∀ w i, i < 512 → St W w B [(g, rowO cur1)] (rT x.told p i) → _) := bk.byte
          have HZ7 : Hid (∀ w, St W w B [(g, rowO cur1)] (rT x.told p 512) → _) := bk.last
          generalize strOfNums (strR (512 * m) (rwF p bt (dskS 0) 512)) = str at *
          clear st1 bk ir1
          go_wp2
          refine wp_region_held_drew (S := fun W' => (convert 23 9 (.slice (some ⟨g, 0, none⟩) (512 * m) (512 * m))).run Try.prog W' = .ok (.string str) W') (by kernel_rfl) (HK.out _ _ _ (.head _) xg.out) (fun hH => ?_)
          refine wpAnyH_take (i := 0) (v := (.pointer (some ⟨B, 0, none⟩))) rfl (by kernel_rfl) (by kernel_rfl) (by kernel_rfl) (fun _ _ _ h => h) (Or.inl ⟨by rfl, by intro w hS; go_simp⟩) hH ?_
          try simp only [Act.put, List.setIfInBounds_toArray]
          refine wpAnyH_take (i := 3) (v := (.slice (some ⟨g, 0, none⟩) (512 * m) (512 * m))) rfl (by kernel_rfl) (by kernel_rfl) (by kernel_rfl) (fun _ _ _ h => h) (Or.inl ⟨by rfl, by intro w hS; go_simp⟩) hH ?_
          try simp only [Act.put]
          refine wpAnyH_take (i := 4) (v := (.string str)) rfl (by kernel_rfl) (by kernel_rfl) (by kernel_rfl) (fun _ _ _ h => h) (Or.inl ⟨by rfl, by intro w hS; go_simp⟩) hH ?_
          try simp only [Act.put]
          refine wpAnyH_ready (rs := [1]) (by kernel_rfl) (by simp) ?_
          refine AllReadyH.cons rfl (fun K hK => ?_) AllReadyH.nil
          go_simp
          refine Calls.mono (HDk.out _ xg.out) ?_; rintro e w5 ⟨rfl, h5⟩
          obtain ⟨hcv, st5⟩ := HT.out _ _ h5
          replace hcv : (convert 23 9 (.slice (some ⟨wr.heap.size, 0, none⟩) (512 * m) (512 * m))).run Try.prog w5 = .ok (.string str) w5 := hcv
          refine hK.out _ _ (HK.out _ _ _ (.head _) st5) (fun hH2 => ?_)
          clear hK K
          try simp only [Act.put, List.setIfInBounds_toArray, List.set_cons_zero, List.set_cons_succ]
          refine wpAnyH_ready (rs := [2]) (by kernel_rfl) (by simp) ?_
          refine AllReadyH.cons rfl (fun K hK => ?_) AllReadyH.nil
          go_simp
          refine hK.out _ _ (HK.out _ _ _ (.head _) st5) (fun hH3 => ?_)
          clear hK K
          try simp only [Act.put, List.setIfInBounds_toArray, List.set_cons_zero, List.set_cons_succ]
          refine wpAnyH_take (i := 5) (v := (.bool false)) rfl (by kernel_rfl) (by kernel_rfl) (by kernel_rfl) (fun _ _ _ h => h) (Or.inl ⟨by rfl, by intro w hS; go_simp⟩) hH3 ?_
          try simp only [Act.put, List.setIfInBounds_toArray]
          refine wpAnyH_take (i := 6) (v := (.bool false)) rfl (by kernel_rfl) (by kernel_rfl) (by kernel_rfl) (fun _ _ _ h => h) (Or.inl ⟨by rfl, by intro w hS; go_simp⟩) hH3 ?_
          try simp only [Act.put]
          refine wpAnyH_take (i := 7) (v := (.pointer (some ⟨B, 0, none⟩))) rfl (by kernel_rfl) (by kernel_rfl) (by kernel_rfl) (fun _ _ _ h => h) (Or.inl ⟨by rfl, by intro w hS; go_simp⟩) hH3 ?_
          try simp only [Act.put]
          refine wpAnyH_take (i := 9) (v := (.int .i64 p)) rfl (by kernel_rfl) (by kernel_rfl) (by kernel_rfl) (fun _ _ _ h => h) (Or.inl ⟨by rfl, by intro w hS; go_simp⟩) hH3 ?_
          try simp only [Act.put]
          refine wpAnyH_ready (rs := [8, 10]) (by kernel_rfl) (by simp) ?_
          refine AllReadyH.cons rfl (fun K hK => ?_) (AllReadyH.cons rfl (fun K hK => ?_) AllReadyH.nil)
          · as_aux_lemma =>
            go_simp
            refine Calls.mono (HWr.out _ _ st5) ?_; rintro e w6 ⟨pa, c6, rfl, st6, i6⟩
            refine hK.out _ _ (HK.out _ _ _ (.head _) st6) (fun hH4 => ?_)
            clear hK K
            try simp only [Act.put, List.setIfInBounds_toArray, List.set_cons_zero, List.set_cons_succ]
            refine wpAnyH_ready (rs := [10]) (by kernel_rfl) (by simp) ?_
            refine AllReadyH.cons rfl (fun K hK => ?_) AllReadyH.nil
            go_simp
            have st7 : St W (w6.alloc (.cells #[.int .i64 (p : Int)] 3)) B [(g, rowO cur1)] x.told := st6.keep (Kp.alloc noB _ _)
            have i7 : IntAt (w6.alloc (.cells #[.int .i64 (p : Int)] 3)) pa [(p : Int)] := i6.kept (Kp.alloc noB _ _) (fun _ _ => id)
            have j7 : IntAt (w6.alloc (.cells #[.int .i64 (p : Int)] 3)) (some ⟨w6.heap.size, 0, none⟩) [(p : Int)] := HLt.out _ _ (heap_new _ _)
            refine hK.out _ _ (HK.out _ _ _ (.head _) st7) (fun hH5 => ?_)
            clear hK K
            try simp only [Act.put, List.setIfInBounds_toArray, List.set_cons_zero, List.set_cons_succ]
            refine wpAnyH_ready (rs := [11]) (by kernel_rfl) (by simp) ?_
            refine AllReadyH.cons rfl (fun K hK => ?_) AllReadyH.nil
            go_simp
            refine Calls.mono (HSm.out _ _ _ _ _ i7 j7) ?_; rintro e w8 ⟨rfl, k8⟩
            have st8 := st7.keep k8
            refine hK.out _ _ (HK.out _ _ _ (.head _) st8) (fun hH6 => ?_)
            clear hK K
            try simp only [Act.put, List.setIfInBounds_toArray, List.set_cons_zero, List.set_cons_succ]
            refine wpAnyH_take (i := 12) (v := (.bool false)) rfl (by kernel_rfl) (by kernel_rfl) (by kernel_rfl) (fun _ _ _ h => h) (Or.inl ⟨by rfl, by intro w hS; go_simp⟩) hH6 ?_
            try simp only [Act.put, List.setIfInBounds_toArray]
            refine wpAnyH_take (i := 13) (v := (.bool false)) rfl (by kernel_rfl) (by kernel_rfl) (by kernel_rfl) (fun _ _ _ h => h) (Or.inl ⟨by rfl, by intro w hS; go_simp⟩) hH6 ?_
            try simp only [Act.put]
            refine wpAnyH_done (by kernel_rfl) ?_ _
            have H8 : Hid (St W w8 B [(g, rowO cur1)] x.told) := st8
            clear st8 hH6 hH5 hH4 hH3 hH2 hH i7 j7 st5 h5 hcv xg HK HT HDk HWr HSm HLt k8 st6 st7
            go_wp2_with fail
            refine Calls.mono (HS2.out _ H8.out) ?_; rintro e w9 ⟨rfl, h9⟩
            have H9 : Hid _ := h9
            clear h9 H8 HS2
            go_wp2
            go_loopw [17] (fun s17 wr => ∃ i : Nat, i ≤ 512 ∧ s17 = .int .i64 i ∧ St W wr B [(g, rowO cur1)] (rT x.told p i)) (fun s17 _ => 512 - (intOf s17).toNat)
            case atStart => exact ⟨0, by omega, rfl, H9.out⟩
            case round =>
              clear H9
              obtain ⟨i, hi, rfl, st⟩ := hrel
              by_cases hlt : i < 512
              · as_aux_lemma =>
                have HI : Hid _ := HI0.out _ i hlt st
                obtain ⟨y0, y1⟩ := BY.out i
                obtain ⟨z, hz⟩ : ∃ z : Nat, z = p * 512 + i := ⟨_, rfl⟩
                have RX : Hid (∀ w d', St W w B [(g, rowO cur1)] d' → w.cell? ⟨g, z, none⟩ = some (.int .u8 (bt i))) := fun w d' h => by
                  have := (IR1.out.row (h.heap (.head _))).cell (j := z) (by omega)
                  have e : rwF p bt (dskS 0) 512 z = bt i := by
                    unfold rwF
                    rw [if_pos (by omega), show z - p * 512 = i by omega]
                  rw [e] at this
                  exact this
                have g1 : (p : Int) * 512 + i = (z : Int) := by omega
                have g3 : (z : Int) < ((512 * m : Nat) : Int) := by omega
                have g4 : (z : Int) < 512 * (m : Int) := by omega
                have g5 : z < 512 * m := by omega
                clear st HI0 HZ7 hz
                generalize bt i = y at *
                go_wp2_with fail
                refine Calls.mono HI.out ?_; rintro e wB ⟨rfl, hB⟩
                have cB := RX.out _ _ hB
                have H5 : Hid _ := hB
                clear hB HI RX
                go_wp2
                go_roundw
                case rel => exact ⟨i + 1, by omega, by go_num, H5.out⟩
                case measure => simp [intOf]; omega
              · as_aux_lemma =>
                have e : i = 512 := by omega
                subst e
                have hZ : Hid _ := HZ7.out _ st
                clear st HI0 HZ7
                go_wp2_with fail
                refine Calls.mono hZ.out ?_; rintro e wB ⟨rfl, hB⟩
                have hX : Hid _ := HE.out _ hB
                clear hB hZ
                go_wp2
                go_ret
                exact ⟨rfl, hX.out⟩
          · as_aux_lemma =>
            go_simp
            have st6 := st5.alloc (.cells #[.int .i64 (p : Int)] 3)
            refine hK.out _ _ (HK.out _ _ _ (.tail _ (.head _)) st6) (fun hH4 => ?_)
            clear hK K
            try simp only [Act.put, List.setIfInBounds_toArray, List.set_cons_zero, List.set_cons_succ]
            refine wpAnyH_ready (rs := [8]) (by kernel_rfl) (by simp) ?_
            refine AllReadyH.cons rfl (fun K hK => ?_) AllReadyH.nil
            go_simp
            refine Calls.mono (HWr.out _ _ st6) ?_; rintro e w7 ⟨pa, c6, rfl, st7', i7⟩
            have j7 : IntAt w7 (some ⟨w5.heap.size, 0, none⟩) [(p : Int)] := HLt.out _ _ (st7'.heap (.head _))
            have st7 : St W w7 B [(g, rowO cur1)] x.told := st7'.less (fun x hx => .tail _ hx)
            refine hK.out _ _ (HK.out _ _ _ (.head _) st7) (fun hH5 => ?_)
            clear hK K
            try simp only [Act.put, List.setIfInBounds_toArray, List.set_cons_zero, List.set_cons_succ]
            refine wpAnyH_ready (rs := [11]) (by kernel_rfl) (by simp) ?_
            refine AllReadyH.cons rfl (fun K hK => ?_) AllReadyH.nil
            go_simp
            refine Calls.mono (HSm.out _ _ _ _ _ i7 j7) ?_; rintro e w8 ⟨rfl, k8⟩
            have st8 := st7.keep k8
            refine hK.out _ _ (HK.out _ _ _ (.head _) st8) (fun hH6 => ?_)
            clear hK K
            try simp only [Act.put, List.setIfInBounds_toArray, List.set_cons_zero, List.set_cons_succ]
            refine wpAnyH_take (i := 12) (v := (.bool false)) rfl (by kernel_rfl) (by kernel_rfl) (by kernel_rfl) (fun _ _ _ h => h) (Or.inl ⟨by rfl, by intro w hS; go_simp⟩) hH6 ?_
            try simp only [Act.put, List.setIfInBounds_toArray]
            refine wpAnyH_take (i := 13) (v := (.bool false)) rfl (by kernel_rfl) (by kernel_rfl) (by kernel_rfl) (fun _ _ _ h => h) (Or.inl ⟨by rfl, by intro w hS; go_simp⟩) hH6 ?_
            try simp only [Act.put]
            refine wpAnyH_done (by kernel_rfl) ?_ _
            have H8 : Hid (St W w8 B [(g, rowO cur1)] x.told) := st8
            clear st8 hH6 hH5 hH4 hH3 hH2 hH i7 j7 st5 h5 hcv xg HK HT HDk HWr HSm HLt k8 st6 st7
            go_wp2_with fail
            refine Calls.mono (HS2.out _ H8.out) ?_; rintro e w9 ⟨rfl, h9⟩
            have H9 : Hid _ := h9
            clear h9 H8 HS2
            go_wp2
            go_loopw [17] (fun s17 wr => ∃ i : Nat, i ≤ 512 ∧ s17 = .int .i64 i ∧ St W wr B [(g, rowO cur1)] (rT x.told p i)) (fun s17 _ => 512 - (intOf s17).toNat)
            case atStart => exact ⟨0, by omega, rfl, H9.out⟩
            case round =>
              clear H9
              obtain ⟨i, hi, rfl, st⟩ := hrel
              by_cases hlt : i < 512
              · as_aux_lemma =>
                have HI : Hid _ := HI0.out _ i hlt st
                obtain ⟨y0, y1⟩ := BY.out i
                obtain ⟨z, hz⟩ : ∃ z : Nat, z = p * 512 + i := ⟨_, rfl⟩
                have RX : Hid (∀ w d', St W w B [(g, rowO cur1)] d' → w.cell? ⟨g, z, none⟩ = some (.int .u8 (bt i))) := fun w d' h => by
                  have := (IR1.out.row (h.heap (.head _))).cell (j := z) (by omega)
                  have e : rwF p bt (dskS 0) 512 z = bt i := by
                    unfold rwF
                    rw [if_pos (by omega), show z - p * 512 = i by omega]
                  rw [e] at this
                  exact this
                have g1 : (p : Int) * 512 + i = (z : Int) := by omega
                have g3 : (z : Int) < ((512 * m : Nat) : Int) := by omega
                have g4 : (z : Int) < 512 * (m : Int) := by omega
                have g5 : z < 512 * m := by omega
                clear st HI0 HZ7 hz
                generalize bt i = y at *
                go_wp2_with fail
                refine Calls.mono HI.out ?_; rintro e wB ⟨rfl, hB⟩
                have cB := RX.out _ _ hB
                have H5 : Hid _ := hB
                clear hB HI RX
                go_wp2
                go_roundw
                case rel => exact ⟨i + 1, by omega, by go_num, H5.out⟩
                case measure => simp [intOf]; omega
              · as_aux_lemma =>
                have e : i = 512 := by omega
                subst e
                have hZ : Hid _ := HZ7.out _ st
                clear st HI0 HZ7
                go_wp2_with fail
                refine Calls.mono hZ.out ?_; rintro e wB ⟨rfl, hB⟩
                have hX : Hid _ := HE.out _ hB
                clear hB hZ
                go_wp2
                go_ret
                exact ⟨rfl, hX.out⟩
end Go.Proofs.Ytlgbbgodffkimaa
