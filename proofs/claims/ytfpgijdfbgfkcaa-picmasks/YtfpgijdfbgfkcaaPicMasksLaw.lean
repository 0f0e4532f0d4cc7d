/- The walk of PicMasks. -/
import Derived.Test.YtfpgijdfbgfkcaaPcMask
import Derived.Test.YtfpgijdfbgfkcaaPcOpen
import Derived.LoopTactic
namespace Go.Proofs.Ytfpgijdfbgfkcaa
open Go.ChangeShapes Go.WideShapes Go.ChangeAt Go.RowKit
set_option linter.unusedVariables false

set_option maxRecDepth 20000 in
set_option maxHeartbeats 4000000 in
theorem PicMasks_n1 (W : World) (n : Int) (n0 : -9223372036854775808 ≤ n) (n1 : n ≤ 9223372036854775807)  (gl : decide (n < 0) = true) (hl : -(n + 1).tmod 8 = 2) (a : Option Addr) (len cap : Nat) (og : Nat → Int) (lq : len ≤ 9223372036854775807) (ws : ∀ i, i < len → NumIn W a og i) : Calls Try.prog 5 #[.int .i64 n, .slice a len cap] W fun e w' => e = .returned (.bool true) ∧ Below W.heap.size W w' := by
  have gl0 : n < 0 := by simpa using gl
  have HA : Hid (∀ w, _) := awake_ok
  have HU : Hid (∀ w, _) := setup_ok
  have HO : Hid (∀ (w : World) (B : Nat) (m : M2) (p v : Int), PAt w B m → m.Ok → 0 ≤ p ∧ p < 4 ∧ By v → _) := fun w B m p v h k g => out_ok w B m h k p v g.1 g.2.1 g.2.2
  have HL : Hid (∀ (w : World) (B : Nat) (m : M2) (n : Int) (u : Bool), PAt w B m → m.Ok → 0 ≤ n ∧ n < 16 → _) := fun w B m n u h k g => line_ok w B m h k n u g.1 g.2
  have HP : Hid (∀ (w : World) (B : Nat) (m : M2), PAt w B m → m.Ok → _) := fun w B m h k => pend_ok w B m h k.a
  have HK : Hid (∀ (w : World) (B : Nat) (m : M2), PAt w B m → m.Ok → _) := fun w B m h k => ack_ok w B m h k
  have HB : Hid (∀ w', Kp noB W w' → Below W.heap.size W w') := fun w' h => h.every
  have HS : Hid (∀ i, i < len → NumIn W a og i) := ws
  have hN : Hid (1 < 8 ∧ 1 ≠ 2) := ⟨by decide, by decide⟩
  have mS : Hid (MkI 1 ((setM.out 1 255).line 1 true)) := MkI.start hN.out.1 hN.out.2
  have mL : Hid (∀ (m : M2) (k : Int) (u : Bool), MkI 1 m → 0 ≤ k ∧ k < 16 → (k ≠ 1 ∨ u = true) → MkI 1 (m.line k u)) := fun m k u h g e => h.line hN.out.1 hN.out.2 g.1 g.2 u e
  have mP : Hid (∀ m, MkI 1 m → (m.a.next != -1) = false) := fun m h => by rw [h.still]; rfl
  have eU : Hid (253 = 255 - pw 1) := (show (253 : Int) = 255 - pw 1 by decide)
  have m1 : Hid (∀ m, MkI 1 m → (m.line 1 true).Ok ∧ ((m.line 1 true).out 1 253).Ok ∧ (((m.line 1 true).out 1 253).a.next != -1) = true ∧ ((m.line 1 true).out 1 253).vec = 32 + 1 ∧ (((m.line 1 true).out 1 253).ack.a.next != -1) = false) := fun m h => by
    rw [eU.out]
    exact ⟨h.ok.line (by decide) (by decide) true, (unm_a h hN.out.1 hN.out.2).1, unm_pend h hN.out.1 hN.out.2, unm_vec h hN.out.1 hN.out.2, unm_done h hN.out.1 hN.out.2⟩
  have bU : Hid (By 253) := by rw [eU.out]; exact by_unm (n := 1) hN.out.1
  clear ws
  go_enter Try.func5, Try.ntmps5
  go_wp2_with fail
  refine Calls.mono (HA.out _) ?_; rintro e w1 ⟨rfl, g1⟩
  go_wp2_with fail
  refine Calls.mono (HU.out _) ?_; rintro e w2 ⟨rfl, h2, g2⟩
  have k2 := g1.trans g2
  obtain ⟨B, hB⟩ : ∃ B, B = w1.heap.size := ⟨_, rfl⟩
  rw [← hB] at h2 ⊢
  have lB : Hid (W.heap.size ≤ B) := by rw [hB]; exact g1.size
  clear hB g1 g2
  go_wp2_with fail
  refine Calls.mono (HO.out w2 B _ 1 255 h2 setM_ok ⟨by decide, by decide, by decide, by decide⟩) ?_; rintro e w3 ⟨rfl, h3, g3⟩
  have k3 := k2.own g3 lB.out
  go_wp2_with fail
  refine Calls.mono (HL.out w3 B _ 1 true h3 (M2.Ok.out (p := 1) (v := 255) setM_ok ⟨by decide, by decide⟩) ⟨by decide, by decide⟩) ?_; rintro e w4 ⟨rfl, h4, g4⟩
  have k4 := k3.own g4 lB.out
  clear h2 h3 g3 g4 k2 k3
  go_wp2_with fail
  go_loopw [7] (fun s7 wr => ∃ (i : Nat) (m : M2), s7 = .int .i64 i ∧ i ≤ len ∧ i ≤ 50 ∧ MkI 1 m ∧ PAt wr B m ∧ Kp noB W wr) (fun s7 _ => (50 - intOf s7).toNat)
  case atStart => exact ⟨0, _, rfl, by omega, by omega, mS.out, h4, k4⟩
  case round =>
    clear h4 k4
    obtain ⟨i, m, rfl, hi, hi2, hM, hr, kr⟩ := hrel
    by_cases hlt : i < len ∧ i < 50
    · obtain ⟨hl1, hl2⟩ := hlt
      have d1 : decide ((i : Int) < (len : Int)) = true := decide_eq_true (by omega)
      have d2 : decide ((i : Int) < 50) = true := decide_eq_true (by omega)
      obtain ⟨blk, off, rfl, hblk, hc, bd⟩ := (HS.out i hl1).kp kr
      obtain ⟨x, hx⟩ : ∃ x, x = og i := ⟨_, rfl⟩
      rw [← hx] at hc bd
      obtain ⟨bd0, bd1⟩ := bd
      clear hx
      by_cases gx : 0 ≤ x
      · have gx' : decide (x ≥ 0) = true := decide_eq_true gx
        have ex : x.tmod 16 = x % 16 := Int.tmod_eq_emod_of_nonneg gx
        obtain ⟨r, hr0⟩ : ∃ r, r = x % 16 := ⟨_, rfl⟩
        rw [← hr0] at ex
        have r0 : 0 ≤ r ∧ r < 16 := by omega
        clear hr0
        cases er : (r != 1)
        · go_wp2_with fail
          refine Calls.mono (HP.out wr B _ hr hM.ok) ?_; rintro e v2 ⟨he, g2⟩
          rw [mP.out m hM] at he; subst he
          have j2 := hr.kept g2 id
          have y2 := kr.and g2
          clear hr kr g2 hc
          go_wp2
          go_roundw
          case rel => exact ⟨i + 1, m, by go_num, by omega, by omega, hM, j2, y2⟩
          case measure => simp [intOf]; omega
        · have hM' : ∀ u, MkI 1 (m.line r u) := fun u => mL.out m r u hM r0 (.inl (by simpa using er))
          go_wp2_with fail
          refine Calls.mono (HL.out wr B m r _ hr hM.ok r0) ?_; rintro e v1 ⟨rfl, j1, g1⟩
          have y1 := kr.own g1 lB.out
          clear hr kr g1 hc
          go_wp2_with fail
          refine Calls.mono (HP.out v1 B _ j1 (hM' _).ok) ?_; rintro e v2 ⟨he, g2⟩
          rw [mP.out _ (hM' _)] at he; subst he
          have j2 := j1.kept g2 id
          have y2 := y1.and g2
          clear j1 y1 g2
          go_wp2
          go_roundw
          case rel => exact ⟨i + 1, _, by go_num, by omega, by omega, hM' _, j2, y2⟩
          case measure => simp [intOf]; omega
      · have gx' : decide (x ≥ 0) = false := decide_eq_false gx
        go_wp2_with fail
        refine Calls.mono (HP.out wr B _ hr hM.ok) ?_; rintro e v2 ⟨he, g2⟩
        rw [mP.out m hM] at he; subst he
        have j2 := hr.kept g2 id
        have y2 := kr.and g2
        clear hr kr g2 hc
        go_wp2
        go_roundw
        case rel => exact ⟨i + 1, m, by go_num, by omega, by omega, hM, j2, y2⟩
        case measure => simp [intOf]; omega
    · have dd : (¬ i < len) ∨ (i < len ∧ ¬ i < 50) := by
        by_cases e : i < len
        · exact .inr ⟨e, fun f => hlt ⟨e, f⟩⟩
        · exact .inl e
      clear hlt
      have HM : Hid (MkI 1 m) := hM
      clear hM
      rcases dd with dd | ⟨dd, d50⟩
      all_goals
        go_wp2_with fail
        go_loopw [9] (fun s9 wr => ∃ (i : Nat) (m : M2), s9 = .int .i64 i ∧ i ≤ 16 ∧ MkI 1 m ∧ PAt wr B m ∧ Kp noB W wr) (fun s9 _ => (16 - intOf s9).toNat)
        case atStart => exact ⟨0, m, rfl, by omega, HM.out, hr, kr⟩
        case round =>
          clear hr kr HM
          obtain ⟨q, m, rfl, hq, hM, hr, kr⟩ := hrel
          by_cases hlt : q < 16
          · have d3 : decide ((q : Int) < 16) = true := decide_eq_true (by omega)
            cases er : ((q : Int) != 1)
            · go_wp2
              go_roundw
              case rel => exact ⟨q + 1, m, by go_num, by omega, hM, hr, kr⟩
              case measure => simp [intOf]; omega
            · have hM' : MkI 1 (m.line (q : Int) false) := mL.out m q false hM ⟨by omega, by omega⟩ (.inl (by simpa using er))
              go_wp2_with fail
              refine Calls.mono (HL.out wr B m q false hr hM.ok ⟨by omega, by omega⟩) ?_; rintro e v1 ⟨rfl, j1, g1⟩
              have y1 := kr.own g1 lB.out
              clear hr kr g1
              go_wp2
              go_roundw
              case rel => exact ⟨q + 1, _, by go_num, by omega, hM', j1, y1⟩
              case measure => simp [intOf]; omega
          · have d3 : decide ((q : Int) < 16) = false := decide_eq_false (by omega)
            obtain ⟨o1, o2, p1, v1, p2⟩ := m1.out m hM
            have P1 : Hid _ := p1
            have V1 : Hid _ := v1
            have P2 : Hid _ := p2
            clear p1 v1 p2
            go_wp2_with fail
            refine Calls.mono (HL.out wr B m 1 true hr hM.ok ⟨by decide, by decide⟩) ?_; rintro e v1 ⟨rfl, j1, g1⟩
            have y1 := kr.own g1 lB.out
            go_wp2_with fail
            refine Calls.mono (HO.out v1 B _ 1 _ j1 o1 ⟨by decide, by decide, bU.out⟩) ?_; rintro e v2 ⟨rfl, j2, g2⟩
            have y2 := y1.own g2 lB.out
            go_wp2_with fail
            refine Calls.mono (HP.out v2 B _ j2 o2) ?_; rintro e v3 ⟨he, g3⟩
            rw [P1.out] at he; subst he
            have j3 := j2.kept g3 id
            have y3 := y2.and g3
            go_wp2_with fail
            refine Calls.mono (HK.out v3 B _ j3 o2) ?_; rintro e v4 ⟨he, j4, g4⟩
            rw [V1.out] at he; subst he
            have y4 := y3.own g4 lB.out
            go_wp2_with fail
            refine Calls.mono (HP.out v4 B _ j4 o2.ack) ?_; rintro e v5 ⟨he, g5⟩
            rw [P2.out] at he; subst he
            have y5 := y4.and g5
            go_wp2
            go_ret
            exact ⟨rfl, HB.out _ y5⟩

set_option maxRecDepth 20000 in
set_option maxHeartbeats 4000000 in
theorem PicMasks_n0 (W : World) (n : Int) (n0 : -9223372036854775808 ≤ n) (n1 : n ≤ 9223372036854775807) (N : Nat) (N8 : N < 8) (N2 : ((N : Int) == 2) = false) (gl : decide (n < 0) = true) (hl : -(n + 1).tmod 8 = (N : Int)) (a : Option Addr) (len cap : Nat) (og : Nat → Int) (lq : len ≤ 9223372036854775807) (ws : ∀ i, i < len → NumIn W a og i) : Calls Try.prog 5 #[.int .i64 n, .slice a len cap] W fun e w' => e = .returned (.bool true) ∧ Below W.heap.size W w' := by
  have gl0 : n < 0 := by simpa using gl
  have HA : Hid (∀ w, _) := awake_ok
  have HU : Hid (∀ w, _) := setup_ok
  have HO : Hid (∀ (w : World) (B : Nat) (m : M2) (p v : Int), PAt w B m → m.Ok → 0 ≤ p ∧ p < 4 ∧ By v → _) := fun w B m p v h k g => out_ok w B m h k p v g.1 g.2.1 g.2.2
  have HL : Hid (∀ (w : World) (B : Nat) (m : M2) (n : Int) (u : Bool), PAt w B m → m.Ok → 0 ≤ n ∧ n < 16 → _) := fun w B m n u h k g => line_ok w B m h k n u g.1 g.2
  have HP : Hid (∀ (w : World) (B : Nat) (m : M2), PAt w B m → m.Ok → _) := fun w B m h k => pend_ok w B m h k.a
  have HK : Hid (∀ (w : World) (B : Nat) (m : M2), PAt w B m → m.Ok → _) := fun w B m h k => ack_ok w B m h k
  have HB : Hid (∀ w', Kp noB W w' → Below W.heap.size W w') := fun w' h => h.every
  have HS : Hid (∀ i, i < len → NumIn W a og i) := ws
  have hN : Hid (N < 8 ∧ N ≠ 2) := ⟨N8, fun e => by subst e; simp at N2⟩
  have mS : Hid (MkI N ((setM.out 1 255).line (N : Int) true)) := MkI.start hN.out.1 hN.out.2
  have mL : Hid (∀ (m : M2) (k : Int) (u : Bool), MkI N m → 0 ≤ k ∧ k < 16 → (k ≠ (N : Int) ∨ u = true) → MkI N (m.line k u)) := fun m k u h g e => h.line hN.out.1 hN.out.2 g.1 g.2 u e
  have mP : Hid (∀ m, MkI N m → (m.a.next != -1) = false) := fun m h => by rw [h.still]; rfl
  have eU : Hid ((255 - pw (N : Int)) = 255 - pw (N : Int)) := rfl
  have m1 : Hid (∀ m, MkI N m → (m.line (N : Int) true).Ok ∧ ((m.line (N : Int) true).out 1 (255 - pw (N : Int))).Ok ∧ (((m.line (N : Int) true).out 1 (255 - pw (N : Int))).a.next != -1) = true ∧ ((m.line (N : Int) true).out 1 (255 - pw (N : Int))).vec = 32 + (N : Int) ∧ (((m.line (N : Int) true).out 1 (255 - pw (N : Int))).ack.a.next != -1) = false) := fun m h => by
    rw [eU.out]
    exact ⟨h.ok.line (by omega) (by omega) true, (unm_a h hN.out.1 hN.out.2).1, unm_pend h hN.out.1 hN.out.2, unm_vec h hN.out.1 hN.out.2, unm_done h hN.out.1 hN.out.2⟩
  have bU : Hid (By (255 - pw (N : Int))) := by rw [eU.out]; exact by_unm (n := N) hN.out.1
  have pU : (2 : Int) ^ N % 256 = pw (N : Int) := pw_mod (n := (N : Int)) (by omega) (by omega)
  clear ws
  go_enter Try.func5, Try.ntmps5
  go_wp2_with fail
  refine Calls.mono (HA.out _) ?_; rintro e w1 ⟨rfl, g1⟩
  go_wp2_with fail
  refine Calls.mono (HU.out _) ?_; rintro e w2 ⟨rfl, h2, g2⟩
  have k2 := g1.trans g2
  obtain ⟨B, hB⟩ : ∃ B, B = w1.heap.size := ⟨_, rfl⟩
  rw [← hB] at h2 ⊢
  have lB : Hid (W.heap.size ≤ B) := by rw [hB]; exact g1.size
  clear hB g1 g2
  go_wp2_with fail
  refine Calls.mono (HO.out w2 B _ 1 255 h2 setM_ok ⟨by decide, by decide, by decide, by decide⟩) ?_; rintro e w3 ⟨rfl, h3, g3⟩
  have k3 := k2.own g3 lB.out
  go_wp2_with fail
  refine Calls.mono (HL.out w3 B _ (N : Int) true h3 (M2.Ok.out (p := 1) (v := 255) setM_ok ⟨by decide, by decide⟩) ⟨by omega, by omega⟩) ?_; rintro e w4 ⟨rfl, h4, g4⟩
  have k4 := k3.own g4 lB.out
  clear h2 h3 g3 g4 k2 k3
  go_wp2_with fail
  go_loopw [7] (fun s7 wr => ∃ (i : Nat) (m : M2), s7 = .int .i64 i ∧ i ≤ len ∧ i ≤ 50 ∧ MkI N m ∧ PAt wr B m ∧ Kp noB W wr) (fun s7 _ => (50 - intOf s7).toNat)
  case atStart => exact ⟨0, _, rfl, by omega, by omega, mS.out, h4, k4⟩
  case round =>
    clear h4 k4
    obtain ⟨i, m, rfl, hi, hi2, hM, hr, kr⟩ := hrel
    by_cases hlt : i < len ∧ i < 50
    · obtain ⟨hl1, hl2⟩ := hlt
      have d1 : decide ((i : Int) < (len : Int)) = true := decide_eq_true (by omega)
      have d2 : decide ((i : Int) < 50) = true := decide_eq_true (by omega)
      obtain ⟨blk, off, rfl, hblk, hc, bd⟩ := (HS.out i hl1).kp kr
      obtain ⟨x, hx⟩ : ∃ x, x = og i := ⟨_, rfl⟩
      rw [← hx] at hc bd
      obtain ⟨bd0, bd1⟩ := bd
      clear hx
      by_cases gx : 0 ≤ x
      · have gx' : decide (x ≥ 0) = true := decide_eq_true gx
        have ex : x.tmod 16 = x % 16 := Int.tmod_eq_emod_of_nonneg gx
        obtain ⟨r, hr0⟩ : ∃ r, r = x % 16 := ⟨_, rfl⟩
        rw [← hr0] at ex
        have r0 : 0 ≤ r ∧ r < 16 := by omega
        clear hr0
        cases er : (r != (N : Int))
        · go_wp2_with fail
          refine Calls.mono (HP.out wr B _ hr hM.ok) ?_; rintro e v2 ⟨he, g2⟩
          rw [mP.out m hM] at he; subst he
          have j2 := hr.kept g2 id
          have y2 := kr.and g2
          clear hr kr g2 hc
          go_wp2
          go_roundw
          case rel => exact ⟨i + 1, m, by go_num, by omega, by omega, hM, j2, y2⟩
          case measure => simp [intOf]; omega
        · have hM' : ∀ u, MkI N (m.line r u) := fun u => mL.out m r u hM r0 (.inl (by simpa using er))
          go_wp2_with fail
          refine Calls.mono (HL.out wr B m r _ hr hM.ok r0) ?_; rintro e v1 ⟨rfl, j1, g1⟩
          have y1 := kr.own g1 lB.out
          clear hr kr g1 hc
          go_wp2_with fail
          refine Calls.mono (HP.out v1 B _ j1 (hM' _).ok) ?_; rintro e v2 ⟨he, g2⟩
          rw [mP.out _ (hM' _)] at he; subst he
          have j2 := j1.kept g2 id
          have y2 := y1.and g2
          clear j1 y1 g2
          go_wp2
          go_roundw
          case rel => exact ⟨i + 1, _, by go_num, by omega, by omega, hM' _, j2, y2⟩
          case measure => simp [intOf]; omega
      · have gx' : decide (x ≥ 0) = false := decide_eq_false gx
        go_wp2_with fail
        refine Calls.mono (HP.out wr B _ hr hM.ok) ?_; rintro e v2 ⟨he, g2⟩
        rw [mP.out m hM] at he; subst he
        have j2 := hr.kept g2 id
        have y2 := kr.and g2
        clear hr kr g2 hc
        go_wp2
        go_roundw
        case rel => exact ⟨i + 1, m, by go_num, by omega, by omega, hM, j2, y2⟩
        case measure => simp [intOf]; omega
    · have dd : (¬ i < len) ∨ (i < len ∧ ¬ i < 50) := by
        by_cases e : i < len
        · exact .inr ⟨e, fun f => hlt ⟨e, f⟩⟩
        · exact .inl e
      clear hlt
      have HM : Hid (MkI N m) := hM
      clear hM
      rcases dd with dd | ⟨dd, d50⟩
      all_goals
        go_wp2_with fail
        go_loopw [9] (fun s9 wr => ∃ (i : Nat) (m : M2), s9 = .int .i64 i ∧ i ≤ 16 ∧ MkI N m ∧ PAt wr B m ∧ Kp noB W wr) (fun s9 _ => (16 - intOf s9).toNat)
        case atStart => exact ⟨0, m, rfl, by omega, HM.out, hr, kr⟩
        case round =>
          clear hr kr HM
          obtain ⟨q, m, rfl, hq, hM, hr, kr⟩ := hrel
          by_cases hlt : q < 16
          · have d3 : decide ((q : Int) < 16) = true := decide_eq_true (by omega)
            cases er : ((q : Int) != (N : Int))
            · go_wp2
              go_roundw
              case rel => exact ⟨q + 1, m, by go_num, by omega, hM, hr, kr⟩
              case measure => simp [intOf]; omega
            · have hM' : MkI N (m.line (q : Int) false) := mL.out m q false hM ⟨by omega, by omega⟩ (.inl (by simpa using er))
              go_wp2_with fail
              refine Calls.mono (HL.out wr B m q false hr hM.ok ⟨by omega, by omega⟩) ?_; rintro e v1 ⟨rfl, j1, g1⟩
              have y1 := kr.own g1 lB.out
              clear hr kr g1
              go_wp2
              go_roundw
              case rel => exact ⟨q + 1, _, by go_num, by omega, hM', j1, y1⟩
              case measure => simp [intOf]; omega
          · have d3 : decide ((q : Int) < 16) = false := decide_eq_false (by omega)
            obtain ⟨o1, o2, p1, v1, p2⟩ := m1.out m hM
            have P1 : Hid _ := p1
            have V1 : Hid _ := v1
            have P2 : Hid _ := p2
            clear p1 v1 p2
            go_wp2_with fail
            refine Calls.mono (HL.out wr B m (N : Int) true hr hM.ok ⟨by omega, by omega⟩) ?_; rintro e v1 ⟨rfl, j1, g1⟩
            have y1 := kr.own g1 lB.out
            go_wp2_with fail
            refine Calls.mono (HO.out v1 B _ 1 _ j1 o1 ⟨by decide, by decide, bU.out⟩) ?_; rintro e v2 ⟨rfl, j2, g2⟩
            have y2 := y1.own g2 lB.out
            go_wp2_with fail
            refine Calls.mono (HP.out v2 B _ j2 o2) ?_; rintro e v3 ⟨he, g3⟩
            rw [P1.out] at he; subst he
            have j3 := j2.kept g3 id
            have y3 := y2.and g3
            go_wp2_with fail
            refine Calls.mono (HK.out v3 B _ j3 o2) ?_; rintro e v4 ⟨he, j4, g4⟩
            rw [V1.out] at he; subst he
            have y4 := y3.own g4 lB.out
            go_wp2_with fail
            refine Calls.mono (HP.out v4 B _ j4 o2.ack) ?_; rintro e v5 ⟨he, g5⟩
            rw [P2.out] at he; subst he
            have y5 := y4.and g5
            go_wp2
            go_ret
            exact ⟨rfl, HB.out _ y5⟩

set_option maxRecDepth 20000 in
set_option maxHeartbeats 4000000 in
theorem PicMasks_p1 (W : World) (n : Int) (n0 : -9223372036854775808 ≤ n) (n1 : n ≤ 9223372036854775807)  (gl : decide (n < 0) = false) (hl : n.tmod 8 = 2) (a : Option Addr) (len cap : Nat) (og : Nat → Int) (lq : len ≤ 9223372036854775807) (ws : ∀ i, i < len → NumIn W a og i) : Calls Try.prog 5 #[.int .i64 n, .slice a len cap] W fun e w' => e = .returned (.bool true) ∧ Below W.heap.size W w' := by
  have gl0 : 0 ≤ n := by simpa using gl
  have HA : Hid (∀ w, _) := awake_ok
  have HU : Hid (∀ w, _) := setup_ok
  have HO : Hid (∀ (w : World) (B : Nat) (m : M2) (p v : Int), PAt w B m → m.Ok → 0 ≤ p ∧ p < 4 ∧ By v → _) := fun w B m p v h k g => out_ok w B m h k p v g.1 g.2.1 g.2.2
  have HL : Hid (∀ (w : World) (B : Nat) (m : M2) (n : Int) (u : Bool), PAt w B m → m.Ok → 0 ≤ n ∧ n < 16 → _) := fun w B m n u h k g => line_ok w B m h k n u g.1 g.2
  have HP : Hid (∀ (w : World) (B : Nat) (m : M2), PAt w B m → m.Ok → _) := fun w B m h k => pend_ok w B m h k.a
  have HK : Hid (∀ (w : World) (B : Nat) (m : M2), PAt w B m → m.Ok → _) := fun w B m h k => ack_ok w B m h k
  have HB : Hid (∀ w', Kp noB W w' → Below W.heap.size W w') := fun w' h => h.every
  have HS : Hid (∀ i, i < len → NumIn W a og i) := ws
  have hN : Hid (1 < 8 ∧ 1 ≠ 2) := ⟨by decide, by decide⟩
  have mS : Hid (MkI 1 ((setM.out 1 255).line 1 true)) := MkI.start hN.out.1 hN.out.2
  have mL : Hid (∀ (m : M2) (k : Int) (u : Bool), MkI 1 m → 0 ≤ k ∧ k < 16 → (k ≠ 1 ∨ u = true) → MkI 1 (m.line k u)) := fun m k u h g e => h.line hN.out.1 hN.out.2 g.1 g.2 u e
  have mP : Hid (∀ m, MkI 1 m → (m.a.next != -1) = false) := fun m h => by rw [h.still]; rfl
  have eU : Hid (253 = 255 - pw 1) := (show (253 : Int) = 255 - pw 1 by decide)
  have m1 : Hid (∀ m, MkI 1 m → (m.line 1 true).Ok ∧ ((m.line 1 true).out 1 253).Ok ∧ (((m.line 1 true).out 1 253).a.next != -1) = true ∧ ((m.line 1 true).out 1 253).vec = 32 + 1 ∧ (((m.line 1 true).out 1 253).ack.a.next != -1) = false) := fun m h => by
    rw [eU.out]
    exact ⟨h.ok.line (by decide) (by decide) true, (unm_a h hN.out.1 hN.out.2).1, unm_pend h hN.out.1 hN.out.2, unm_vec h hN.out.1 hN.out.2, unm_done h hN.out.1 hN.out.2⟩
  have bU : Hid (By 253) := by rw [eU.out]; exact by_unm (n := 1) hN.out.1
  clear ws
  go_enter Try.func5, Try.ntmps5
  go_wp2_with fail
  refine Calls.mono (HA.out _) ?_; rintro e w1 ⟨rfl, g1⟩
  go_wp2_with fail
  refine Calls.mono (HU.out _) ?_; rintro e w2 ⟨rfl, h2, g2⟩
  have k2 := g1.trans g2
  obtain ⟨B, hB⟩ : ∃ B, B = w1.heap.size := ⟨_, rfl⟩
  rw [← hB] at h2 ⊢
  have lB : Hid (W.heap.size ≤ B) := by rw [hB]; exact g1.size
  clear hB g1 g2
  go_wp2_with fail
  refine Calls.mono (HO.out w2 B _ 1 255 h2 setM_ok ⟨by decide, by decide, by decide, by decide⟩) ?_; rintro e w3 ⟨rfl, h3, g3⟩
  have k3 := k2.own g3 lB.out
  go_wp2_with fail
  refine Calls.mono (HL.out w3 B _ 1 true h3 (M2.Ok.out (p := 1) (v := 255) setM_ok ⟨by decide, by decide⟩) ⟨by decide, by decide⟩) ?_; rintro e w4 ⟨rfl, h4, g4⟩
  have k4 := k3.own g4 lB.out
  clear h2 h3 g3 g4 k2 k3
  go_wp2_with fail
  go_loopw [7] (fun s7 wr => ∃ (i : Nat) (m : M2), s7 = .int .i64 i ∧ i ≤ len ∧ i ≤ 50 ∧ MkI 1 m ∧ PAt wr B m ∧ Kp noB W wr) (fun s7 _ => (50 - intOf s7).toNat)
  case atStart => exact ⟨0, _, rfl, by omega, by omega, mS.out, h4, k4⟩
  case round =>
    clear h4 k4
    obtain ⟨i, m, rfl, hi, hi2, hM, hr, kr⟩ := hrel
    by_cases hlt : i < len ∧ i < 50
    · obtain ⟨hl1, hl2⟩ := hlt
      have d1 : decide ((i : Int) < (len : Int)) = true := decide_eq_true (by omega)
      have d2 : decide ((i : Int) < 50) = true := decide_eq_true (by omega)
      obtain ⟨blk, off, rfl, hblk, hc, bd⟩ := (HS.out i hl1).kp kr
      obtain ⟨x, hx⟩ : ∃ x, x = og i := ⟨_, rfl⟩
      rw [← hx] at hc bd
      obtain ⟨bd0, bd1⟩ := bd
      clear hx
      by_cases gx : 0 ≤ x
      · have gx' : decide (x ≥ 0) = true := decide_eq_true gx
        have ex : x.tmod 16 = x % 16 := Int.tmod_eq_emod_of_nonneg gx
        obtain ⟨r, hr0⟩ : ∃ r, r = x % 16 := ⟨_, rfl⟩
        rw [← hr0] at ex
        have r0 : 0 ≤ r ∧ r < 16 := by omega
        clear hr0
        cases er : (r != 1)
        · go_wp2_with fail
          refine Calls.mono (HP.out wr B _ hr hM.ok) ?_; rintro e v2 ⟨he, g2⟩
          rw [mP.out m hM] at he; subst he
          have j2 := hr.kept g2 id
          have y2 := kr.and g2
          clear hr kr g2 hc
          go_wp2
          go_roundw
          case rel => exact ⟨i + 1, m, by go_num, by omega, by omega, hM, j2, y2⟩
          case measure => simp [intOf]; omega
        · have hM' : ∀ u, MkI 1 (m.line r u) := fun u => mL.out m r u hM r0 (.inl (by simpa using er))
          go_wp2_with fail
          refine Calls.mono (HL.out wr B m r _ hr hM.ok r0) ?_; rintro e v1 ⟨rfl, j1, g1⟩
          have y1 := kr.own g1 lB.out
          clear hr kr g1 hc
          go_wp2_with fail
          refine Calls.mono (HP.out v1 B _ j1 (hM' _).ok) ?_; rintro e v2 ⟨he, g2⟩
          rw [mP.out _ (hM' _)] at he; subst he
          have j2 := j1.kept g2 id
          have y2 := y1.and g2
          clear j1 y1 g2
          go_wp2
          go_roundw
          case rel => exact ⟨i + 1, _, by go_num, by omega, by omega, hM' _, j2, y2⟩
          case measure => simp [intOf]; omega
      · have gx' : decide (x ≥ 0) = false := decide_eq_false gx
        go_wp2_with fail
        refine Calls.mono (HP.out wr B _ hr hM.ok) ?_; rintro e v2 ⟨he, g2⟩
        rw [mP.out m hM] at he; subst he
        have j2 := hr.kept g2 id
        have y2 := kr.and g2
        clear hr kr g2 hc
        go_wp2
        go_roundw
        case rel => exact ⟨i + 1, m, by go_num, by omega, by omega, hM, j2, y2⟩
        case measure => simp [intOf]; omega
    · have dd : (¬ i < len) ∨ (i < len ∧ ¬ i < 50) := by
        by_cases e : i < len
        · exact .inr ⟨e, fun f => hlt ⟨e, f⟩⟩
        · exact .inl e
      clear hlt
      have HM : Hid (MkI 1 m) := hM
      clear hM
      rcases dd with dd | ⟨dd, d50⟩
      all_goals
        go_wp2_with fail
        go_loopw [9] (fun s9 wr => ∃ (i : Nat) (m : M2), s9 = .int .i64 i ∧ i ≤ 16 ∧ MkI 1 m ∧ PAt wr B m ∧ Kp noB W wr) (fun s9 _ => (16 - intOf s9).toNat)
        case atStart => exact ⟨0, m, rfl, by omega, HM.out, hr, kr⟩
        case round =>
          clear hr kr HM
          obtain ⟨q, m, rfl, hq, hM, hr, kr⟩ := hrel
          by_cases hlt : q < 16
          · have d3 : decide ((q : Int) < 16) = true := decide_eq_true (by omega)
            cases er : ((q : Int) != 1)
            · go_wp2
              go_roundw
              case rel => exact ⟨q + 1, m, by go_num, by omega, hM, hr, kr⟩
              case measure => simp [intOf]; omega
            · have hM' : MkI 1 (m.line (q : Int) false) := mL.out m q false hM ⟨by omega, by omega⟩ (.inl (by simpa using er))
              go_wp2_with fail
              refine Calls.mono (HL.out wr B m q false hr hM.ok ⟨by omega, by omega⟩) ?_; rintro e v1 ⟨rfl, j1, g1⟩
              have y1 := kr.own g1 lB.out
              clear hr kr g1
              go_wp2
              go_roundw
              case rel => exact ⟨q + 1, _, by go_num, by omega, hM', j1, y1⟩
              case measure => simp [intOf]; omega
          · have d3 : decide ((q : Int) < 16) = false := decide_eq_false (by omega)
            obtain ⟨o1, o2, p1, v1, p2⟩ := m1.out m hM
            have P1 : Hid _ := p1
            have V1 : Hid _ := v1
            have P2 : Hid _ := p2
            clear p1 v1 p2
            go_wp2_with fail
            refine Calls.mono (HL.out wr B m 1 true hr hM.ok ⟨by decide, by decide⟩) ?_; rintro e v1 ⟨rfl, j1, g1⟩
            have y1 := kr.own g1 lB.out
            go_wp2_with fail
            refine Calls.mono (HO.out v1 B _ 1 _ j1 o1 ⟨by decide, by decide, bU.out⟩) ?_; rintro e v2 ⟨rfl, j2, g2⟩
            have y2 := y1.own g2 lB.out
            go_wp2_with fail
            refine Calls.mono (HP.out v2 B _ j2 o2) ?_; rintro e v3 ⟨he, g3⟩
            rw [P1.out] at he; subst he
            have j3 := j2.kept g3 id
            have y3 := y2.and g3
            go_wp2_with fail
            refine Calls.mono (HK.out v3 B _ j3 o2) ?_; rintro e v4 ⟨he, j4, g4⟩
            rw [V1.out] at he; subst he
            have y4 := y3.own g4 lB.out
            go_wp2_with fail
            refine Calls.mono (HP.out v4 B _ j4 o2.ack) ?_; rintro e v5 ⟨he, g5⟩
            rw [P2.out] at he; subst he
            have y5 := y4.and g5
            go_wp2
            go_ret
            exact ⟨rfl, HB.out _ y5⟩

set_option maxRecDepth 20000 in
set_option maxHeartbeats 4000000 in
theorem PicMasks_p0 (W : World) (n : Int) (n0 : -9223372036854775808 ≤ n) (n1 : n ≤ 9223372036854775807) (N : Nat) (N8 : N < 8) (N2 : ((N : Int) == 2) = false) (gl : decide (n < 0) = false) (hl : n.tmod 8 = (N : Int)) (a : Option Addr) (len cap : Nat) (og : Nat → Int) (lq : len ≤ 9223372036854775807) (ws : ∀ i, i < len → NumIn W a og i) : Calls Try.prog 5 #[.int .i64 n, .slice a len cap] W fun e w' => e = .returned (.bool true) ∧ Below W.heap.size W w' := by
  have gl0 : 0 ≤ n := by simpa using gl
  have HA : Hid (∀ w, _) := awake_ok
  have HU : Hid (∀ w, _) := setup_ok
  have HO : Hid (∀ (w : World) (B : Nat) (m : M2) (p v : Int), PAt w B m → m.Ok → 0 ≤ p ∧ p < 4 ∧ By v → _) := fun w B m p v h k g => out_ok w B m h k p v g.1 g.2.1 g.2.2
  have HL : Hid (∀ (w : World) (B : Nat) (m : M2) (n : Int) (u : Bool), PAt w B m → m.Ok → 0 ≤ n ∧ n < 16 → _) := fun w B m n u h k g => line_ok w B m h k n u g.1 g.2
  have HP : Hid (∀ (w : World) (B : Nat) (m : M2), PAt w B m → m.Ok → _) := fun w B m h k => pend_ok w B m h k.a
  have HK : Hid (∀ (w : World) (B : Nat) (m : M2), PAt w B m → m.Ok → _) := fun w B m h k => ack_ok w B m h k
  have HB : Hid (∀ w', Kp noB W w' → Below W.heap.size W w') := fun w' h => h.every
  have HS : Hid (∀ i, i < len → NumIn W a og i) := ws
  have hN : Hid (N < 8 ∧ N ≠ 2) := ⟨N8, fun e => by subst e; simp at N2⟩
  have mS : Hid (MkI N ((setM.out 1 255).line (N : Int) true)) := MkI.start hN.out.1 hN.out.2
  have mL : Hid (∀ (m : M2) (k : Int) (u : Bool), MkI N m → 0 ≤ k ∧ k < 16 → (k ≠ (N : Int) ∨ u = true) → MkI N (m.line k u)) := fun m k u h g e => h.line hN.out.1 hN.out.2 g.1 g.2 u e
  have mP : Hid (∀ m, MkI N m → (m.a.next != -1) = false) := fun m h => by rw [h.still]; rfl
  have eU : Hid ((255 - pw (N : Int)) = 255 - pw (N : Int)) := rfl
  have m1 : Hid (∀ m, MkI N m → (m.line (N : Int) true).Ok ∧ ((m.line (N : Int) true).out 1 (255 - pw (N : Int))).Ok ∧ (((m.line (N : Int) true).out 1 (255 - pw (N : Int))).a.next != -1) = true ∧ ((m.line (N : Int) true).out 1 (255 - pw (N : Int))).vec = 32 + (N : Int) ∧ (((m.line (N : Int) true).out 1 (255 - pw (N : Int))).ack.a.next != -1) = false) := fun m h => by
    rw [eU.out]
    exact ⟨h.ok.line (by omega) (by omega) true, (unm_a h hN.out.1 hN.out.2).1, unm_pend h hN.out.1 hN.out.2, unm_vec h hN.out.1 hN.out.2, unm_done h hN.out.1 hN.out.2⟩
  have bU : Hid (By (255 - pw (N : Int))) := by rw [eU.out]; exact by_unm (n := N) hN.out.1
  have pU : (2 : Int) ^ N % 256 = pw (N : Int) := pw_mod (n := (N : Int)) (by omega) (by omega)
  clear ws
  go_enter Try.func5, Try.ntmps5
  go_wp2_with fail
  refine Calls.mono (HA.out _) ?_; rintro e w1 ⟨rfl, g1⟩
  go_wp2_with fail
  refine Calls.mono (HU.out _) ?_; rintro e w2 ⟨rfl, h2, g2⟩
  have k2 := g1.trans g2
  obtain ⟨B, hB⟩ : ∃ B, B = w1.heap.size := ⟨_, rfl⟩
  rw [← hB] at h2 ⊢
  have lB : Hid (W.heap.size ≤ B) := by rw [hB]; exact g1.size
  clear hB g1 g2
  go_wp2_with fail
  refine Calls.mono (HO.out w2 B _ 1 255 h2 setM_ok ⟨by decide, by decide, by decide, by decide⟩) ?_; rintro e w3 ⟨rfl, h3, g3⟩
  have k3 := k2.own g3 lB.out
  go_wp2_with fail
  refine Calls.mono (HL.out w3 B _ (N : Int) true h3 (M2.Ok.out (p := 1) (v := 255) setM_ok ⟨by decide, by decide⟩) ⟨by omega, by omega⟩) ?_; rintro e w4 ⟨rfl, h4, g4⟩
  have k4 := k3.own g4 lB.out
  clear h2 h3 g3 g4 k2 k3
  go_wp2_with fail
  go_loopw [7] (fun s7 wr => ∃ (i : Nat) (m : M2), s7 = .int .i64 i ∧ i ≤ len ∧ i ≤ 50 ∧ MkI N m ∧ PAt wr B m ∧ Kp noB W wr) (fun s7 _ => (50 - intOf s7).toNat)
  case atStart => exact ⟨0, _, rfl, by omega, by omega, mS.out, h4, k4⟩
  case round =>
    clear h4 k4
    obtain ⟨i, m, rfl, hi, hi2, hM, hr, kr⟩ := hrel
    by_cases hlt : i < len ∧ i < 50
    · obtain ⟨hl1, hl2⟩ := hlt
      have d1 : decide ((i : Int) < (len : Int)) = true := decide_eq_true (by omega)
      have d2 : decide ((i : Int) < 50) = true := decide_eq_true (by omega)
      obtain ⟨blk, off, rfl, hblk, hc, bd⟩ := (HS.out i hl1).kp kr
      obtain ⟨x, hx⟩ : ∃ x, x = og i := ⟨_, rfl⟩
      rw [← hx] at hc bd
      obtain ⟨bd0, bd1⟩ := bd
      clear hx
      by_cases gx : 0 ≤ x
      · have gx' : decide (x ≥ 0) = true := decide_eq_true gx
        have ex : x.tmod 16 = x % 16 := Int.tmod_eq_emod_of_nonneg gx
        obtain ⟨r, hr0⟩ : ∃ r, r = x % 16 := ⟨_, rfl⟩
        rw [← hr0] at ex
        have r0 : 0 ≤ r ∧ r < 16 := by omega
        clear hr0
        cases er : (r != (N : Int))
        · go_wp2_with fail
          refine Calls.mono (HP.out wr B _ hr hM.ok) ?_; rintro e v2 ⟨he, g2⟩
          rw [mP.out m hM] at he; subst he
          have j2 := hr.kept g2 id
          have y2 := kr.and g2
          clear hr kr g2 hc
          go_wp2
          go_roundw
          case rel => exact ⟨i + 1, m, by go_num, by omega, by omega, hM, j2, y2⟩
          case measure => simp [intOf]; omega
        · have hM' : ∀ u, MkI N (m.line r u) := fun u => mL.out m r u hM r0 (.inl (by simpa using er))
          go_wp2_with fail
          refine Calls.mono (HL.out wr B m r _ hr hM.ok r0) ?_; rintro e v1 ⟨rfl, j1, g1⟩
          have y1 := kr.own g1 lB.out
          clear hr kr g1 hc
          go_wp2_with fail
          refine Calls.mono (HP.out v1 B _ j1 (hM' _).ok) ?_; rintro e v2 ⟨he, g2⟩
          rw [mP.out _ (hM' _)] at he; subst he
          have j2 := j1.kept g2 id
          have y2 := y1.and g2
          clear j1 y1 g2
          go_wp2
          go_roundw
          case rel => exact ⟨i + 1, _, by go_num, by omega, by omega, hM' _, j2, y2⟩
          case measure => simp [intOf]; omega
      · have gx' : decide (x ≥ 0) = false := decide_eq_false gx
        go_wp2_with fail
        refine Calls.mono (HP.out wr B _ hr hM.ok) ?_; rintro e v2 ⟨he, g2⟩
        rw [mP.out m hM] at he; subst he
        have j2 := hr.kept g2 id
        have y2 := kr.and g2
        clear hr kr g2 hc
        go_wp2
        go_roundw
        case rel => exact ⟨i + 1, m, by go_num, by omega, by omega, hM, j2, y2⟩
        case measure => simp [intOf]; omega
    · have dd : (¬ i < len) ∨ (i < len ∧ ¬ i < 50) := by
        by_cases e : i < len
        · exact .inr ⟨e, fun f => hlt ⟨e, f⟩⟩
        · exact .inl e
      clear hlt
      have HM : Hid (MkI N m) := hM
      clear hM
      rcases dd with dd | ⟨dd, d50⟩
      all_goals
        go_wp2_with fail
        go_loopw [9] (fun s9 wr => ∃ (i : Nat) (m : M2), s9 = .int .i64 i ∧ i ≤ 16 ∧ MkI N m ∧ PAt wr B m ∧ Kp noB W wr) (fun s9 _ => (16 - intOf s9).toNat)
        case atStart => exact ⟨0, m, rfl, by omega, HM.out, hr, kr⟩
        case round =>
          clear hr kr HM
          obtain ⟨q, m, rfl, hq, hM, hr, kr⟩ := hrel
          by_cases hlt : q < 16
          · have d3 : decide ((q : Int) < 16) = true := decide_eq_true (by omega)
            cases er : ((q : Int) != (N : Int))
            · go_wp2
              go_roundw
              case rel => exact ⟨q + 1, m, by go_num, by omega, hM, hr, kr⟩
              case measure => simp [intOf]; omega
            · have hM' : MkI N (m.line (q : Int) false) := mL.out m q false hM ⟨by omega, by omega⟩ (.inl (by simpa using er))
              go_wp2_with fail
              refine Calls.mono (HL.out wr B m q false hr hM.ok ⟨by omega, by omega⟩) ?_; rintro e v1 ⟨rfl, j1, g1⟩
              have y1 := kr.own g1 lB.out
              clear hr kr g1
              go_wp2
              go_roundw
              case rel => exact ⟨q + 1, _, by go_num, by omega, hM', j1, y1⟩
              case measure => simp [intOf]; omega
          · have d3 : decide ((q : Int) < 16) = false := decide_eq_false (by omega)
            obtain ⟨o1, o2, p1, v1, p2⟩ := m1.out m hM
            have P1 : Hid _ := p1
            have V1 : Hid _ := v1
            have P2 : Hid _ := p2
            clear p1 v1 p2
            go_wp2_with fail
            refine Calls.mono (HL.out wr B m (N : Int) true hr hM.ok ⟨by omega, by omega⟩) ?_; rintro e v1 ⟨rfl, j1, g1⟩
            have y1 := kr.own g1 lB.out
            go_wp2_with fail
            refine Calls.mono (HO.out v1 B _ 1 _ j1 o1 ⟨by decide, by decide, bU.out⟩) ?_; rintro e v2 ⟨rfl, j2, g2⟩
            have y2 := y1.own g2 lB.out
            go_wp2_with fail
            refine Calls.mono (HP.out v2 B _ j2 o2) ?_; rintro e v3 ⟨he, g3⟩
            rw [P1.out] at he; subst he
            have j3 := j2.kept g3 id
            have y3 := y2.and g3
            go_wp2_with fail
            refine Calls.mono (HK.out v3 B _ j3 o2) ?_; rintro e v4 ⟨he, j4, g4⟩
            rw [V1.out] at he; subst he
            have y4 := y3.own g4 lB.out
            go_wp2_with fail
            refine Calls.mono (HP.out v4 B _ j4 o2.ack) ?_; rintro e v5 ⟨he, g5⟩
            rw [P2.out] at he; subst he
            have y5 := y4.and g5
            go_wp2
            go_ret
            exact ⟨rfl, HB.out _ y5⟩

theorem PicMasks_walk (W : World) (n : Int) (n0 : -9223372036854775808 ≤ n) (n1 : n ≤ 9223372036854775807) (a : Option Addr) (len cap : Nat) (og : Nat → Int) (lq : len ≤ 9223372036854775807) (ws : ∀ i, i < len → NumIn W a og i) : Calls Try.prog 5 #[.int .i64 n, .slice a len cap] W fun e w' => e = .returned (.bool true) ∧ Below W.heap.size W w' := by
  have eL : ∀ x : Int, 0 ≤ x → x.tmod 8 = x % 8 := fun x h => Int.tmod_eq_emod_of_nonneg h
  by_cases gl : n < 0
  · have nL : -(n + 1).tmod 8 = (-(n + 1)) % 8 := by rw [← Int.neg_tmod, eL _ (by omega)]
    obtain ⟨N, hN⟩ := Int.eq_ofNat_of_zero_le (show 0 ≤ (-(n + 1)) % 8 by omega)
    rw [hN] at nL
    by_cases e : (N : Int) = 2
    · exact PicMasks_n1 W n n0 n1 (decide_eq_true gl) (nL.trans e) a len cap og lq ws
    · exact PicMasks_n0 W n n0 n1 N (by omega) (by simpa using e) (decide_eq_true gl) nL a len cap og lq ws
  · have nL : n.tmod 8 = n % 8 := eL _ (by omega)
    obtain ⟨N, hN⟩ := Int.eq_ofNat_of_zero_le (show 0 ≤ n % 8 by omega)
    rw [hN] at nL
    by_cases e : (N : Int) = 2
    · exact PicMasks_p1 W n n0 n1 (decide_eq_false gl) (nL.trans e) a len cap og lq ws
    · exact PicMasks_p0 W n n0 n1 N (by omega) (by simpa using e) (decide_eq_false gl) nL a len cap og lq ws

end Go.Proofs.Ytfpgijdfbgfkcaa
