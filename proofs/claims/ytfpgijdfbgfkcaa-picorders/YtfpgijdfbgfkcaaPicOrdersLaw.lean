/- The walk of PicOrders. -/
import Derived.Test.YtfpgijdfbgfkcaaPcLn
import Derived.Test.YtfpgijdfbgfkcaaPcOpen
import Derived.LoopTactic
namespace Go.Proofs.Ytfpgijdfbgfkcaa
open Go.ChangeShapes Go.WideShapes Go.ChangeAt Go.RowKit
set_option linter.unusedVariables false

/-- The order, as it lies in a block. -/
def OrdC (w : World) (q : Nat) : Prop := w.heap[q]? = some (.cells #[.int .i64 0, .int .i64 1, .int .i64 8, .int .i64 9, .int .i64 10, .int .i64 11, .int .i64 12, .int .i64 13, .int .i64 14, .int .i64 15, .int .i64 3, .int .i64 4, .int .i64 5, .int .i64 6, .int .i64 7] 3 (0, 0))

theorem OrdC.kept {S : Nat → Prop} {w w' : World} {q : Nat} (h : OrdC w q) (k : Kp S w w') (hS : ¬ S q) : OrdC w' q := heap_kept h k hS

theorem OrdC.cell {w : World} {q i : Nat} (h : OrdC w q) (hi : i < 15) : w.cell? ⟨q, i, none⟩ = some (.int .i64 (ordL i : Nat)) := by
  unfold OrdC at h
  unfold World.cell?
  rw [h]
  rcases (by omega : i = 0 ∨ i = 1 ∨ i = 2 ∨ i = 3 ∨ i = 4 ∨ i = 5 ∨ i = 6 ∨ i = 7 ∨ i = 8 ∨ i = 9 ∨ i = 10 ∨ i = 11 ∨ i = 12 ∨ i = 13 ∨ i = 14) with rfl | rfl | rfl | rfl | rfl | rfl | rfl | rfl | rfl | rfl | rfl | rfl | rfl | rfl | rfl <;> rfl

theorem bit_div {L : Int} (L0 : 0 ≤ L) (i : Nat) : ∃ y, 0 ≤ y ∧ L / 2 ^ i = y ∧ tb L i = decide (y % 2 = 1) := by
  have e : (2 : Int) ^ i = ((2 ^ i : Nat) : Int) := by simp
  refine ⟨L / 2 ^ i, ?_, rfl, ?_⟩
  · rw [e]; exact Int.ediv_nonneg L0 (Int.natCast_nonneg _)
  · rw [tb_div L L0 i, e]

theorem bit_one {L : Int} (L0 : 0 ≤ L) (i : Nat) : ((L / 2 ^ i).tmod 2 == 1) = tb L i := by
  obtain ⟨y, y0, e1, e2⟩ := bit_div L0 i
  rw [e1, e2, Int.tmod_eq_emod_of_nonneg y0]
  by_cases h : y % 2 = 1 <;> simp [h]

theorem bit_zero {L : Int} (L0 : 0 ≤ L) (i : Nat) : ((L / 2 ^ i).tmod 2 == 0) = !tb L i := by
  obtain ⟨y, y0, e1, e2⟩ := bit_div L0 i
  rw [e1, e2, Int.tmod_eq_emod_of_nonneg y0]
  by_cases h : y % 2 = 1
  · simp [h]
  · have : y % 2 = 0 := by omega
    simp [this]

theorem not16_4 {M : Int} (M0 : 0 ≤ M) (M1 : M ≤ 65535) : 0 ≤ bits .andNot .u16 M 4 ∧ bits .andNot .u16 M 4 ≤ 65535 ∧ tb (bits .andNot .u16 M 4) 2 = false := by
  rw [u16_andNot M 4 M0 (by omega) (by decide) (by decide)]
  have := Nat.and_lt_two_pow (n := 16) M.toNat (show 65535 - (4 : Int).toNat < 2 ^ 16 by decide)
  refine ⟨by omega, by omega, ?_⟩
  unfold tb
  rw [show (((M.toNat &&& (65535 - (4 : Int).toNat) : Nat) : Int)).toNat = M.toNat &&& (65535 - (4 : Int).toNat) from rfl, Nat.testBit_and]
  have : (65535 - (4 : Int).toNat).testBit 2 = false := by decide
  rw [this]; simp

theorem low_byte {K : Int} (K0 : 0 ≤ K) (k : Nat) (hk : k < 8) : tb (K % 256) k = tb K k := by
  obtain ⟨n, rfl⟩ := Int.eq_ofNat_of_zero_le K0
  have e : ((n : Int) % 256) = ((n % 2 ^ 8 : Nat) : Int) := by simp
  unfold tb
  rw [e, Int.toNat_natCast, Int.toNat_natCast, Nat.testBit_mod_two_pow]
  simp [hk]

theorem high_byte {K : Int} (K0 : 0 ≤ K) (k : Nat) : tb (K / 256) k = tb K (8 + k) := by
  obtain ⟨n, rfl⟩ := Int.eq_ofNat_of_zero_le K0
  have e : ((n : Int) / 256) = ((n / 2 ^ 8 : Nat) : Int) := by simp
  unfold tb
  rw [e, Int.toNat_natCast, Int.toNat_natCast, Nat.testBit_div_two_pow, Nat.add_comm]

set_option maxRecDepth 20000 in
set_option maxHeartbeats 4000000 in
theorem PicOrders_walk (W : World) (L : Int) (L0 : 0 ≤ L) (L1 : L ≤ 65535) (M : Int) (M0 : 0 ≤ M) (M1 : M ≤ 65535) : Calls Try.prog 4 #[.int .u16 L, .int .u16 M] W fun e w' => e = .returned (.bool true) ∧ Below W.heap.size W w' := by
  have HA : Hid (∀ w, _) := awake_ok
  have HU : Hid (∀ w, _) := setup_ok
  have HO : Hid (∀ (w : World) (B : Nat) (m : M2) (p v : Int), PAt w B m → m.Ok → 0 ≤ p ∧ p < 4 ∧ By v → _) := fun w B m p v h k g => out_ok w B m h k p v g.1 g.2.1 g.2.2
  have HL : Hid (∀ (w : World) (B : Nat) (m : M2) (n : Int) (u : Bool), PAt w B m → m.Ok → 0 ≤ n ∧ n < 16 → _) := fun w B m n u h k g => line_ok w B m h k n u g.1 g.2
  have HP : Hid (∀ (w : World) (B : Nat) (m : M2), PAt w B m → m.Ok → _) := fun w B m h k => pend_ok w B m h k.a
  have HK : Hid (∀ (w : World) (B : Nat) (m : M2), PAt w B m → m.Ok → _) := fun w B m h k => ack_ok w B m h k
  have HB : Hid (∀ w', Kp noB W w' → Below W.heap.size W w') := fun w' h => h.every
  obtain ⟨K, hK⟩ : ∃ K, bits .andNot .u16 M 4 = K := ⟨_, rfl⟩
  have hKK := not16_4 M0 M1
  rw [hK] at hKK
  obtain ⟨K0, K1, K2'⟩ := hKK
  have K2 : Hid (tb K 2 = false) := K2'
  clear K2'
  have bA : Hid (By (K % 256)) := ⟨by omega, by omega⟩
  have bB : Hid (By (K / 256)) := ⟨by omega, by omega⟩
  have mS : Hid (LnI L (K % 256) (K / 256) 0 ((setM.out 1 (K % 256)).out 3 (K / 256))) := LnI.start L bA.out bB.out
  go_enter Try.func4, Try.ntmps4
  go_wp2_with fail
  refine Calls.mono (HA.out _) ?_; rintro e w1 ⟨rfl, g1⟩
  go_wp2_with fail
  refine Calls.mono (HU.out _) ?_; rintro e w2 ⟨rfl, h2, g2⟩
  have k2 := g1.trans g2
  obtain ⟨B, hB⟩ : ∃ B, B = w1.heap.size := ⟨_, rfl⟩
  rw [← hB] at h2 ⊢
  have lB : Hid (W.heap.size ≤ B) := by rw [hB]; exact g1.size
  clear hB g1 g2
  go_wp2_with fail
  refine Calls.mono (HO.out w2 B _ 1 _ h2 setM_ok ⟨by decide, by decide, bA.out⟩) ?_; rintro e w3 ⟨rfl, h3, g3⟩
  have k3 := k2.own g3 lB.out
  go_wp2_with fail
  refine Calls.mono (HO.out w3 B _ 3 _ h3 (M2.Ok.out (p := 1) setM_ok bA.out) ⟨by decide, by decide, bB.out⟩) ?_; rintro e w4 ⟨rfl, h4, g4⟩
  have k4 := k3.own g4 lB.out
  clear h2 h3 g3 g4 k2 k3
  go_wp2_with fail
  go_loopw [7] (fun s7 wr => ∃ (i : Nat) (m : M2), s7 = .int .i64 i ∧ i ≤ 16 ∧ LnI L (K % 256) (K / 256) i m ∧ PAt wr B m ∧ Kp noB W wr) (fun s7 _ => (16 - intOf s7).toNat)
  case atStart => exact ⟨0, _, rfl, by omega, mS.out, h4, k4⟩
  case round =>
    clear h4 k4
    obtain ⟨i, m, rfl, hi, hM, hr, kr⟩ := hrel
    by_cases hlt : i < 16
    · have hb : ((L / 2 ^ i).tmod 2 == 1) = tb L i := bit_one L0 i
      have hM' : Hid (LnI L (K % 256) (K / 256) (i + 1) (m.line (i : Int) (tb L i))) := hM.step hlt
      go_wp2_with fail
      refine Calls.mono (HL.out wr B m i (tb L i) hr hM.ok ⟨by omega, by omega⟩) ?_; rintro e v1 ⟨rfl, j1, g1⟩
      have y1 := kr.own g1 lB.out
      clear hr kr g1 hM
      go_wp2
      go_roundw
      case rel => exact ⟨i + 1, _, by go_num, by omega, hM'.out, j1, y1⟩
      case measure => simp [intOf]; omega
    · obtain rfl : i = 16 := by omega
      have hO : Hid (OrdI (fun k => tb L k && !tb K k) 0 m) := hM.done (K := K) (fun k hk => low_byte K0 k hk) (fun k hk => high_byte K0 k) K2.out
      have qB : Hid (¬ wr.heap.size = B) := by have := hr.lt; intro f; omega
      obtain ⟨q, hq⟩ : ∃ q, q = wr.heap.size := ⟨_, rfl⟩
      have hC : Hid (OrdC (wr.alloc (.cells #[.int .i64 0, .int .i64 1, .int .i64 8, .int .i64 9, .int .i64 10, .int .i64 11, .int .i64 12, .int .i64 13, .int .i64 14, .int .i64 15, .int .i64 3, .int .i64 4, .int .i64 5, .int .i64 6, .int .i64 7] 3)) q) := by rw [hq]; exact heap_new _ _
      have r1 : PAt (wr.alloc (.cells #[.int .i64 0, .int .i64 1, .int .i64 8, .int .i64 9, .int .i64 10, .int .i64 11, .int .i64 12, .int .i64 13, .int .i64 14, .int .i64 15, .int .i64 3, .int .i64 4, .int .i64 5, .int .i64 6, .int .i64 7] 3)) B m := hr.alloc _
      have y1 : Kp noB W (wr.alloc (.cells #[.int .i64 0, .int .i64 1, .int .i64 8, .int .i64 9, .int .i64 10, .int .i64 11, .int .i64 12, .int .i64 13, .int .i64 14, .int .i64 15, .int .i64 3, .int .i64 4, .int .i64 5, .int .i64 6, .int .i64 7] 3)) := kr.trans (Kp.alloc _ _ _)
      rw [← hq] at qB
      go_wp2_with fail
      rw [← hq]
      generalize (wr.alloc (.cells #[.int .i64 0, .int .i64 1, .int .i64 8, .int .i64 9, .int .i64 10, .int .i64 11, .int .i64 12, .int .i64 13, .int .i64 14, .int .i64 15, .int .i64 3, .int .i64 4, .int .i64 5, .int .i64 6, .int .i64 7] 3)) = w0 at hC r1 y1 ⊢
      clear hr kr hM hq
      go_loopw [9] (fun s9 wr => ∃ (i : Nat) (m : M2), s9 = .int .i64 i ∧ i ≤ 15 ∧ OrdI (fun k => tb L k && !tb K k) i m ∧ PAt wr B m ∧ OrdC wr q ∧ Kp noB W wr) (fun s9 _ => (15 - intOf s9).toNat)
      case atStart => exact ⟨0, m, rfl, by omega, hO.out, r1, hC.out, y1⟩
      case round =>
        clear hO r1 hC y1
        obtain ⟨i, m, rfl, hi, hM, hr, hC, kr⟩ := hrel
        by_cases hlt : i < 15
        · have hc := hC.cell hlt
          obtain ⟨p1, p2, p3⟩ := pos_ord hlt
          obtain ⟨N, hN⟩ : ∃ N, N = ordL i := ⟨_, rfl⟩
          rw [← hN] at hc p1 p2 p3
          have HC : Hid (OrdC wr q) := hC
          have HM : Hid (OrdI (fun k => tb L k && !tb K k) i m) := hM
          have HN : Hid (N = ordL i) := hN
          have HI : Hid (i = posL N) := p1.symm
          have b1 : ((L / 2 ^ N).tmod 2 == 0) = !tb L N := bit_zero L0 N
          have b2 : ((K / 2 ^ N).tmod 2 == 1) = tb K N := bit_one K0 N
          clear hC hM hN p1
          cases eL : tb L N
          · rw [eL, Bool.not_false] at b1
            have hM' := HM.out.skip (by rw [← HN.out]; show (tb L N && !tb K N) = false; rw [eL]; rfl)
            have HM' : Hid _ := hM'
            clear hM' b2
            go_wp2
            go_roundw
            case rel => exact ⟨i + 1, m, by go_num, by omega, HM'.out, hr, HC.out, kr⟩
            case measure => simp [intOf]; omega
          · rw [eL, Bool.not_true] at b1
            cases eK : tb K N
            · rw [eK] at b2
              have hA : Hid ((fun k => tb L k && !tb K k) N = true) := by show (tb L N && !tb K N) = true; rw [eL, eK]; rfl
              by_cases h8 : N < 8
              · have p1' : (m.a.next != -1) = true := by rw [HM.out.nextA h8 p3 HI.out hA.out]; simp
                have P1 : Hid ((m.a.next != -1) = true) := p1'
                clear p1'
                have V1 : Hid (m.vec = 32 + (N : Int)) := HM.out.vecA h8 p3 HI.out hA.out
                have P2 : Hid ((m.ack.a.next != -1) = false) := by rw [HM.out.stopA h8 p3 HI.out hA.out]; rfl
                have M3 : Hid (OrdI (fun k => tb L k && !tb K k) (i + 1) (m.ack.out 0 32)) := HM.out.goA h8 p3 HI.out hA.out hlt HN.out
                go_wp2_with fail
                refine Calls.mono (HP.out wr B _ hr HM.out.ok) ?_; rintro e v1 ⟨he, g1⟩
                rw [P1.out] at he; subst he
                have j1 := hr.kept g1 id
                have y1 := kr.and g1
                have C1 := HC.out.kept g1 id
                go_wp2_with fail
                refine Calls.mono (HK.out v1 B _ j1 HM.out.ok) ?_; rintro e v2 ⟨he, j2, g2⟩
                rw [V1.out] at he; subst he
                have y2 := y1.own g2 lB.out
                have C2 := C1.kept g2 qB.out
                go_wp2_with fail
                refine Calls.mono (HP.out v2 B _ j2 HM.out.ok.ack) ?_; rintro e v3 ⟨he, g3⟩
                rw [P2.out] at he; subst he
                have j3 := j2.kept g3 id
                have y3 := y2.and g3
                have C3 := C2.kept g3 id
                clear hc j1 j2 y1 y2 C1 C2 g1 g2 g3 hr kr
                go_wp2_with fail
                refine Calls.mono (HO.out v3 B _ 0 32 j3 HM.out.ok.ack ⟨by decide, by decide, by decide, by decide⟩) ?_; rintro e v4 ⟨rfl, j4, g4⟩
                have y4 := y3.own g4 lB.out
                have C4 := C3.kept g4 qB.out
                go_wp2
                go_roundw
                case rel => first | exact ⟨i + 1, _, by go_num, by omega, M3.out, j4, C4, y4⟩ | ((repeat apply Exists.intro); exact ⟨⟨i + 1, _, by go_num, by omega, M3.out, j4, C4, y4⟩, rfl⟩)
                case measure => simp [intOf]; omega
              · obtain ⟨n, rfl⟩ : ∃ n, N = 8 + n := ⟨N - 8, by omega⟩
                have n8 : n < 8 := by omega
                have P1 : Hid ((m.a.next != -1) = true) := by rw [HM.out.next2 n8 HI.out hA.out]; rfl
                have v1' : m.vec = 32 + ((8 + n : Nat) : Int) := by rw [HM.out.vecB n8 HI.out hA.out]; omega
                have V1 : Hid (m.vec = 32 + ((8 + n : Nat) : Int)) := v1'
                clear v1'
                have P2 : Hid ((m.ack.a.next != -1) = false) := by rw [HM.out.stopB n8 HI.out hA.out]; rfl
                have M3 : Hid (OrdI (fun k => tb L k && !tb K k) (i + 1) ((m.ack.out 2 32).out 0 32)) := HM.out.goB n8 HI.out hA.out hlt HN.out
                obtain ⟨N, hN⟩ : ∃ N, N = 8 + n := ⟨_, rfl⟩
                rw [← hN] at V1 hc b1 b2 h8 p2 p3
                clear hN HN HI hA eL eK
                go_wp2_with fail
                refine Calls.mono (HP.out wr B _ hr HM.out.ok) ?_; rintro e v1 ⟨he, g1⟩
                rw [P1.out] at he; subst he
                have j1 := hr.kept g1 id
                have y1 := kr.and g1
                have C1 := HC.out.kept g1 id
                go_wp2_with fail
                refine Calls.mono (HK.out v1 B _ j1 HM.out.ok) ?_; rintro e v2 ⟨he, j2, g2⟩
                rw [V1.out] at he; subst he
                have y2 := y1.own g2 lB.out
                have C2 := C1.kept g2 qB.out
                go_wp2_with fail
                refine Calls.mono (HP.out v2 B _ j2 HM.out.ok.ack) ?_; rintro e v3 ⟨he, g3⟩
                rw [P2.out] at he; subst he
                have j3 := j2.kept g3 id
                have y3 := y2.and g3
                have C3 := C2.kept g3 id
                clear hc j1 j2 y1 y2 C1 C2 g1 g2 g3 hr kr
                go_wp2_with fail
                refine Calls.mono (HO.out v3 B _ 2 32 j3 HM.out.ok.ack ⟨by decide, by decide, by decide, by decide⟩) ?_; rintro e v4 ⟨rfl, j4, g4⟩
                have y4 := y3.own g4 lB.out
                have C4 := C3.kept g4 qB.out
                go_wp2_with fail
                refine Calls.mono (HO.out v4 B _ 0 32 j4 (M2.Ok.out (p := 2) (v := 32) HM.out.ok.ack ⟨by decide, by decide⟩) ⟨by decide, by decide, by decide, by decide⟩) ?_; rintro e v5 ⟨rfl, j5, g5⟩
                have y5 := y4.own g5 lB.out
                have C5 := C4.kept g5 qB.out
                clear j3 j4 y3 y4 C3 C4 g4 g5
                go_wp2
                go_roundw
                case rel => first | exact ⟨i + 1, _, by go_num, by omega, M3.out, j5, C5, y5⟩ | ((repeat apply Exists.intro); exact ⟨⟨i + 1, _, by go_num, by omega, M3.out, j5, C5, y5⟩, rfl⟩)
                case measure => simp [intOf]; omega
            · rw [eK] at b2
              have hM' := HM.out.skip (by rw [← HN.out]; show (tb L N && !tb K N) = false; rw [eL, eK]; rfl)
              have HM' : Hid _ := hM'
              clear hM'
              go_wp2
              go_roundw
              case rel => exact ⟨i + 1, m, by go_num, by omega, HM'.out, hr, HC.out, kr⟩
              case measure => simp [intOf]; omega
        · obtain rfl : i = 15 := by omega
          have en := hM.end_
          have P1 : Hid ((m.a.next != -1) = false) := by rw [en]; rfl
          have V1 : Hid (m.vec = 39) := by unfold M2.vec Ch.vec; rw [en, if_neg (by decide), if_pos rfl, hM.ba]; rfl
          have HM : Hid _ := hM
          clear en hM hC
          go_wp2_with fail
          refine Calls.mono (HP.out wr B _ hr HM.out.ok) ?_; rintro e v1 ⟨he, g1⟩
          rw [P1.out] at he; subst he
          have j1 := hr.kept g1 id
          have y1 := kr.and g1
          go_wp2_with fail
          refine Calls.mono (HK.out v1 B _ j1 HM.out.ok) ?_; rintro e v2 ⟨he, j2, g2⟩
          rw [V1.out] at he; subst he
          have y2 := y1.own g2 lB.out
          go_wp2
          go_ret
          exact ⟨rfl, HB.out _ y2⟩
end Go.Proofs.Ytfpgijdfbgfkcaa
