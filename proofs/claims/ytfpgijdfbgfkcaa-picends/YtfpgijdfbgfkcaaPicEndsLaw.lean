/- The walk of PicEnds. -/
import Derived.Test.YtfpgijdfbgfkcaaPicNilLaw
import Derived.LoopTactic
namespace Go.Proofs.Ytfpgijdfbgfkcaa
open Go.ChangeShapes Go.WideShapes Go.ChangeAt Go.RowKit
set_option linter.unusedVariables false

/-- The first chip set up with the base 64, ending by itself or not. -/
def endS (it : Bool) : M2 := ⟨⟨0, 0, 0, 0, 64, 0, false, it⟩, ch0⟩
/-- The line L is served. -/
def endT (L : Int) : M2 := ⟨⟨0, 0, pw L, 0, 64, 0, false, false⟩, ch0⟩

theorem endS_t : (((m00.out 0 17).out 1 64).out 1 4).out 1 3 = endS true := by kernel_rfl
theorem endS_f : (((m00.out 0 17).out 1 64).out 1 4).out 1 1 = endS false := by kernel_rfl
theorem endS_ok (it : Bool) : (endS it).Ok := by cases it <;> exact ⟨⟨by0, by0, by0, by0, ⟨by decide, by decide⟩, by decide, ⟨by decide, by decide⟩⟩, ch0_ok⟩

structure EndF (L : Int) : Prop where
  p1 : ∀ it, (((endS it).line L true).a.next != -1) = true
  v1 : ∀ it, ((endS it).line L true).vec = 64 + L
  r1 : (((endS true).line L true).ack.line L false) = endS true
  r2 : (((endS false).line L true).ack.line L false) = endT L
  p2 : ((endS true).a.next != -1) = false
  p3 : (((endT L).line L true).a.next != -1) = false
  r3 : (((endT L).line L true).line L false) = endT L
  p4 : ((((endT L).line L true).out 0 32).a.next != -1) = true


theorem endF_0 : EndF 0 := ⟨fun it => by cases it <;> kernel_rfl, fun it => by cases it <;> kernel_rfl, by kernel_rfl, by kernel_rfl, by kernel_rfl, by kernel_rfl, by kernel_rfl, by kernel_rfl⟩
theorem endF_1 : EndF 1 := ⟨fun it => by cases it <;> kernel_rfl, fun it => by cases it <;> kernel_rfl, by kernel_rfl, by kernel_rfl, by kernel_rfl, by kernel_rfl, by kernel_rfl, by kernel_rfl⟩
theorem endF_3 : EndF 3 := ⟨fun it => by cases it <;> kernel_rfl, fun it => by cases it <;> kernel_rfl, by kernel_rfl, by kernel_rfl, by kernel_rfl, by kernel_rfl, by kernel_rfl, by kernel_rfl⟩
theorem endF_4 : EndF 4 := ⟨fun it => by cases it <;> kernel_rfl, fun it => by cases it <;> kernel_rfl, by kernel_rfl, by kernel_rfl, by kernel_rfl, by kernel_rfl, by kernel_rfl, by kernel_rfl⟩
theorem endF_5 : EndF 5 := ⟨fun it => by cases it <;> kernel_rfl, fun it => by cases it <;> kernel_rfl, by kernel_rfl, by kernel_rfl, by kernel_rfl, by kernel_rfl, by kernel_rfl, by kernel_rfl⟩
theorem endF_6 : EndF 6 := ⟨fun it => by cases it <;> kernel_rfl, fun it => by cases it <;> kernel_rfl, by kernel_rfl, by kernel_rfl, by kernel_rfl, by kernel_rfl, by kernel_rfl, by kernel_rfl⟩
theorem endF_7 : EndF 7 := ⟨fun it => by cases it <;> kernel_rfl, fun it => by cases it <;> kernel_rfl, by kernel_rfl, by kernel_rfl, by kernel_rfl, by kernel_rfl, by kernel_rfl, by kernel_rfl⟩

theorem endF {L : Int} (h0 : 0 ≤ L) (h1 : L < 8) (h2 : L ≠ 2) : EndF L := by
  rcases (by omega : L = 0 ∨ L = 1 ∨ L = 3 ∨ L = 4 ∨ L = 5 ∨ L = 6 ∨ L = 7) with rfl | rfl | rfl | rfl | rfl | rfl | rfl
  · exact endF_0
  · exact endF_1
  · exact endF_3
  · exact endF_4
  · exact endF_5
  · exact endF_6
  · exact endF_7

theorem endT_ok {L : Int} (h0 : 0 ≤ L) (h1 : L < 8) : (endT L).Ok := ⟨⟨by0, by0, by_pw h0 h1, by0, ⟨by show (0 : Int) ≤ 64; decide, by show (64 : Int) < 256; decide⟩, by show (64 : Int) % 8 = 0; decide, ⟨by show (0 : Int) ≤ 0; decide, by show (0 : Int) < 8; decide⟩⟩, ch0_ok⟩

set_option maxRecDepth 20000 in
set_option maxHeartbeats 2000000 in
theorem PicEnds_nn11 (W : World) (line times l t : Int) (l0 : -9223372036854775808 ≤ line) (l1 : line ≤ 9223372036854775807) (t0 : -9223372036854775808 ≤ times) (t1 : times ≤ 9223372036854775807) (gl : decide (line < 0) = true) (hl : -(line + 1).tmod 8 = l) (gt : decide (times < 0) = true) (ht : -(times + 1).tmod 20 = t) (q0 : 0 ≤ l) (q1 : l < 8) (q2 : (l == 2) = true) (r0 : 0 ≤ t) (r1 : t < 20) : Calls Try.prog 7 #[.int .i64 line, .int .i64 times, .bool true] W fun e w' => e = .returned (.bool true) ∧ Below W.heap.size W w' := by
  have gl0 : line < 0 := by simpa using gl
  have gt0 : times < 0 := by simpa using gt
  have HA : Hid (∀ w, _) := awake_ok
  have HN : Hid (∀ w, Calls Try.prog 9 #[] w fun e w' => e = .returned (.pointer (some ⟨w.heap.size, 0, none⟩)) ∧ PAt w' w.heap.size m00 ∧ Kp noB w w') := fun w => new_ok w
  have HO : Hid (∀ (w : World) (B : Nat) (m : M2) (p v : Int), PAt w B m → m.Ok → 0 ≤ p ∧ p < 4 ∧ By v → _) := fun w B m p v h k g => out_ok w B m h k p v g.1 g.2.1 g.2.2
  have HL : Hid (∀ (w : World) (B : Nat) (m : M2) (n : Int) (u : Bool), PAt w B m → m.Ok → 0 ≤ n → n < 16 → _) := fun w B m n u h k n0 n1 => line_ok w B m h k n u n0 n1
  have HP : Hid (∀ (w : World) (B : Nat) (m : M2), PAt w B m → m.Ok → _) := fun w B m h k => pend_ok w B m h k.a
  have HK : Hid (∀ (w : World) (B : Nat) (m : M2), PAt w B m → m.Ok → _) := fun w B m h k => ack_ok w B m h k
  have HB : Hid (∀ w', Kp noB W w' → Below W.heap.size W w') := fun w' h => h.every
  have HF : Hid (EndF 3) := endF (by decide) (by decide) (by decide)
  have oS : Hid (endS true).Ok := endS_ok _
  have oT : Hid (endT 3).Ok := endT_ok (by decide) (by decide)
  have oL : Hid (∀ m : M2, m.Ok → ∀ u, (m.line 3 u).Ok) := fun m k u => k.line (by decide) (by decide) u
  have oA : Hid (∀ m : M2, m.Ok → m.ack.Ok) := fun m k => k.ack
  go_enter Try.func7, Try.ntmps7
  go_wp2_with fail
  refine Calls.mono (HA.out _) ?_; rintro e w1 ⟨rfl, g1⟩
  go_wp2_with fail
  refine Calls.mono (HN.out _) ?_; rintro e w2 ⟨rfl, h2, g2⟩
  have k2 := g1.trans g2
  obtain ⟨B, hB⟩ : ∃ B, B = w1.heap.size := ⟨_, rfl⟩
  rw [← hB] at h2 ⊢
  have lB : Hid (W.heap.size ≤ B) := by rw [hB]; exact g1.size
  clear hB g1 g2
  go_wp2_with fail
  refine Calls.mono (HO.out w2 B _ 0 17 h2 m00_ok ⟨by decide, by decide, by decide, by decide⟩) ?_; rintro e w3 ⟨rfl, h3, g3⟩
  have k3 := k2.own g3 lB.out
  go_wp2_with fail
  refine Calls.mono (HO.out w3 B _ 1 64 h3 (M2.Ok.out (p := 0) (v := 17) m00_ok ⟨by decide, by decide⟩) ⟨by decide, by decide, by decide, by decide⟩) ?_; rintro e w4 ⟨rfl, h4, g4⟩
  have k4 := k3.own g4 lB.out
  go_wp2_with fail
  refine Calls.mono (HO.out w4 B _ 1 4 h4 (M2.Ok.out (p := 1) (v := 64) (M2.Ok.out (p := 0) (v := 17) m00_ok ⟨by decide, by decide⟩) ⟨by decide, by decide⟩) ⟨by decide, by decide, by decide, by decide⟩) ?_; rintro e w5 ⟨rfl, h5, g5⟩
  have k5 := k4.own g5 lB.out
  go_wp2_with fail
  refine Calls.mono (HO.out w5 B _ 1 3 h5 (M2.Ok.out (p := 1) (v := 4) (M2.Ok.out (p := 1) (v := 64) (M2.Ok.out (p := 0) (v := 17) m00_ok ⟨by decide, by decide⟩) ⟨by decide, by decide⟩) ⟨by decide, by decide⟩) ⟨by decide, by decide, by decide, by decide⟩) ?_; rintro e w6 ⟨rfl, h6, g6⟩
  have k6 := k5.own g6 lB.out
  rw [endS_t] at h6
  clear h2 h3 h4 h5 g3 g4 g5 g6 k2 k3 k4 k5
  go_wp2_with fail
  go_loopw [10, 12] (fun s10 s12 wr => ∃ i : Nat, s10 = .int .i64 i ∧ s12 = .int .i64 i ∧ (i : Int) ≤ 1 + t ∧ PAt wr B (endS true) ∧ Kp noB W wr) (fun _ s12 _ => (1 + t - intOf s12).toNat)
  case atStart => exact ⟨0, rfl, rfl, by omega, h6, k6⟩
  case round =>
    clear h6 k6
    obtain ⟨i, rfl, rfl, hi, hr, kr⟩ := hrel
    by_cases hlt : (i : Int) < 1 + t
    · have hlt' : decide ((i : Int) < 1 + t) = true := decide_eq_true hlt
      go_wp2_with fail
      refine Calls.mono (HL.out wr B _ 3 true hr oS.out (by decide) (by decide)) ?_; rintro e v1 ⟨rfl, j1, g1⟩
      have y1 := kr.own g1 lB.out
      go_wp2_with fail
      refine Calls.mono (HP.out v1 B _ j1 (oL.out _ oS.out true)) ?_; rintro e v2 ⟨he, g2⟩
      rw [HF.out.p1] at he; subst he
      have j2 := j1.kept g2 id
      have y2 := y1.and g2
      go_wp2_with fail
      refine Calls.mono (HK.out v2 B _ j2 (oL.out _ oS.out true)) ?_; rintro e v3 ⟨he, j3, g3⟩
      rw [HF.out.v1] at he; subst he
      have y3 := y2.own g3 lB.out
      go_wp2_with fail
      refine Calls.mono (HL.out v3 B _ 3 false j3 (oA.out _ (oL.out _ oS.out true)) (by decide) (by decide)) ?_; rintro e v4 ⟨rfl, j4, g4⟩
      have y4 := y3.own g4 lB.out
      rw [HF.out.r1] at j4
      clear g1 g2 g3 g4 j1 j2 j3 y1 y2 y3 hr kr
      go_wp2
      go_roundw
      case rel => exact ⟨i + 1, by go_num, by go_num, by omega, j4, y4⟩
      case measure => simp [intOf]; omega
    · have hlt' : decide ((i : Int) < 1 + t) = false := decide_eq_false hlt
      have he2 : ((i : Int) == 1 + t) = true := by simp; omega
      go_wp2_with fail
      refine Calls.mono (HP.out wr B _ hr oS.out) ?_; rintro e v2 ⟨he, g2⟩
      rw [HF.out.p2] at he; subst he
      have y2 := kr.and g2
      go_wp2
      go_ret
      exact ⟨rfl, HB.out _ y2⟩

set_option maxRecDepth 20000 in
set_option maxHeartbeats 2000000 in
theorem PicEnds_nn10 (W : World) (line times l t : Int) (l0 : -9223372036854775808 ≤ line) (l1 : line ≤ 9223372036854775807) (t0 : -9223372036854775808 ≤ times) (t1 : times ≤ 9223372036854775807) (gl : decide (line < 0) = true) (hl : -(line + 1).tmod 8 = l) (gt : decide (times < 0) = true) (ht : -(times + 1).tmod 20 = t) (q0 : 0 ≤ l) (q1 : l < 8) (q2 : (l == 2) = false) (r0 : 0 ≤ t) (r1 : t < 20) : Calls Try.prog 7 #[.int .i64 line, .int .i64 times, .bool true] W fun e w' => e = .returned (.bool true) ∧ Below W.heap.size W w' := by
  have gl0 : line < 0 := by simpa using gl
  have gt0 : times < 0 := by simpa using gt
  have HA : Hid (∀ w, _) := awake_ok
  have HN : Hid (∀ w, Calls Try.prog 9 #[] w fun e w' => e = .returned (.pointer (some ⟨w.heap.size, 0, none⟩)) ∧ PAt w' w.heap.size m00 ∧ Kp noB w w') := fun w => new_ok w
  have HO : Hid (∀ (w : World) (B : Nat) (m : M2) (p v : Int), PAt w B m → m.Ok → 0 ≤ p ∧ p < 4 ∧ By v → _) := fun w B m p v h k g => out_ok w B m h k p v g.1 g.2.1 g.2.2
  have HL : Hid (∀ (w : World) (B : Nat) (m : M2) (n : Int) (u : Bool), PAt w B m → m.Ok → 0 ≤ n → n < 16 → _) := fun w B m n u h k n0 n1 => line_ok w B m h k n u n0 n1
  have HP : Hid (∀ (w : World) (B : Nat) (m : M2), PAt w B m → m.Ok → _) := fun w B m h k => pend_ok w B m h k.a
  have HK : Hid (∀ (w : World) (B : Nat) (m : M2), PAt w B m → m.Ok → _) := fun w B m h k => ack_ok w B m h k
  have HB : Hid (∀ w', Kp noB W w' → Below W.heap.size W w') := fun w' h => h.every
  have HF : Hid (EndF l) := endF q0 q1 (by simpa using q2)
  have oS : Hid (endS true).Ok := endS_ok _
  have oT : Hid (endT l).Ok := endT_ok q0 q1
  have oL : Hid (∀ m : M2, m.Ok → ∀ u, (m.line l u).Ok) := fun m k u => k.line q0 (by omega) u
  have oA : Hid (∀ m : M2, m.Ok → m.ack.Ok) := fun m k => k.ack
  go_enter Try.func7, Try.ntmps7
  go_wp2_with fail
  refine Calls.mono (HA.out _) ?_; rintro e w1 ⟨rfl, g1⟩
  go_wp2_with fail
  refine Calls.mono (HN.out _) ?_; rintro e w2 ⟨rfl, h2, g2⟩
  have k2 := g1.trans g2
  obtain ⟨B, hB⟩ : ∃ B, B = w1.heap.size := ⟨_, rfl⟩
  rw [← hB] at h2 ⊢
  have lB : Hid (W.heap.size ≤ B) := by rw [hB]; exact g1.size
  clear hB g1 g2
  go_wp2_with fail
  refine Calls.mono (HO.out w2 B _ 0 17 h2 m00_ok ⟨by decide, by decide, by decide, by decide⟩) ?_; rintro e w3 ⟨rfl, h3, g3⟩
  have k3 := k2.own g3 lB.out
  go_wp2_with fail
  refine Calls.mono (HO.out w3 B _ 1 64 h3 (M2.Ok.out (p := 0) (v := 17) m00_ok ⟨by decide, by decide⟩) ⟨by decide, by decide, by decide, by decide⟩) ?_; rintro e w4 ⟨rfl, h4, g4⟩
  have k4 := k3.own g4 lB.out
  go_wp2_with fail
  refine Calls.mono (HO.out w4 B _ 1 4 h4 (M2.Ok.out (p := 1) (v := 64) (M2.Ok.out (p := 0) (v := 17) m00_ok ⟨by decide, by decide⟩) ⟨by decide, by decide⟩) ⟨by decide, by decide, by decide, by decide⟩) ?_; rintro e w5 ⟨rfl, h5, g5⟩
  have k5 := k4.own g5 lB.out
  go_wp2_with fail
  refine Calls.mono (HO.out w5 B _ 1 3 h5 (M2.Ok.out (p := 1) (v := 4) (M2.Ok.out (p := 1) (v := 64) (M2.Ok.out (p := 0) (v := 17) m00_ok ⟨by decide, by decide⟩) ⟨by decide, by decide⟩) ⟨by decide, by decide⟩) ⟨by decide, by decide, by decide, by decide⟩) ?_; rintro e w6 ⟨rfl, h6, g6⟩
  have k6 := k5.own g6 lB.out
  rw [endS_t] at h6
  clear h2 h3 h4 h5 g3 g4 g5 g6 k2 k3 k4 k5
  go_wp2_with fail
  go_loopw [10, 12] (fun s10 s12 wr => ∃ i : Nat, s10 = .int .i64 i ∧ s12 = .int .i64 i ∧ (i : Int) ≤ 1 + t ∧ PAt wr B (endS true) ∧ Kp noB W wr) (fun _ s12 _ => (1 + t - intOf s12).toNat)
  case atStart => exact ⟨0, rfl, rfl, by omega, h6, k6⟩
  case round =>
    clear h6 k6
    obtain ⟨i, rfl, rfl, hi, hr, kr⟩ := hrel
    by_cases hlt : (i : Int) < 1 + t
    · have hlt' : decide ((i : Int) < 1 + t) = true := decide_eq_true hlt
      go_wp2_with fail
      refine Calls.mono (HL.out wr B _ l true hr oS.out q0 (by omega)) ?_; rintro e v1 ⟨rfl, j1, g1⟩
      have y1 := kr.own g1 lB.out
      go_wp2_with fail
      refine Calls.mono (HP.out v1 B _ j1 (oL.out _ oS.out true)) ?_; rintro e v2 ⟨he, g2⟩
      rw [HF.out.p1] at he; subst he
      have j2 := j1.kept g2 id
      have y2 := y1.and g2
      go_wp2_with fail
      refine Calls.mono (HK.out v2 B _ j2 (oL.out _ oS.out true)) ?_; rintro e v3 ⟨he, j3, g3⟩
      rw [HF.out.v1] at he; subst he
      have y3 := y2.own g3 lB.out
      go_wp2_with fail
      refine Calls.mono (HL.out v3 B _ l false j3 (oA.out _ (oL.out _ oS.out true)) q0 (by omega)) ?_; rintro e v4 ⟨rfl, j4, g4⟩
      have y4 := y3.own g4 lB.out
      rw [HF.out.r1] at j4
      clear g1 g2 g3 g4 j1 j2 j3 y1 y2 y3 hr kr
      go_wp2
      go_roundw
      case rel => exact ⟨i + 1, by go_num, by go_num, by omega, j4, y4⟩
      case measure => simp [intOf]; omega
    · have hlt' : decide ((i : Int) < 1 + t) = false := decide_eq_false hlt
      have he2 : ((i : Int) == 1 + t) = true := by simp; omega
      go_wp2_with fail
      refine Calls.mono (HP.out wr B _ hr oS.out) ?_; rintro e v2 ⟨he, g2⟩
      rw [HF.out.p2] at he; subst he
      have y2 := kr.and g2
      go_wp2
      go_ret
      exact ⟨rfl, HB.out _ y2⟩

set_option maxRecDepth 20000 in
set_option maxHeartbeats 2000000 in
theorem PicEnds_nn01 (W : World) (line times l t : Int) (l0 : -9223372036854775808 ≤ line) (l1 : line ≤ 9223372036854775807) (t0 : -9223372036854775808 ≤ times) (t1 : times ≤ 9223372036854775807) (gl : decide (line < 0) = true) (hl : -(line + 1).tmod 8 = l) (gt : decide (times < 0) = true) (ht : -(times + 1).tmod 20 = t) (q0 : 0 ≤ l) (q1 : l < 8) (q2 : (l == 2) = true) (r0 : 0 ≤ t) (r1 : t < 20) : Calls Try.prog 7 #[.int .i64 line, .int .i64 times, .bool false] W fun e w' => e = .returned (.bool true) ∧ Below W.heap.size W w' := by
  have gl0 : line < 0 := by simpa using gl
  have gt0 : times < 0 := by simpa using gt
  have HA : Hid (∀ w, _) := awake_ok
  have HN : Hid (∀ w, Calls Try.prog 9 #[] w fun e w' => e = .returned (.pointer (some ⟨w.heap.size, 0, none⟩)) ∧ PAt w' w.heap.size m00 ∧ Kp noB w w') := fun w => new_ok w
  have HO : Hid (∀ (w : World) (B : Nat) (m : M2) (p v : Int), PAt w B m → m.Ok → 0 ≤ p ∧ p < 4 ∧ By v → _) := fun w B m p v h k g => out_ok w B m h k p v g.1 g.2.1 g.2.2
  have HL : Hid (∀ (w : World) (B : Nat) (m : M2) (n : Int) (u : Bool), PAt w B m → m.Ok → 0 ≤ n → n < 16 → _) := fun w B m n u h k n0 n1 => line_ok w B m h k n u n0 n1
  have HP : Hid (∀ (w : World) (B : Nat) (m : M2), PAt w B m → m.Ok → _) := fun w B m h k => pend_ok w B m h k.a
  have HK : Hid (∀ (w : World) (B : Nat) (m : M2), PAt w B m → m.Ok → _) := fun w B m h k => ack_ok w B m h k
  have HB : Hid (∀ w', Kp noB W w' → Below W.heap.size W w') := fun w' h => h.every
  have HF : Hid (EndF 3) := endF (by decide) (by decide) (by decide)
  have oS : Hid (endS false).Ok := endS_ok _
  have oT : Hid (endT 3).Ok := endT_ok (by decide) (by decide)
  have oL : Hid (∀ m : M2, m.Ok → ∀ u, (m.line 3 u).Ok) := fun m k u => k.line (by decide) (by decide) u
  have oA : Hid (∀ m : M2, m.Ok → m.ack.Ok) := fun m k => k.ack
  go_enter Try.func7, Try.ntmps7
  go_wp2_with fail
  refine Calls.mono (HA.out _) ?_; rintro e w1 ⟨rfl, g1⟩
  go_wp2_with fail
  refine Calls.mono (HN.out _) ?_; rintro e w2 ⟨rfl, h2, g2⟩
  have k2 := g1.trans g2
  obtain ⟨B, hB⟩ : ∃ B, B = w1.heap.size := ⟨_, rfl⟩
  rw [← hB] at h2 ⊢
  have lB : Hid (W.heap.size ≤ B) := by rw [hB]; exact g1.size
  clear hB g1 g2
  go_wp2_with fail
  refine Calls.mono (HO.out w2 B _ 0 17 h2 m00_ok ⟨by decide, by decide, by decide, by decide⟩) ?_; rintro e w3 ⟨rfl, h3, g3⟩
  have k3 := k2.own g3 lB.out
  go_wp2_with fail
  refine Calls.mono (HO.out w3 B _ 1 64 h3 (M2.Ok.out (p := 0) (v := 17) m00_ok ⟨by decide, by decide⟩) ⟨by decide, by decide, by decide, by decide⟩) ?_; rintro e w4 ⟨rfl, h4, g4⟩
  have k4 := k3.own g4 lB.out
  go_wp2_with fail
  refine Calls.mono (HO.out w4 B _ 1 4 h4 (M2.Ok.out (p := 1) (v := 64) (M2.Ok.out (p := 0) (v := 17) m00_ok ⟨by decide, by decide⟩) ⟨by decide, by decide⟩) ⟨by decide, by decide, by decide, by decide⟩) ?_; rintro e w5 ⟨rfl, h5, g5⟩
  have k5 := k4.own g5 lB.out
  go_wp2_with fail
  refine Calls.mono (HO.out w5 B _ 1 1 h5 (M2.Ok.out (p := 1) (v := 4) (M2.Ok.out (p := 1) (v := 64) (M2.Ok.out (p := 0) (v := 17) m00_ok ⟨by decide, by decide⟩) ⟨by decide, by decide⟩) ⟨by decide, by decide⟩) ⟨by decide, by decide, by decide, by decide⟩) ?_; rintro e w6 ⟨rfl, h6, g6⟩
  have k6 := k5.own g6 lB.out
  rw [endS_f] at h6
  clear h2 h3 h4 h5 g3 g4 g5 g6 k2 k3 k4 k5
  go_wp2_with fail
  go_loopw [10, 12] (fun s10 s12 wr => ∃ i : Nat, s10 = .int .i64 (if i = 0 then 0 else 1) ∧ s12 = .int .i64 i ∧ (i : Int) ≤ 1 + t ∧ PAt wr B (if i = 0 then endS false else endT 3) ∧ Kp noB W wr) (fun _ s12 _ => (1 + t - intOf s12).toNat)
  case atStart => exact ⟨0, rfl, rfl, by omega, h6, k6⟩
  case round =>
    clear h6 k6
    obtain ⟨i, rfl, rfl, hi, hr, kr⟩ := hrel
    by_cases hz : i = 0
    · subst hz
      rw [if_pos rfl] at hr
      rw [if_pos rfl]
      have hlt' : decide ((0 : Int) < 1 + t) = true := decide_eq_true (by omega)
      go_wp2_with fail
      refine Calls.mono (HL.out wr B _ 3 true hr oS.out (by decide) (by decide)) ?_; rintro e v1 ⟨rfl, j1, g1⟩
      have y1 := kr.own g1 lB.out
      go_wp2_with fail
      refine Calls.mono (HP.out v1 B _ j1 (oL.out _ oS.out true)) ?_; rintro e v2 ⟨he, g2⟩
      rw [HF.out.p1] at he; subst he
      have j2 := j1.kept g2 id
      have y2 := y1.and g2
      go_wp2_with fail
      refine Calls.mono (HK.out v2 B _ j2 (oL.out _ oS.out true)) ?_; rintro e v3 ⟨he, j3, g3⟩
      rw [HF.out.v1] at he; subst he
      have y3 := y2.own g3 lB.out
      go_wp2_with fail
      refine Calls.mono (HL.out v3 B _ 3 false j3 (oA.out _ (oL.out _ oS.out true)) (by decide) (by decide)) ?_; rintro e v4 ⟨rfl, j4, g4⟩
      have y4 := y3.own g4 lB.out
      rw [HF.out.r2] at j4
      clear g1 g2 g3 g4 j1 j2 j3 y1 y2 y3 hr kr
      go_wp2
      go_roundw
      case rel => exact ⟨1, by go_num, by go_num, by omega, j4, y4⟩
      case measure => simp [intOf]; omega
    · rw [if_neg hz] at hr
      rw [if_neg hz]
      by_cases hlt : (i : Int) < 1 + t
      · have hlt' : decide ((i : Int) < 1 + t) = true := decide_eq_true hlt
        go_wp2_with fail
        refine Calls.mono (HL.out wr B _ 3 true hr oT.out (by decide) (by decide)) ?_; rintro e v1 ⟨rfl, j1, g1⟩
        have y1 := kr.own g1 lB.out
        go_wp2_with fail
        refine Calls.mono (HP.out v1 B _ j1 (oL.out _ oT.out true)) ?_; rintro e v2 ⟨he, g2⟩
        rw [HF.out.p3] at he; subst he
        have j2 := j1.kept g2 id
        have y2 := y1.and g2
        go_wp2_with fail
        refine Calls.mono (HL.out v2 B _ 3 false j2 (oL.out _ oT.out true) (by decide) (by decide)) ?_; rintro e v4 ⟨rfl, j4, g4⟩
        have y4 := y2.own g4 lB.out
        rw [HF.out.r3] at j4
        clear g1 g2 g4 j1 j2 y1 y2 hr kr
        go_wp2
        go_roundw
        case rel => exact ⟨i + 1, by rw [if_neg (by omega)], by go_num, by omega, by rw [if_neg (by omega)]; exact j4, y4⟩
        case measure => simp [intOf]; omega
      · have hlt' : decide ((i : Int) < 1 + t) = false := decide_eq_false hlt
        go_wp2_with fail
        refine Calls.mono (HL.out wr B _ 3 true hr oT.out (by decide) (by decide)) ?_; rintro e v1 ⟨rfl, j1, g1⟩
        have y1 := kr.own g1 lB.out
        go_wp2_with fail
        refine Calls.mono (HP.out v1 B _ j1 (oL.out _ oT.out true)) ?_; rintro e v2 ⟨he, g2⟩
        rw [HF.out.p3] at he; subst he
        have j2 := j1.kept g2 id
        have y2 := y1.and g2
        go_wp2_with fail
        refine Calls.mono (HO.out v2 B _ 0 32 j2 (oL.out _ oT.out true) ⟨by decide, by decide, by decide, by decide⟩) ?_; rintro e v3 ⟨rfl, j3, g3⟩
        have y3 := y2.own g3 lB.out
        go_wp2_with fail
        refine Calls.mono (HP.out v3 B _ j3 (M2.Ok.out (p := 0) (v := 32) (oL.out _ oT.out true) ⟨by decide, by decide⟩)) ?_; rintro e v4 ⟨he, g4⟩
        rw [HF.out.p4] at he; subst he
        have y4 := y3.and g4
        go_wp2
        go_ret
        exact ⟨rfl, HB.out _ y4⟩

set_option maxRecDepth 20000 in
set_option maxHeartbeats 2000000 in
theorem PicEnds_nn00 (W : World) (line times l t : Int) (l0 : -9223372036854775808 ≤ line) (l1 : line ≤ 9223372036854775807) (t0 : -9223372036854775808 ≤ times) (t1 : times ≤ 9223372036854775807) (gl : decide (line < 0) = true) (hl : -(line + 1).tmod 8 = l) (gt : decide (times < 0) = true) (ht : -(times + 1).tmod 20 = t) (q0 : 0 ≤ l) (q1 : l < 8) (q2 : (l == 2) = false) (r0 : 0 ≤ t) (r1 : t < 20) : Calls Try.prog 7 #[.int .i64 line, .int .i64 times, .bool false] W fun e w' => e = .returned (.bool true) ∧ Below W.heap.size W w' := by
  have gl0 : line < 0 := by simpa using gl
  have gt0 : times < 0 := by simpa using gt
  have HA : Hid (∀ w, _) := awake_ok
  have HN : Hid (∀ w, Calls Try.prog 9 #[] w fun e w' => e = .returned (.pointer (some ⟨w.heap.size, 0, none⟩)) ∧ PAt w' w.heap.size m00 ∧ Kp noB w w') := fun w => new_ok w
  have HO : Hid (∀ (w : World) (B : Nat) (m : M2) (p v : Int), PAt w B m → m.Ok → 0 ≤ p ∧ p < 4 ∧ By v → _) := fun w B m p v h k g => out_ok w B m h k p v g.1 g.2.1 g.2.2
  have HL : Hid (∀ (w : World) (B : Nat) (m : M2) (n : Int) (u : Bool), PAt w B m → m.Ok → 0 ≤ n → n < 16 → _) := fun w B m n u h k n0 n1 => line_ok w B m h k n u n0 n1
  have HP : Hid (∀ (w : World) (B : Nat) (m : M2), PAt w B m → m.Ok → _) := fun w B m h k => pend_ok w B m h k.a
  have HK : Hid (∀ (w : World) (B : Nat) (m : M2), PAt w B m → m.Ok → _) := fun w B m h k => ack_ok w B m h k
  have HB : Hid (∀ w', Kp noB W w' → Below W.heap.size W w') := fun w' h => h.every
  have HF : Hid (EndF l) := endF q0 q1 (by simpa using q2)
  have oS : Hid (endS false).Ok := endS_ok _
  have oT : Hid (endT l).Ok := endT_ok q0 q1
  have oL : Hid (∀ m : M2, m.Ok → ∀ u, (m.line l u).Ok) := fun m k u => k.line q0 (by omega) u
  have oA : Hid (∀ m : M2, m.Ok → m.ack.Ok) := fun m k => k.ack
  go_enter Try.func7, Try.ntmps7
  go_wp2_with fail
  refine Calls.mono (HA.out _) ?_; rintro e w1 ⟨rfl, g1⟩
  go_wp2_with fail
  refine Calls.mono (HN.out _) ?_; rintro e w2 ⟨rfl, h2, g2⟩
  have k2 := g1.trans g2
  obtain ⟨B, hB⟩ : ∃ B, B = w1.heap.size := ⟨_, rfl⟩
  rw [← hB] at h2 ⊢
  have lB : Hid (W.heap.size ≤ B) := by rw [hB]; exact g1.size
  clear hB g1 g2
  go_wp2_with fail
  refine Calls.mono (HO.out w2 B _ 0 17 h2 m00_ok ⟨by decide, by decide, by decide, by decide⟩) ?_; rintro e w3 ⟨rfl, h3, g3⟩
  have k3 := k2.own g3 lB.out
  go_wp2_with fail
  refine Calls.mono (HO.out w3 B _ 1 64 h3 (M2.Ok.out (p := 0) (v := 17) m00_ok ⟨by decide, by decide⟩) ⟨by decide, by decide, by decide, by decide⟩) ?_; rintro e w4 ⟨rfl, h4, g4⟩
  have k4 := k3.own g4 lB.out
  go_wp2_with fail
  refine Calls.mono (HO.out w4 B _ 1 4 h4 (M2.Ok.out (p := 1) (v := 64) (M2.Ok.out (p := 0) (v := 17) m00_ok ⟨by decide, by decide⟩) ⟨by decide, by decide⟩) ⟨by decide, by decide, by decide, by decide⟩) ?_; rintro e w5 ⟨rfl, h5, g5⟩
  have k5 := k4.own g5 lB.out
  go_wp2_with fail
  refine Calls.mono (HO.out w5 B _ 1 1 h5 (M2.Ok.out (p := 1) (v := 4) (M2.Ok.out (p := 1) (v := 64) (M2.Ok.out (p := 0) (v := 17) m00_ok ⟨by decide, by decide⟩) ⟨by decide, by decide⟩) ⟨by decide, by decide⟩) ⟨by decide, by decide, by decide, by decide⟩) ?_; rintro e w6 ⟨rfl, h6, g6⟩
  have k6 := k5.own g6 lB.out
  rw [endS_f] at h6
  clear h2 h3 h4 h5 g3 g4 g5 g6 k2 k3 k4 k5
  go_wp2_with fail
  go_loopw [10, 12] (fun s10 s12 wr => ∃ i : Nat, s10 = .int .i64 (if i = 0 then 0 else 1) ∧ s12 = .int .i64 i ∧ (i : Int) ≤ 1 + t ∧ PAt wr B (if i = 0 then endS false else endT l) ∧ Kp noB W wr) (fun _ s12 _ => (1 + t - intOf s12).toNat)
  case atStart => exact ⟨0, rfl, rfl, by omega, h6, k6⟩
  case round =>
    clear h6 k6
    obtain ⟨i, rfl, rfl, hi, hr, kr⟩ := hrel
    by_cases hz : i = 0
    · subst hz
      rw [if_pos rfl] at hr
      rw [if_pos rfl]
      have hlt' : decide ((0 : Int) < 1 + t) = true := decide_eq_true (by omega)
      go_wp2_with fail
      refine Calls.mono (HL.out wr B _ l true hr oS.out q0 (by omega)) ?_; rintro e v1 ⟨rfl, j1, g1⟩
      have y1 := kr.own g1 lB.out
      go_wp2_with fail
      refine Calls.mono (HP.out v1 B _ j1 (oL.out _ oS.out true)) ?_; rintro e v2 ⟨he, g2⟩
      rw [HF.out.p1] at he; subst he
      have j2 := j1.kept g2 id
      have y2 := y1.and g2
      go_wp2_with fail
      refine Calls.mono (HK.out v2 B _ j2 (oL.out _ oS.out true)) ?_; rintro e v3 ⟨he, j3, g3⟩
      rw [HF.out.v1] at he; subst he
      have y3 := y2.own g3 lB.out
      go_wp2_with fail
      refine Calls.mono (HL.out v3 B _ l false j3 (oA.out _ (oL.out _ oS.out true)) q0 (by omega)) ?_; rintro e v4 ⟨rfl, j4, g4⟩
      have y4 := y3.own g4 lB.out
      rw [HF.out.r2] at j4
      clear g1 g2 g3 g4 j1 j2 j3 y1 y2 y3 hr kr
      go_wp2
      go_roundw
      case rel => exact ⟨1, by go_num, by go_num, by omega, j4, y4⟩
      case measure => simp [intOf]; omega
    · rw [if_neg hz] at hr
      rw [if_neg hz]
      by_cases hlt : (i : Int) < 1 + t
      · have hlt' : decide ((i : Int) < 1 + t) = true := decide_eq_true hlt
        go_wp2_with fail
        refine Calls.mono (HL.out wr B _ l true hr oT.out q0 (by omega)) ?_; rintro e v1 ⟨rfl, j1, g1⟩
        have y1 := kr.own g1 lB.out
        go_wp2_with fail
        refine Calls.mono (HP.out v1 B _ j1 (oL.out _ oT.out true)) ?_; rintro e v2 ⟨he, g2⟩
        rw [HF.out.p3] at he; subst he
        have j2 := j1.kept g2 id
        have y2 := y1.and g2
        go_wp2_with fail
        refine Calls.mono (HL.out v2 B _ l false j2 (oL.out _ oT.out true) q0 (by omega)) ?_; rintro e v4 ⟨rfl, j4, g4⟩
        have y4 := y2.own g4 lB.out
        rw [HF.out.r3] at j4
        clear g1 g2 g4 j1 j2 y1 y2 hr kr
        go_wp2
        go_roundw
        case rel => exact ⟨i + 1, by rw [if_neg (by omega)], by go_num, by omega, by rw [if_neg (by omega)]; exact j4, y4⟩
        case measure => simp [intOf]; omega
      · have hlt' : decide ((i : Int) < 1 + t) = false := decide_eq_false hlt
        go_wp2_with fail
        refine Calls.mono (HL.out wr B _ l true hr oT.out q0 (by omega)) ?_; rintro e v1 ⟨rfl, j1, g1⟩
        have y1 := kr.own g1 lB.out
        go_wp2_with fail
        refine Calls.mono (HP.out v1 B _ j1 (oL.out _ oT.out true)) ?_; rintro e v2 ⟨he, g2⟩
        rw [HF.out.p3] at he; subst he
        have j2 := j1.kept g2 id
        have y2 := y1.and g2
        go_wp2_with fail
        refine Calls.mono (HO.out v2 B _ 0 32 j2 (oL.out _ oT.out true) ⟨by decide, by decide, by decide, by decide⟩) ?_; rintro e v3 ⟨rfl, j3, g3⟩
        have y3 := y2.own g3 lB.out
        go_wp2_with fail
        refine Calls.mono (HP.out v3 B _ j3 (M2.Ok.out (p := 0) (v := 32) (oL.out _ oT.out true) ⟨by decide, by decide⟩)) ?_; rintro e v4 ⟨he, g4⟩
        rw [HF.out.p4] at he; subst he
        have y4 := y3.and g4
        go_wp2
        go_ret
        exact ⟨rfl, HB.out _ y4⟩

set_option maxRecDepth 20000 in
set_option maxHeartbeats 2000000 in
theorem PicEnds_np11 (W : World) (line times l t : Int) (l0 : -9223372036854775808 ≤ line) (l1 : line ≤ 9223372036854775807) (t0 : -9223372036854775808 ≤ times) (t1 : times ≤ 9223372036854775807) (gl : decide (line < 0) = true) (hl : -(line + 1).tmod 8 = l) (gt : decide (times < 0) = false) (ht : times.tmod 20 = t) (q0 : 0 ≤ l) (q1 : l < 8) (q2 : (l == 2) = true) (r0 : 0 ≤ t) (r1 : t < 20) : Calls Try.prog 7 #[.int .i64 line, .int .i64 times, .bool true] W fun e w' => e = .returned (.bool true) ∧ Below W.heap.size W w' := by
  have gl0 : line < 0 := by simpa using gl
  have gt0 : 0 ≤ times := by simpa using gt
  have HA : Hid (∀ w, _) := awake_ok
  have HN : Hid (∀ w, Calls Try.prog 9 #[] w fun e w' => e = .returned (.pointer (some ⟨w.heap.size, 0, none⟩)) ∧ PAt w' w.heap.size m00 ∧ Kp noB w w') := fun w => new_ok w
  have HO : Hid (∀ (w : World) (B : Nat) (m : M2) (p v : Int), PAt w B m → m.Ok → 0 ≤ p ∧ p < 4 ∧ By v → _) := fun w B m p v h k g => out_ok w B m h k p v g.1 g.2.1 g.2.2
  have HL : Hid (∀ (w : World) (B : Nat) (m : M2) (n : Int) (u : Bool), PAt w B m → m.Ok → 0 ≤ n → n < 16 → _) := fun w B m n u h k n0 n1 => line_ok w B m h k n u n0 n1
  have HP : Hid (∀ (w : World) (B : Nat) (m : M2), PAt w B m → m.Ok → _) := fun w B m h k => pend_ok w B m h k.a
  have HK : Hid (∀ (w : World) (B : Nat) (m : M2), PAt w B m → m.Ok → _) := fun w B m h k => ack_ok w B m h k
  have HB : Hid (∀ w', Kp noB W w' → Below W.heap.size W w') := fun w' h => h.every
  have HF : Hid (EndF 3) := endF (by decide) (by decide) (by decide)
  have oS : Hid (endS true).Ok := endS_ok _
  have oT : Hid (endT 3).Ok := endT_ok (by decide) (by decide)
  have oL : Hid (∀ m : M2, m.Ok → ∀ u, (m.line 3 u).Ok) := fun m k u => k.line (by decide) (by decide) u
  have oA : Hid (∀ m : M2, m.Ok → m.ack.Ok) := fun m k => k.ack
  go_enter Try.func7, Try.ntmps7
  go_wp2_with fail
  refine Calls.mono (HA.out _) ?_; rintro e w1 ⟨rfl, g1⟩
  go_wp2_with fail
  refine Calls.mono (HN.out _) ?_; rintro e w2 ⟨rfl, h2, g2⟩
  have k2 := g1.trans g2
  obtain ⟨B, hB⟩ : ∃ B, B = w1.heap.size := ⟨_, rfl⟩
  rw [← hB] at h2 ⊢
  have lB : Hid (W.heap.size ≤ B) := by rw [hB]; exact g1.size
  clear hB g1 g2
  go_wp2_with fail
  refine Calls.mono (HO.out w2 B _ 0 17 h2 m00_ok ⟨by decide, by decide, by decide, by decide⟩) ?_; rintro e w3 ⟨rfl, h3, g3⟩
  have k3 := k2.own g3 lB.out
  go_wp2_with fail
  refine Calls.mono (HO.out w3 B _ 1 64 h3 (M2.Ok.out (p := 0) (v := 17) m00_ok ⟨by decide, by decide⟩) ⟨by decide, by decide, by decide, by decide⟩) ?_; rintro e w4 ⟨rfl, h4, g4⟩
  have k4 := k3.own g4 lB.out
  go_wp2_with fail
  refine Calls.mono (HO.out w4 B _ 1 4 h4 (M2.Ok.out (p := 1) (v := 64) (M2.Ok.out (p := 0) (v := 17) m00_ok ⟨by decide, by decide⟩) ⟨by decide, by decide⟩) ⟨by decide, by decide, by decide, by decide⟩) ?_; rintro e w5 ⟨rfl, h5, g5⟩
  have k5 := k4.own g5 lB.out
  go_wp2_with fail
  refine Calls.mono (HO.out w5 B _ 1 3 h5 (M2.Ok.out (p := 1) (v := 4) (M2.Ok.out (p := 1) (v := 64) (M2.Ok.out (p := 0) (v := 17) m00_ok ⟨by decide, by decide⟩) ⟨by decide, by decide⟩) ⟨by decide, by decide⟩) ⟨by decide, by decide, by decide, by decide⟩) ?_; rintro e w6 ⟨rfl, h6, g6⟩
  have k6 := k5.own g6 lB.out
  rw [endS_t] at h6
  clear h2 h3 h4 h5 g3 g4 g5 g6 k2 k3 k4 k5
  go_wp2_with fail
  go_loopw [10, 12] (fun s10 s12 wr => ∃ i : Nat, s10 = .int .i64 i ∧ s12 = .int .i64 i ∧ (i : Int) ≤ 1 + t ∧ PAt wr B (endS true) ∧ Kp noB W wr) (fun _ s12 _ => (1 + t - intOf s12).toNat)
  case atStart => exact ⟨0, rfl, rfl, by omega, h6, k6⟩
  case round =>
    clear h6 k6
    obtain ⟨i, rfl, rfl, hi, hr, kr⟩ := hrel
    by_cases hlt : (i : Int) < 1 + t
    · have hlt' : decide ((i : Int) < 1 + t) = true := decide_eq_true hlt
      go_wp2_with fail
      refine Calls.mono (HL.out wr B _ 3 true hr oS.out (by decide) (by decide)) ?_; rintro e v1 ⟨rfl, j1, g1⟩
      have y1 := kr.own g1 lB.out
      go_wp2_with fail
      refine Calls.mono (HP.out v1 B _ j1 (oL.out _ oS.out true)) ?_; rintro e v2 ⟨he, g2⟩
      rw [HF.out.p1] at he; subst he
      have j2 := j1.kept g2 id
      have y2 := y1.and g2
      go_wp2_with fail
      refine Calls.mono (HK.out v2 B _ j2 (oL.out _ oS.out true)) ?_; rintro e v3 ⟨he, j3, g3⟩
      rw [HF.out.v1] at he; subst he
      have y3 := y2.own g3 lB.out
      go_wp2_with fail
      refine Calls.mono (HL.out v3 B _ 3 false j3 (oA.out _ (oL.out _ oS.out true)) (by decide) (by decide)) ?_; rintro e v4 ⟨rfl, j4, g4⟩
      have y4 := y3.own g4 lB.out
      rw [HF.out.r1] at j4
      clear g1 g2 g3 g4 j1 j2 j3 y1 y2 y3 hr kr
      go_wp2
      go_roundw
      case rel => exact ⟨i + 1, by go_num, by go_num, by omega, j4, y4⟩
      case measure => simp [intOf]; omega
    · have hlt' : decide ((i : Int) < 1 + t) = false := decide_eq_false hlt
      have he2 : ((i : Int) == 1 + t) = true := by simp; omega
      go_wp2_with fail
      refine Calls.mono (HP.out wr B _ hr oS.out) ?_; rintro e v2 ⟨he, g2⟩
      rw [HF.out.p2] at he; subst he
      have y2 := kr.and g2
      go_wp2
      go_ret
      exact ⟨rfl, HB.out _ y2⟩

set_option maxRecDepth 20000 in
set_option maxHeartbeats 2000000 in
theorem PicEnds_np10 (W : World) (line times l t : Int) (l0 : -9223372036854775808 ≤ line) (l1 : line ≤ 9223372036854775807) (t0 : -9223372036854775808 ≤ times) (t1 : times ≤ 9223372036854775807) (gl : decide (line < 0) = true) (hl : -(line + 1).tmod 8 = l) (gt : decide (times < 0) = false) (ht : times.tmod 20 = t) (q0 : 0 ≤ l) (q1 : l < 8) (q2 : (l == 2) = false) (r0 : 0 ≤ t) (r1 : t < 20) : Calls Try.prog 7 #[.int .i64 line, .int .i64 times, .bool true] W fun e w' => e = .returned (.bool true) ∧ Below W.heap.size W w' := by
  have gl0 : line < 0 := by simpa using gl
  have gt0 : 0 ≤ times := by simpa using gt
  have HA : Hid (∀ w, _) := awake_ok
  have HN : Hid (∀ w, Calls Try.prog 9 #[] w fun e w' => e = .returned (.pointer (some ⟨w.heap.size, 0, none⟩)) ∧ PAt w' w.heap.size m00 ∧ Kp noB w w') := fun w => new_ok w
  have HO : Hid (∀ (w : World) (B : Nat) (m : M2) (p v : Int), PAt w B m → m.Ok → 0 ≤ p ∧ p < 4 ∧ By v → _) := fun w B m p v h k g => out_ok w B m h k p v g.1 g.2.1 g.2.2
  have HL : Hid (∀ (w : World) (B : Nat) (m : M2) (n : Int) (u : Bool), PAt w B m → m.Ok → 0 ≤ n → n < 16 → _) := fun w B m n u h k n0 n1 => line_ok w B m h k n u n0 n1
  have HP : Hid (∀ (w : World) (B : Nat) (m : M2), PAt w B m → m.Ok → _) := fun w B m h k => pend_ok w B m h k.a
  have HK : Hid (∀ (w : World) (B : Nat) (m : M2), PAt w B m → m.Ok → _) := fun w B m h k => ack_ok w B m h k
  have HB : Hid (∀ w', Kp noB W w' → Below W.heap.size W w') := fun w' h => h.every
  have HF : Hid (EndF l) := endF q0 q1 (by simpa using q2)
  have oS : Hid (endS true).Ok := endS_ok _
  have oT : Hid (endT l).Ok := endT_ok q0 q1
  have oL : Hid (∀ m : M2, m.Ok → ∀ u, (m.line l u).Ok) := fun m k u => k.line q0 (by omega) u
  have oA : Hid (∀ m : M2, m.Ok → m.ack.Ok) := fun m k => k.ack
  go_enter Try.func7, Try.ntmps7
  go_wp2_with fail
  refine Calls.mono (HA.out _) ?_; rintro e w1 ⟨rfl, g1⟩
  go_wp2_with fail
  refine Calls.mono (HN.out _) ?_; rintro e w2 ⟨rfl, h2, g2⟩
  have k2 := g1.trans g2
  obtain ⟨B, hB⟩ : ∃ B, B = w1.heap.size := ⟨_, rfl⟩
  rw [← hB] at h2 ⊢
  have lB : Hid (W.heap.size ≤ B) := by rw [hB]; exact g1.size
  clear hB g1 g2
  go_wp2_with fail
  refine Calls.mono (HO.out w2 B _ 0 17 h2 m00_ok ⟨by decide, by decide, by decide, by decide⟩) ?_; rintro e w3 ⟨rfl, h3, g3⟩
  have k3 := k2.own g3 lB.out
  go_wp2_with fail
  refine Calls.mono (HO.out w3 B _ 1 64 h3 (M2.Ok.out (p := 0) (v := 17) m00_ok ⟨by decide, by decide⟩) ⟨by decide, by decide, by decide, by decide⟩) ?_; rintro e w4 ⟨rfl, h4, g4⟩
  have k4 := k3.own g4 lB.out
  go_wp2_with fail
  refine Calls.mono (HO.out w4 B _ 1 4 h4 (M2.Ok.out (p := 1) (v := 64) (M2.Ok.out (p := 0) (v := 17) m00_ok ⟨by decide, by decide⟩) ⟨by decide, by decide⟩) ⟨by decide, by decide, by decide, by decide⟩) ?_; rintro e w5 ⟨rfl, h5, g5⟩
  have k5 := k4.own g5 lB.out
  go_wp2_with fail
  refine Calls.mono (HO.out w5 B _ 1 3 h5 (M2.Ok.out (p := 1) (v := 4) (M2.Ok.out (p := 1) (v := 64) (M2.Ok.out (p := 0) (v := 17) m00_ok ⟨by decide, by decide⟩) ⟨by decide, by decide⟩) ⟨by decide, by decide⟩) ⟨by decide, by decide, by decide, by decide⟩) ?_; rintro e w6 ⟨rfl, h6, g6⟩
  have k6 := k5.own g6 lB.out
  rw [endS_t] at h6
  clear h2 h3 h4 h5 g3 g4 g5 g6 k2 k3 k4 k5
  go_wp2_with fail
  go_loopw [10, 12] (fun s10 s12 wr => ∃ i : Nat, s10 = .int .i64 i ∧ s12 = .int .i64 i ∧ (i : Int) ≤ 1 + t ∧ PAt wr B (endS true) ∧ Kp noB W wr) (fun _ s12 _ => (1 + t - intOf s12).toNat)
  case atStart => exact ⟨0, rfl, rfl, by omega, h6, k6⟩
  case round =>
    clear h6 k6
    obtain ⟨i, rfl, rfl, hi, hr, kr⟩ := hrel
    by_cases hlt : (i : Int) < 1 + t
    · have hlt' : decide ((i : Int) < 1 + t) = true := decide_eq_true hlt
      go_wp2_with fail
      refine Calls.mono (HL.out wr B _ l true hr oS.out q0 (by omega)) ?_; rintro e v1 ⟨rfl, j1, g1⟩
      have y1 := kr.own g1 lB.out
      go_wp2_with fail
      refine Calls.mono (HP.out v1 B _ j1 (oL.out _ oS.out true)) ?_; rintro e v2 ⟨he, g2⟩
      rw [HF.out.p1] at he; subst he
      have j2 := j1.kept g2 id
      have y2 := y1.and g2
      go_wp2_with fail
      refine Calls.mono (HK.out v2 B _ j2 (oL.out _ oS.out true)) ?_; rintro e v3 ⟨he, j3, g3⟩
      rw [HF.out.v1] at he; subst he
      have y3 := y2.own g3 lB.out
      go_wp2_with fail
      refine Calls.mono (HL.out v3 B _ l false j3 (oA.out _ (oL.out _ oS.out true)) q0 (by omega)) ?_; rintro e v4 ⟨rfl, j4, g4⟩
      have y4 := y3.own g4 lB.out
      rw [HF.out.r1] at j4
      clear g1 g2 g3 g4 j1 j2 j3 y1 y2 y3 hr kr
      go_wp2
      go_roundw
      case rel => exact ⟨i + 1, by go_num, by go_num, by omega, j4, y4⟩
      case measure => simp [intOf]; omega
    · have hlt' : decide ((i : Int) < 1 + t) = false := decide_eq_false hlt
      have he2 : ((i : Int) == 1 + t) = true := by simp; omega
      go_wp2_with fail
      refine Calls.mono (HP.out wr B _ hr oS.out) ?_; rintro e v2 ⟨he, g2⟩
      rw [HF.out.p2] at he; subst he
      have y2 := kr.and g2
      go_wp2
      go_ret
      exact ⟨rfl, HB.out _ y2⟩

set_option maxRecDepth 20000 in
set_option maxHeartbeats 2000000 in
theorem PicEnds_np01 (W : World) (line times l t : Int) (l0 : -9223372036854775808 ≤ line) (l1 : line ≤ 9223372036854775807) (t0 : -9223372036854775808 ≤ times) (t1 : times ≤ 9223372036854775807) (gl : decide (line < 0) = true) (hl : -(line + 1).tmod 8 = l) (gt : decide (times < 0) = false) (ht : times.tmod 20 = t) (q0 : 0 ≤ l) (q1 : l < 8) (q2 : (l == 2) = true) (r0 : 0 ≤ t) (r1 : t < 20) : Calls Try.prog 7 #[.int .i64 line, .int .i64 times, .bool false] W fun e w' => e = .returned (.bool true) ∧ Below W.heap.size W w' := by
  have gl0 : line < 0 := by simpa using gl
  have gt0 : 0 ≤ times := by simpa using gt
  have HA : Hid (∀ w, _) := awake_ok
  have HN : Hid (∀ w, Calls Try.prog 9 #[] w fun e w' => e = .returned (.pointer (some ⟨w.heap.size, 0, none⟩)) ∧ PAt w' w.heap.size m00 ∧ Kp noB w w') := fun w => new_ok w
  have HO : Hid (∀ (w : World) (B : Nat) (m : M2) (p v : Int), PAt w B m → m.Ok → 0 ≤ p ∧ p < 4 ∧ By v → _) := fun w B m p v h k g => out_ok w B m h k p v g.1 g.2.1 g.2.2
  have HL : Hid (∀ (w : World) (B : Nat) (m : M2) (n : Int) (u : Bool), PAt w B m → m.Ok → 0 ≤ n → n < 16 → _) := fun w B m n u h k n0 n1 => line_ok w B m h k n u n0 n1
  have HP : Hid (∀ (w : World) (B : Nat) (m : M2), PAt w B m → m.Ok → _) := fun w B m h k => pend_ok w B m h k.a
  have HK : Hid (∀ (w : World) (B : Nat) (m : M2), PAt w B m → m.Ok → _) := fun w B m h k => ack_ok w B m h k
  have HB : Hid (∀ w', Kp noB W w' → Below W.heap.size W w') := fun w' h => h.every
  have HF : Hid (EndF 3) := endF (by decide) (by decide) (by decide)
  have oS : Hid (endS false).Ok := endS_ok _
  have oT : Hid (endT 3).Ok := endT_ok (by decide) (by decide)
  have oL : Hid (∀ m : M2, m.Ok → ∀ u, (m.line 3 u).Ok) := fun m k u => k.line (by decide) (by decide) u
  have oA : Hid (∀ m : M2, m.Ok → m.ack.Ok) := fun m k => k.ack
  go_enter Try.func7, Try.ntmps7
  go_wp2_with fail
  refine Calls.mono (HA.out _) ?_; rintro e w1 ⟨rfl, g1⟩
  go_wp2_with fail
  refine Calls.mono (HN.out _) ?_; rintro e w2 ⟨rfl, h2, g2⟩
  have k2 := g1.trans g2
  obtain ⟨B, hB⟩ : ∃ B, B = w1.heap.size := ⟨_, rfl⟩
  rw [← hB] at h2 ⊢
  have lB : Hid (W.heap.size ≤ B) := by rw [hB]; exact g1.size
  clear hB g1 g2
  go_wp2_with fail
  refine Calls.mono (HO.out w2 B _ 0 17 h2 m00_ok ⟨by decide, by decide, by decide, by decide⟩) ?_; rintro e w3 ⟨rfl, h3, g3⟩
  have k3 := k2.own g3 lB.out
  go_wp2_with fail
  refine Calls.mono (HO.out w3 B _ 1 64 h3 (M2.Ok.out (p := 0) (v := 17) m00_ok ⟨by decide, by decide⟩) ⟨by decide, by decide, by decide, by decide⟩) ?_; rintro e w4 ⟨rfl, h4, g4⟩
  have k4 := k3.own g4 lB.out
  go_wp2_with fail
  refine Calls.mono (HO.out w4 B _ 1 4 h4 (M2.Ok.out (p := 1) (v := 64) (M2.Ok.out (p := 0) (v := 17) m00_ok ⟨by decide, by decide⟩) ⟨by decide, by decide⟩) ⟨by decide, by decide, by decide, by decide⟩) ?_; rintro e w5 ⟨rfl, h5, g5⟩
  have k5 := k4.own g5 lB.out
  go_wp2_with fail
  refine Calls.mono (HO.out w5 B _ 1 1 h5 (M2.Ok.out (p := 1) (v := 4) (M2.Ok.out (p := 1) (v := 64) (M2.Ok.out (p := 0) (v := 17) m00_ok ⟨by decide, by decide⟩) ⟨by decide, by decide⟩) ⟨by decide, by decide⟩) ⟨by decide, by decide, by decide, by decide⟩) ?_; rintro e w6 ⟨rfl, h6, g6⟩
  have k6 := k5.own g6 lB.out
  rw [endS_f] at h6
  clear h2 h3 h4 h5 g3 g4 g5 g6 k2 k3 k4 k5
  go_wp2_with fail
  go_loopw [10, 12] (fun s10 s12 wr => ∃ i : Nat, s10 = .int .i64 (if i = 0 then 0 else 1) ∧ s12 = .int .i64 i ∧ (i : Int) ≤ 1 + t ∧ PAt wr B (if i = 0 then endS false else endT 3) ∧ Kp noB W wr) (fun _ s12 _ => (1 + t - intOf s12).toNat)
  case atStart => exact ⟨0, rfl, rfl, by omega, h6, k6⟩
  case round =>
    clear h6 k6
    obtain ⟨i, rfl, rfl, hi, hr, kr⟩ := hrel
    by_cases hz : i = 0
    · subst hz
      rw [if_pos rfl] at hr
      rw [if_pos rfl]
      have hlt' : decide ((0 : Int) < 1 + t) = true := decide_eq_true (by omega)
      go_wp2_with fail
      refine Calls.mono (HL.out wr B _ 3 true hr oS.out (by decide) (by decide)) ?_; rintro e v1 ⟨rfl, j1, g1⟩
      have y1 := kr.own g1 lB.out
      go_wp2_with fail
      refine Calls.mono (HP.out v1 B _ j1 (oL.out _ oS.out true)) ?_; rintro e v2 ⟨he, g2⟩
      rw [HF.out.p1] at he; subst he
      have j2 := j1.kept g2 id
      have y2 := y1.and g2
      go_wp2_with fail
      refine Calls.mono (HK.out v2 B _ j2 (oL.out _ oS.out true)) ?_; rintro e v3 ⟨he, j3, g3⟩
      rw [HF.out.v1] at he; subst he
      have y3 := y2.own g3 lB.out
      go_wp2_with fail
      refine Calls.mono (HL.out v3 B _ 3 false j3 (oA.out _ (oL.out _ oS.out true)) (by decide) (by decide)) ?_; rintro e v4 ⟨rfl, j4, g4⟩
      have y4 := y3.own g4 lB.out
      rw [HF.out.r2] at j4
      clear g1 g2 g3 g4 j1 j2 j3 y1 y2 y3 hr kr
      go_wp2
      go_roundw
      case rel => exact ⟨1, by go_num, by go_num, by omega, j4, y4⟩
      case measure => simp [intOf]; omega
    · rw [if_neg hz] at hr
      rw [if_neg hz]
      by_cases hlt : (i : Int) < 1 + t
      · have hlt' : decide ((i : Int) < 1 + t) = true := decide_eq_true hlt
        go_wp2_with fail
        refine Calls.mono (HL.out wr B _ 3 true hr oT.out (by decide) (by decide)) ?_; rintro e v1 ⟨rfl, j1, g1⟩
        have y1 := kr.own g1 lB.out
        go_wp2_with fail
        refine Calls.mono (HP.out v1 B _ j1 (oL.out _ oT.out true)) ?_; rintro e v2 ⟨he, g2⟩
        rw [HF.out.p3] at he; subst he
        have j2 := j1.kept g2 id
        have y2 := y1.and g2
        go_wp2_with fail
        refine Calls.mono (HL.out v2 B _ 3 false j2 (oL.out _ oT.out true) (by decide) (by decide)) ?_; rintro e v4 ⟨rfl, j4, g4⟩
        have y4 := y2.own g4 lB.out
        rw [HF.out.r3] at j4
        clear g1 g2 g4 j1 j2 y1 y2 hr kr
        go_wp2
        go_roundw
        case rel => exact ⟨i + 1, by rw [if_neg (by omega)], by go_num, by omega, by rw [if_neg (by omega)]; exact j4, y4⟩
        case measure => simp [intOf]; omega
      · have hlt' : decide ((i : Int) < 1 + t) = false := decide_eq_false hlt
        go_wp2_with fail
        refine Calls.mono (HL.out wr B _ 3 true hr oT.out (by decide) (by decide)) ?_; rintro e v1 ⟨rfl, j1, g1⟩
        have y1 := kr.own g1 lB.out
        go_wp2_with fail
        refine Calls.mono (HP.out v1 B _ j1 (oL.out _ oT.out true)) ?_; rintro e v2 ⟨he, g2⟩
        rw [HF.out.p3] at he; subst he
        have j2 := j1.kept g2 id
        have y2 := y1.and g2
        go_wp2_with fail
        refine Calls.mono (HO.out v2 B _ 0 32 j2 (oL.out _ oT.out true) ⟨by decide, by decide, by decide, by decide⟩) ?_; rintro e v3 ⟨rfl, j3, g3⟩
        have y3 := y2.own g3 lB.out
        go_wp2_with fail
        refine Calls.mono (HP.out v3 B _ j3 (M2.Ok.out (p := 0) (v := 32) (oL.out _ oT.out true) ⟨by decide, by decide⟩)) ?_; rintro e v4 ⟨he, g4⟩
        rw [HF.out.p4] at he; subst he
        have y4 := y3.and g4
        go_wp2
        go_ret
        exact ⟨rfl, HB.out _ y4⟩

set_option maxRecDepth 20000 in
set_option maxHeartbeats 2000000 in
theorem PicEnds_np00 (W : World) (line times l t : Int) (l0 : -9223372036854775808 ≤ line) (l1 : line ≤ 9223372036854775807) (t0 : -9223372036854775808 ≤ times) (t1 : times ≤ 9223372036854775807) (gl : decide (line < 0) = true) (hl : -(line + 1).tmod 8 = l) (gt : decide (times < 0) = false) (ht : times.tmod 20 = t) (q0 : 0 ≤ l) (q1 : l < 8) (q2 : (l == 2) = false) (r0 : 0 ≤ t) (r1 : t < 20) : Calls Try.prog 7 #[.int .i64 line, .int .i64 times, .bool false] W fun e w' => e = .returned (.bool true) ∧ Below W.heap.size W w' := by
  have gl0 : line < 0 := by simpa using gl
  have gt0 : 0 ≤ times := by simpa using gt
  have HA : Hid (∀ w, _) := awake_ok
  have HN : Hid (∀ w, Calls Try.prog 9 #[] w fun e w' => e = .returned (.pointer (some ⟨w.heap.size, 0, none⟩)) ∧ PAt w' w.heap.size m00 ∧ Kp noB w w') := fun w => new_ok w
  have HO : Hid (∀ (w : World) (B : Nat) (m : M2) (p v : Int), PAt w B m → m.Ok → 0 ≤ p ∧ p < 4 ∧ By v → _) := fun w B m p v h k g => out_ok w B m h k p v g.1 g.2.1 g.2.2
  have HL : Hid (∀ (w : World) (B : Nat) (m : M2) (n : Int) (u : Bool), PAt w B m → m.Ok → 0 ≤ n → n < 16 → _) := fun w B m n u h k n0 n1 => line_ok w B m h k n u n0 n1
  have HP : Hid (∀ (w : World) (B : Nat) (m : M2), PAt w B m → m.Ok → _) := fun w B m h k => pend_ok w B m h k.a
  have HK : Hid (∀ (w : World) (B : Nat) (m : M2), PAt w B m → m.Ok → _) := fun w B m h k => ack_ok w B m h k
  have HB : Hid (∀ w', Kp noB W w' → Below W.heap.size W w') := fun w' h => h.every
  have HF : Hid (EndF l) := endF q0 q1 (by simpa using q2)
  have oS : Hid (endS false).Ok := endS_ok _
  have oT : Hid (endT l).Ok := endT_ok q0 q1
  have oL : Hid (∀ m : M2, m.Ok → ∀ u, (m.line l u).Ok) := fun m k u => k.line q0 (by omega) u
  have oA : Hid (∀ m : M2, m.Ok → m.ack.Ok) := fun m k => k.ack
  go_enter Try.func7, Try.ntmps7
  go_wp2_with fail
  refine Calls.mono (HA.out _) ?_; rintro e w1 ⟨rfl, g1⟩
  go_wp2_with fail
  refine Calls.mono (HN.out _) ?_; rintro e w2 ⟨rfl, h2, g2⟩
  have k2 := g1.trans g2
  obtain ⟨B, hB⟩ : ∃ B, B = w1.heap.size := ⟨_, rfl⟩
  rw [← hB] at h2 ⊢
  have lB : Hid (W.heap.size ≤ B) := by rw [hB]; exact g1.size
  clear hB g1 g2
  go_wp2_with fail
  refine Calls.mono (HO.out w2 B _ 0 17 h2 m00_ok ⟨by decide, by decide, by decide, by decide⟩) ?_; rintro e w3 ⟨rfl, h3, g3⟩
  have k3 := k2.own g3 lB.out
  go_wp2_with fail
  refine Calls.mono (HO.out w3 B _ 1 64 h3 (M2.Ok.out (p := 0) (v := 17) m00_ok ⟨by decide, by decide⟩) ⟨by decide, by decide, by decide, by decide⟩) ?_; rintro e w4 ⟨rfl, h4, g4⟩
  have k4 := k3.own g4 lB.out
  go_wp2_with fail
  refine Calls.mono (HO.out w4 B _ 1 4 h4 (M2.Ok.out (p := 1) (v := 64) (M2.Ok.out (p := 0) (v := 17) m00_ok ⟨by decide, by decide⟩) ⟨by decide, by decide⟩) ⟨by decide, by decide, by decide, by decide⟩) ?_; rintro e w5 ⟨rfl, h5, g5⟩
  have k5 := k4.own g5 lB.out
  go_wp2_with fail
  refine Calls.mono (HO.out w5 B _ 1 1 h5 (M2.Ok.out (p := 1) (v := 4) (M2.Ok.out (p := 1) (v := 64) (M2.Ok.out (p := 0) (v := 17) m00_ok ⟨by decide, by decide⟩) ⟨by decide, by decide⟩) ⟨by decide, by decide⟩) ⟨by decide, by decide, by decide, by decide⟩) ?_; rintro e w6 ⟨rfl, h6, g6⟩
  have k6 := k5.own g6 lB.out
  rw [endS_f] at h6
  clear h2 h3 h4 h5 g3 g4 g5 g6 k2 k3 k4 k5
  go_wp2_with fail
  go_loopw [10, 12] (fun s10 s12 wr => ∃ i : Nat, s10 = .int .i64 (if i = 0 then 0 else 1) ∧ s12 = .int .i64 i ∧ (i : Int) ≤ 1 + t ∧ PAt wr B (if i = 0 then endS false else endT l) ∧ Kp noB W wr) (fun _ s12 _ => (1 + t - intOf s12).toNat)
  case atStart => exact ⟨0, rfl, rfl, by omega, h6, k6⟩
  case round =>
    clear h6 k6
    obtain ⟨i, rfl, rfl, hi, hr, kr⟩ := hrel
    by_cases hz : i = 0
    · subst hz
      rw [if_pos rfl] at hr
      rw [if_pos rfl]
      have hlt' : decide ((0 : Int) < 1 + t) = true := decide_eq_true (by omega)
      go_wp2_with fail
      refine Calls.mono (HL.out wr B _ l true hr oS.out q0 (by omega)) ?_; rintro e v1 ⟨rfl, j1, g1⟩
      have y1 := kr.own g1 lB.out
      go_wp2_with fail
      refine Calls.mono (HP.out v1 B _ j1 (oL.out _ oS.out true)) ?_; rintro e v2 ⟨he, g2⟩
      rw [HF.out.p1] at he; subst he
      have j2 := j1.kept g2 id
      have y2 := y1.and g2
      go_wp2_with fail
      refine Calls.mono (HK.out v2 B _ j2 (oL.out _ oS.out true)) ?_; rintro e v3 ⟨he, j3, g3⟩
      rw [HF.out.v1] at he; subst he
      have y3 := y2.own g3 lB.out
      go_wp2_with fail
      refine Calls.mono (HL.out v3 B _ l false j3 (oA.out _ (oL.out _ oS.out true)) q0 (by omega)) ?_; rintro e v4 ⟨rfl, j4, g4⟩
      have y4 := y3.own g4 lB.out
      rw [HF.out.r2] at j4
      clear g1 g2 g3 g4 j1 j2 j3 y1 y2 y3 hr kr
      go_wp2
      go_roundw
      case rel => exact ⟨1, by go_num, by go_num, by omega, j4, y4⟩
      case measure => simp [intOf]; omega
    · rw [if_neg hz] at hr
      rw [if_neg hz]
      by_cases hlt : (i : Int) < 1 + t
      · have hlt' : decide ((i : Int) < 1 + t) = true := decide_eq_true hlt
        go_wp2_with fail
        refine Calls.mono (HL.out wr B _ l true hr oT.out q0 (by omega)) ?_; rintro e v1 ⟨rfl, j1, g1⟩
        have y1 := kr.own g1 lB.out
        go_wp2_with fail
        refine Calls.mono (HP.out v1 B _ j1 (oL.out _ oT.out true)) ?_; rintro e v2 ⟨he, g2⟩
        rw [HF.out.p3] at he; subst he
        have j2 := j1.kept g2 id
        have y2 := y1.and g2
        go_wp2_with fail
        refine Calls.mono (HL.out v2 B _ l false j2 (oL.out _ oT.out true) q0 (by omega)) ?_; rintro e v4 ⟨rfl, j4, g4⟩
        have y4 := y2.own g4 lB.out
        rw [HF.out.r3] at j4
        clear g1 g2 g4 j1 j2 y1 y2 hr kr
        go_wp2
        go_roundw
        case rel => exact ⟨i + 1, by rw [if_neg (by omega)], by go_num, by omega, by rw [if_neg (by omega)]; exact j4, y4⟩
        case measure => simp [intOf]; omega
      · have hlt' : decide ((i : Int) < 1 + t) = false := decide_eq_false hlt
        go_wp2_with fail
        refine Calls.mono (HL.out wr B _ l true hr oT.out q0 (by omega)) ?_; rintro e v1 ⟨rfl, j1, g1⟩
        have y1 := kr.own g1 lB.out
        go_wp2_with fail
        refine Calls.mono (HP.out v1 B _ j1 (oL.out _ oT.out true)) ?_; rintro e v2 ⟨he, g2⟩
        rw [HF.out.p3] at he; subst he
        have j2 := j1.kept g2 id
        have y2 := y1.and g2
        go_wp2_with fail
        refine Calls.mono (HO.out v2 B _ 0 32 j2 (oL.out _ oT.out true) ⟨by decide, by decide, by decide, by decide⟩) ?_; rintro e v3 ⟨rfl, j3, g3⟩
        have y3 := y2.own g3 lB.out
        go_wp2_with fail
        refine Calls.mono (HP.out v3 B _ j3 (M2.Ok.out (p := 0) (v := 32) (oL.out _ oT.out true) ⟨by decide, by decide⟩)) ?_; rintro e v4 ⟨he, g4⟩
        rw [HF.out.p4] at he; subst he
        have y4 := y3.and g4
        go_wp2
        go_ret
        exact ⟨rfl, HB.out _ y4⟩

set_option maxRecDepth 20000 in
set_option maxHeartbeats 2000000 in
theorem PicEnds_pn11 (W : World) (line times l t : Int) (l0 : -9223372036854775808 ≤ line) (l1 : line ≤ 9223372036854775807) (t0 : -9223372036854775808 ≤ times) (t1 : times ≤ 9223372036854775807) (gl : decide (line < 0) = false) (hl : line.tmod 8 = l) (gt : decide (times < 0) = true) (ht : -(times + 1).tmod 20 = t) (q0 : 0 ≤ l) (q1 : l < 8) (q2 : (l == 2) = true) (r0 : 0 ≤ t) (r1 : t < 20) : Calls Try.prog 7 #[.int .i64 line, .int .i64 times, .bool true] W fun e w' => e = .returned (.bool true) ∧ Below W.heap.size W w' := by
  have gl0 : 0 ≤ line := by simpa using gl
  have gt0 : times < 0 := by simpa using gt
  have HA : Hid (∀ w, _) := awake_ok
  have HN : Hid (∀ w, Calls Try.prog 9 #[] w fun e w' => e = .returned (.pointer (some ⟨w.heap.size, 0, none⟩)) ∧ PAt w' w.heap.size m00 ∧ Kp noB w w') := fun w => new_ok w
  have HO : Hid (∀ (w : World) (B : Nat) (m : M2) (p v : Int), PAt w B m → m.Ok → 0 ≤ p ∧ p < 4 ∧ By v → _) := fun w B m p v h k g => out_ok w B m h k p v g.1 g.2.1 g.2.2
  have HL : Hid (∀ (w : World) (B : Nat) (m : M2) (n : Int) (u : Bool), PAt w B m → m.Ok → 0 ≤ n → n < 16 → _) := fun w B m n u h k n0 n1 => line_ok w B m h k n u n0 n1
  have HP : Hid (∀ (w : World) (B : Nat) (m : M2), PAt w B m → m.Ok → _) := fun w B m h k => pend_ok w B m h k.a
  have HK : Hid (∀ (w : World) (B : Nat) (m : M2), PAt w B m → m.Ok → _) := fun w B m h k => ack_ok w B m h k
  have HB : Hid (∀ w', Kp noB W w' → Below W.heap.size W w') := fun w' h => h.every
  have HF : Hid (EndF 3) := endF (by decide) (by decide) (by decide)
  have oS : Hid (endS true).Ok := endS_ok _
  have oT : Hid (endT 3).Ok := endT_ok (by decide) (by decide)
  have oL : Hid (∀ m : M2, m.Ok → ∀ u, (m.line 3 u).Ok) := fun m k u => k.line (by decide) (by decide) u
  have oA : Hid (∀ m : M2, m.Ok → m.ack.Ok) := fun m k => k.ack
  go_enter Try.func7, Try.ntmps7
  go_wp2_with fail
  refine Calls.mono (HA.out _) ?_; rintro e w1 ⟨rfl, g1⟩
  go_wp2_with fail
  refine Calls.mono (HN.out _) ?_; rintro e w2 ⟨rfl, h2, g2⟩
  have k2 := g1.trans g2
  obtain ⟨B, hB⟩ : ∃ B, B = w1.heap.size := ⟨_, rfl⟩
  rw [← hB] at h2 ⊢
  have lB : Hid (W.heap.size ≤ B) := by rw [hB]; exact g1.size
  clear hB g1 g2
  go_wp2_with fail
  refine Calls.mono (HO.out w2 B _ 0 17 h2 m00_ok ⟨by decide, by decide, by decide, by decide⟩) ?_; rintro e w3 ⟨rfl, h3, g3⟩
  have k3 := k2.own g3 lB.out
  go_wp2_with fail
  refine Calls.mono (HO.out w3 B _ 1 64 h3 (M2.Ok.out (p := 0) (v := 17) m00_ok ⟨by decide, by decide⟩) ⟨by decide, by decide, by decide, by decide⟩) ?_; rintro e w4 ⟨rfl, h4, g4⟩
  have k4 := k3.own g4 lB.out
  go_wp2_with fail
  refine Calls.mono (HO.out w4 B _ 1 4 h4 (M2.Ok.out (p := 1) (v := 64) (M2.Ok.out (p := 0) (v := 17) m00_ok ⟨by decide, by decide⟩) ⟨by decide, by decide⟩) ⟨by decide, by decide, by decide, by decide⟩) ?_; rintro e w5 ⟨rfl, h5, g5⟩
  have k5 := k4.own g5 lB.out
  go_wp2_with fail
  refine Calls.mono (HO.out w5 B _ 1 3 h5 (M2.Ok.out (p := 1) (v := 4) (M2.Ok.out (p := 1) (v := 64) (M2.Ok.out (p := 0) (v := 17) m00_ok ⟨by decide, by decide⟩) ⟨by decide, by decide⟩) ⟨by decide, by decide⟩) ⟨by decide, by decide, by decide, by decide⟩) ?_; rintro e w6 ⟨rfl, h6, g6⟩
  have k6 := k5.own g6 lB.out
  rw [endS_t] at h6
  clear h2 h3 h4 h5 g3 g4 g5 g6 k2 k3 k4 k5
  go_wp2_with fail
  go_loopw [10, 12] (fun s10 s12 wr => ∃ i : Nat, s10 = .int .i64 i ∧ s12 = .int .i64 i ∧ (i : Int) ≤ 1 + t ∧ PAt wr B (endS true) ∧ Kp noB W wr) (fun _ s12 _ => (1 + t - intOf s12).toNat)
  case atStart => exact ⟨0, rfl, rfl, by omega, h6, k6⟩
  case round =>
    clear h6 k6
    obtain ⟨i, rfl, rfl, hi, hr, kr⟩ := hrel
    by_cases hlt : (i : Int) < 1 + t
    · have hlt' : decide ((i : Int) < 1 + t) = true := decide_eq_true hlt
      go_wp2_with fail
      refine Calls.mono (HL.out wr B _ 3 true hr oS.out (by decide) (by decide)) ?_; rintro e v1 ⟨rfl, j1, g1⟩
      have y1 := kr.own g1 lB.out
      go_wp2_with fail
      refine Calls.mono (HP.out v1 B _ j1 (oL.out _ oS.out true)) ?_; rintro e v2 ⟨he, g2⟩
      rw [HF.out.p1] at he; subst he
      have j2 := j1.kept g2 id
      have y2 := y1.and g2
      go_wp2_with fail
      refine Calls.mono (HK.out v2 B _ j2 (oL.out _ oS.out true)) ?_; rintro e v3 ⟨he, j3, g3⟩
      rw [HF.out.v1] at he; subst he
      have y3 := y2.own g3 lB.out
      go_wp2_with fail
      refine Calls.mono (HL.out v3 B _ 3 false j3 (oA.out _ (oL.out _ oS.out true)) (by decide) (by decide)) ?_; rintro e v4 ⟨rfl, j4, g4⟩
      have y4 := y3.own g4 lB.out
      rw [HF.out.r1] at j4
      clear g1 g2 g3 g4 j1 j2 j3 y1 y2 y3 hr kr
      go_wp2
      go_roundw
      case rel => exact ⟨i + 1, by go_num, by go_num, by omega, j4, y4⟩
      case measure => simp [intOf]; omega
    · have hlt' : decide ((i : Int) < 1 + t) = false := decide_eq_false hlt
      have he2 : ((i : Int) == 1 + t) = true := by simp; omega
      go_wp2_with fail
      refine Calls.mono (HP.out wr B _ hr oS.out) ?_; rintro e v2 ⟨he, g2⟩
      rw [HF.out.p2] at he; subst he
      have y2 := kr.and g2
      go_wp2
      go_ret
      exact ⟨rfl, HB.out _ y2⟩

set_option maxRecDepth 20000 in
set_option maxHeartbeats 2000000 in
theorem PicEnds_pn10 (W : World) (line times l t : Int) (l0 : -9223372036854775808 ≤ line) (l1 : line ≤ 9223372036854775807) (t0 : -9223372036854775808 ≤ times) (t1 : times ≤ 9223372036854775807) (gl : decide (line < 0) = false) (hl : line.tmod 8 = l) (gt : decide (times < 0) = true) (ht : -(times + 1).tmod 20 = t) (q0 : 0 ≤ l) (q1 : l < 8) (q2 : (l == 2) = false) (r0 : 0 ≤ t) (r1 : t < 20) : Calls Try.prog 7 #[.int .i64 line, .int .i64 times, .bool true] W fun e w' => e = .returned (.bool true) ∧ Below W.heap.size W w' := by
  have gl0 : 0 ≤ line := by simpa using gl
  have gt0 : times < 0 := by simpa using gt
  have HA : Hid (∀ w, _) := awake_ok
  have HN : Hid (∀ w, Calls Try.prog 9 #[] w fun e w' => e = .returned (.pointer (some ⟨w.heap.size, 0, none⟩)) ∧ PAt w' w.heap.size m00 ∧ Kp noB w w') := fun w => new_ok w
  have HO : Hid (∀ (w : World) (B : Nat) (m : M2) (p v : Int), PAt w B m → m.Ok → 0 ≤ p ∧ p < 4 ∧ By v → _) := fun w B m p v h k g => out_ok w B m h k p v g.1 g.2.1 g.2.2
  have HL : Hid (∀ (w : World) (B : Nat) (m : M2) (n : Int) (u : Bool), PAt w B m → m.Ok → 0 ≤ n → n < 16 → _) := fun w B m n u h k n0 n1 => line_ok w B m h k n u n0 n1
  have HP : Hid (∀ (w : World) (B : Nat) (m : M2), PAt w B m → m.Ok → _) := fun w B m h k => pend_ok w B m h k.a
  have HK : Hid (∀ (w : World) (B : Nat) (m : M2), PAt w B m → m.Ok → _) := fun w B m h k => ack_ok w B m h k
  have HB : Hid (∀ w', Kp noB W w' → Below W.heap.size W w') := fun w' h => h.every
  have HF : Hid (EndF l) := endF q0 q1 (by simpa using q2)
  have oS : Hid (endS true).Ok := endS_ok _
  have oT : Hid (endT l).Ok := endT_ok q0 q1
  have oL : Hid (∀ m : M2, m.Ok → ∀ u, (m.line l u).Ok) := fun m k u => k.line q0 (by omega) u
  have oA : Hid (∀ m : M2, m.Ok → m.ack.Ok) := fun m k => k.ack
  go_enter Try.func7, Try.ntmps7
  go_wp2_with fail
  refine Calls.mono (HA.out _) ?_; rintro e w1 ⟨rfl, g1⟩
  go_wp2_with fail
  refine Calls.mono (HN.out _) ?_; rintro e w2 ⟨rfl, h2, g2⟩
  have k2 := g1.trans g2
  obtain ⟨B, hB⟩ : ∃ B, B = w1.heap.size := ⟨_, rfl⟩
  rw [← hB] at h2 ⊢
  have lB : Hid (W.heap.size ≤ B) := by rw [hB]; exact g1.size
  clear hB g1 g2
  go_wp2_with fail
  refine Calls.mono (HO.out w2 B _ 0 17 h2 m00_ok ⟨by decide, by decide, by decide, by decide⟩) ?_; rintro e w3 ⟨rfl, h3, g3⟩
  have k3 := k2.own g3 lB.out
  go_wp2_with fail
  refine Calls.mono (HO.out w3 B _ 1 64 h3 (M2.Ok.out (p := 0) (v := 17) m00_ok ⟨by decide, by decide⟩) ⟨by decide, by decide, by decide, by decide⟩) ?_; rintro e w4 ⟨rfl, h4, g4⟩
  have k4 := k3.own g4 lB.out
  go_wp2_with fail
  refine Calls.mono (HO.out w4 B _ 1 4 h4 (M2.Ok.out (p := 1) (v := 64) (M2.Ok.out (p := 0) (v := 17) m00_ok ⟨by decide, by decide⟩) ⟨by decide, by decide⟩) ⟨by decide, by decide, by decide, by decide⟩) ?_; rintro e w5 ⟨rfl, h5, g5⟩
  have k5 := k4.own g5 lB.out
  go_wp2_with fail
  refine Calls.mono (HO.out w5 B _ 1 3 h5 (M2.Ok.out (p := 1) (v := 4) (M2.Ok.out (p := 1) (v := 64) (M2.Ok.out (p := 0) (v := 17) m00_ok ⟨by decide, by decide⟩) ⟨by decide, by decide⟩) ⟨by decide, by decide⟩) ⟨by decide, by decide, by decide, by decide⟩) ?_; rintro e w6 ⟨rfl, h6, g6⟩
  have k6 := k5.own g6 lB.out
  rw [endS_t] at h6
  clear h2 h3 h4 h5 g3 g4 g5 g6 k2 k3 k4 k5
  go_wp2_with fail
  go_loopw [10, 12] (fun s10 s12 wr => ∃ i : Nat, s10 = .int .i64 i ∧ s12 = .int .i64 i ∧ (i : Int) ≤ 1 + t ∧ PAt wr B (endS true) ∧ Kp noB W wr) (fun _ s12 _ => (1 + t - intOf s12).toNat)
  case atStart => exact ⟨0, rfl, rfl, by omega, h6, k6⟩
  case round =>
    clear h6 k6
    obtain ⟨i, rfl, rfl, hi, hr, kr⟩ := hrel
    by_cases hlt : (i : Int) < 1 + t
    · have hlt' : decide ((i : Int) < 1 + t) = true := decide_eq_true hlt
      go_wp2_with fail
      refine Calls.mono (HL.out wr B _ l true hr oS.out q0 (by omega)) ?_; rintro e v1 ⟨rfl, j1, g1⟩
      have y1 := kr.own g1 lB.out
      go_wp2_with fail
      refine Calls.mono (HP.out v1 B _ j1 (oL.out _ oS.out true)) ?_; rintro e v2 ⟨he, g2⟩
      rw [HF.out.p1] at he; subst he
      have j2 := j1.kept g2 id
      have y2 := y1.and g2
      go_wp2_with fail
      refine Calls.mono (HK.out v2 B _ j2 (oL.out _ oS.out true)) ?_; rintro e v3 ⟨he, j3, g3⟩
      rw [HF.out.v1] at he; subst he
      have y3 := y2.own g3 lB.out
      go_wp2_with fail
      refine Calls.mono (HL.out v3 B _ l false j3 (oA.out _ (oL.out _ oS.out true)) q0 (by omega)) ?_; rintro e v4 ⟨rfl, j4, g4⟩
      have y4 := y3.own g4 lB.out
      rw [HF.out.r1] at j4
      clear g1 g2 g3 g4 j1 j2 j3 y1 y2 y3 hr kr
      go_wp2
      go_roundw
      case rel => exact ⟨i + 1, by go_num, by go_num, by omega, j4, y4⟩
      case measure => simp [intOf]; omega
    · have hlt' : decide ((i : Int) < 1 + t) = false := decide_eq_false hlt
      have he2 : ((i : Int) == 1 + t) = true := by simp; omega
      go_wp2_with fail
      refine Calls.mono (HP.out wr B _ hr oS.out) ?_; rintro e v2 ⟨he, g2⟩
      rw [HF.out.p2] at he; subst he
      have y2 := kr.and g2
      go_wp2
      go_ret
      exact ⟨rfl, HB.out _ y2⟩

set_option maxRecDepth 20000 in
set_option maxHeartbeats 2000000 in
theorem PicEnds_pn01 (W : World) (line times l t : Int) (l0 : -9223372036854775808 ≤ line) (l1 : line ≤ 9223372036854775807) (t0 : -9223372036854775808 ≤ times) (t1 : times ≤ 9223372036854775807) (gl : decide (line < 0) = false) (hl : line.tmod 8 = l) (gt : decide (times < 0) = true) (ht : -(times + 1).tmod 20 = t) (q0 : 0 ≤ l) (q1 : l < 8) (q2 : (l == 2) = true) (r0 : 0 ≤ t) (r1 : t < 20) : Calls Try.prog 7 #[.int .i64 line, .int .i64 times, .bool false] W fun e w' => e = .returned (.bool true) ∧ Below W.heap.size W w' := by
  have gl0 : 0 ≤ line := by simpa using gl
  have gt0 : times < 0 := by simpa using gt
  have HA : Hid (∀ w, _) := awake_ok
  have HN : Hid (∀ w, Calls Try.prog 9 #[] w fun e w' => e = .returned (.pointer (some ⟨w.heap.size, 0, none⟩)) ∧ PAt w' w.heap.size m00 ∧ Kp noB w w') := fun w => new_ok w
  have HO : Hid (∀ (w : World) (B : Nat) (m : M2) (p v : Int), PAt w B m → m.Ok → 0 ≤ p ∧ p < 4 ∧ By v → _) := fun w B m p v h k g => out_ok w B m h k p v g.1 g.2.1 g.2.2
  have HL : Hid (∀ (w : World) (B : Nat) (m : M2) (n : Int) (u : Bool), PAt w B m → m.Ok → 0 ≤ n → n < 16 → _) := fun w B m n u h k n0 n1 => line_ok w B m h k n u n0 n1
  have HP : Hid (∀ (w : World) (B : Nat) (m : M2), PAt w B m → m.Ok → _) := fun w B m h k => pend_ok w B m h k.a
  have HK : Hid (∀ (w : World) (B : Nat) (m : M2), PAt w B m → m.Ok → _) := fun w B m h k => ack_ok w B m h k
  have HB : Hid (∀ w', Kp noB W w' → Below W.heap.size W w') := fun w' h => h.every
  have HF : Hid (EndF 3) := endF (by decide) (by decide) (by decide)
  have oS : Hid (endS false).Ok := endS_ok _
  have oT : Hid (endT 3).Ok := endT_ok (by decide) (by decide)
  have oL : Hid (∀ m : M2, m.Ok → ∀ u, (m.line 3 u).Ok) := fun m k u => k.line (by decide) (by decide) u
  have oA : Hid (∀ m : M2, m.Ok → m.ack.Ok) := fun m k => k.ack
  go_enter Try.func7, Try.ntmps7
  go_wp2_with fail
  refine Calls.mono (HA.out _) ?_; rintro e w1 ⟨rfl, g1⟩
  go_wp2_with fail
  refine Calls.mono (HN.out _) ?_; rintro e w2 ⟨rfl, h2, g2⟩
  have k2 := g1.trans g2
  obtain ⟨B, hB⟩ : ∃ B, B = w1.heap.size := ⟨_, rfl⟩
  rw [← hB] at h2 ⊢
  have lB : Hid (W.heap.size ≤ B) := by rw [hB]; exact g1.size
  clear hB g1 g2
  go_wp2_with fail
  refine Calls.mono (HO.out w2 B _ 0 17 h2 m00_ok ⟨by decide, by decide, by decide, by decide⟩) ?_; rintro e w3 ⟨rfl, h3, g3⟩
  have k3 := k2.own g3 lB.out
  go_wp2_with fail
  refine Calls.mono (HO.out w3 B _ 1 64 h3 (M2.Ok.out (p := 0) (v := 17) m00_ok ⟨by decide, by decide⟩) ⟨by decide, by decide, by decide, by decide⟩) ?_; rintro e w4 ⟨rfl, h4, g4⟩
  have k4 := k3.own g4 lB.out
  go_wp2_with fail
  refine Calls.mono (HO.out w4 B _ 1 4 h4 (M2.Ok.out (p := 1) (v := 64) (M2.Ok.out (p := 0) (v := 17) m00_ok ⟨by decide, by decide⟩) ⟨by decide, by decide⟩) ⟨by decide, by decide, by decide, by decide⟩) ?_; rintro e w5 ⟨rfl, h5, g5⟩
  have k5 := k4.own g5 lB.out
  go_wp2_with fail
  refine Calls.mono (HO.out w5 B _ 1 1 h5 (M2.Ok.out (p := 1) (v := 4) (M2.Ok.out (p := 1) (v := 64) (M2.Ok.out (p := 0) (v := 17) m00_ok ⟨by decide, by decide⟩) ⟨by decide, by decide⟩) ⟨by decide, by decide⟩) ⟨by decide, by decide, by decide, by decide⟩) ?_; rintro e w6 ⟨rfl, h6, g6⟩
  have k6 := k5.own g6 lB.out
  rw [endS_f] at h6
  clear h2 h3 h4 h5 g3 g4 g5 g6 k2 k3 k4 k5
  go_wp2_with fail
  go_loopw [10, 12] (fun s10 s12 wr => ∃ i : Nat, s10 = .int .i64 (if i = 0 then 0 else 1) ∧ s12 = .int .i64 i ∧ (i : Int) ≤ 1 + t ∧ PAt wr B (if i = 0 then endS false else endT 3) ∧ Kp noB W wr) (fun _ s12 _ => (1 + t - intOf s12).toNat)
  case atStart => exact ⟨0, rfl, rfl, by omega, h6, k6⟩
  case round =>
    clear h6 k6
    obtain ⟨i, rfl, rfl, hi, hr, kr⟩ := hrel
    by_cases hz : i = 0
    · subst hz
      rw [if_pos rfl] at hr
      rw [if_pos rfl]
      have hlt' : decide ((0 : Int) < 1 + t) = true := decide_eq_true (by omega)
      go_wp2_with fail
      refine Calls.mono (HL.out wr B _ 3 true hr oS.out (by decide) (by decide)) ?_; rintro e v1 ⟨rfl, j1, g1⟩
      have y1 := kr.own g1 lB.out
      go_wp2_with fail
      refine Calls.mono (HP.out v1 B _ j1 (oL.out _ oS.out true)) ?_; rintro e v2 ⟨he, g2⟩
      rw [HF.out.p1] at he; subst he
      have j2 := j1.kept g2 id
      have y2 := y1.and g2
      go_wp2_with fail
      refine Calls.mono (HK.out v2 B _ j2 (oL.out _ oS.out true)) ?_; rintro e v3 ⟨he, j3, g3⟩
      rw [HF.out.v1] at he; subst he
      have y3 := y2.own g3 lB.out
      go_wp2_with fail
      refine Calls.mono (HL.out v3 B _ 3 false j3 (oA.out _ (oL.out _ oS.out true)) (by decide) (by decide)) ?_; rintro e v4 ⟨rfl, j4, g4⟩
      have y4 := y3.own g4 lB.out
      rw [HF.out.r2] at j4
      clear g1 g2 g3 g4 j1 j2 j3 y1 y2 y3 hr kr
      go_wp2
      go_roundw
      case rel => exact ⟨1, by go_num, by go_num, by omega, j4, y4⟩
      case measure => simp [intOf]; omega
    · rw [if_neg hz] at hr
      rw [if_neg hz]
      by_cases hlt : (i : Int) < 1 + t
      · have hlt' : decide ((i : Int) < 1 + t) = true := decide_eq_true hlt
        go_wp2_with fail
        refine Calls.mono (HL.out wr B _ 3 true hr oT.out (by decide) (by decide)) ?_; rintro e v1 ⟨rfl, j1, g1⟩
        have y1 := kr.own g1 lB.out
        go_wp2_with fail
        refine Calls.mono (HP.out v1 B _ j1 (oL.out _ oT.out true)) ?_; rintro e v2 ⟨he, g2⟩
        rw [HF.out.p3] at he; subst he
        have j2 := j1.kept g2 id
        have y2 := y1.and g2
        go_wp2_with fail
        refine Calls.mono (HL.out v2 B _ 3 false j2 (oL.out _ oT.out true) (by decide) (by decide)) ?_; rintro e v4 ⟨rfl, j4, g4⟩
        have y4 := y2.own g4 lB.out
        rw [HF.out.r3] at j4
        clear g1 g2 g4 j1 j2 y1 y2 hr kr
        go_wp2
        go_roundw
        case rel => exact ⟨i + 1, by rw [if_neg (by omega)], by go_num, by omega, by rw [if_neg (by omega)]; exact j4, y4⟩
        case measure => simp [intOf]; omega
      · have hlt' : decide ((i : Int) < 1 + t) = false := decide_eq_false hlt
        go_wp2_with fail
        refine Calls.mono (HL.out wr B _ 3 true hr oT.out (by decide) (by decide)) ?_; rintro e v1 ⟨rfl, j1, g1⟩
        have y1 := kr.own g1 lB.out
        go_wp2_with fail
        refine Calls.mono (HP.out v1 B _ j1 (oL.out _ oT.out true)) ?_; rintro e v2 ⟨he, g2⟩
        rw [HF.out.p3] at he; subst he
        have j2 := j1.kept g2 id
        have y2 := y1.and g2
        go_wp2_with fail
        refine Calls.mono (HO.out v2 B _ 0 32 j2 (oL.out _ oT.out true) ⟨by decide, by decide, by decide, by decide⟩) ?_; rintro e v3 ⟨rfl, j3, g3⟩
        have y3 := y2.own g3 lB.out
        go_wp2_with fail
        refine Calls.mono (HP.out v3 B _ j3 (M2.Ok.out (p := 0) (v := 32) (oL.out _ oT.out true) ⟨by decide, by decide⟩)) ?_; rintro e v4 ⟨he, g4⟩
        rw [HF.out.p4] at he; subst he
        have y4 := y3.and g4
        go_wp2
        go_ret
        exact ⟨rfl, HB.out _ y4⟩

set_option maxRecDepth 20000 in
set_option maxHeartbeats 2000000 in
theorem PicEnds_pn00 (W : World) (line times l t : Int) (l0 : -9223372036854775808 ≤ line) (l1 : line ≤ 9223372036854775807) (t0 : -9223372036854775808 ≤ times) (t1 : times ≤ 9223372036854775807) (gl : decide (line < 0) = false) (hl : line.tmod 8 = l) (gt : decide (times < 0) = true) (ht : -(times + 1).tmod 20 = t) (q0 : 0 ≤ l) (q1 : l < 8) (q2 : (l == 2) = false) (r0 : 0 ≤ t) (r1 : t < 20) : Calls Try.prog 7 #[.int .i64 line, .int .i64 times, .bool false] W fun e w' => e = .returned (.bool true) ∧ Below W.heap.size W w' := by
  have gl0 : 0 ≤ line := by simpa using gl
  have gt0 : times < 0 := by simpa using gt
  have HA : Hid (∀ w, _) := awake_ok
  have HN : Hid (∀ w, Calls Try.prog 9 #[] w fun e w' => e = .returned (.pointer (some ⟨w.heap.size, 0, none⟩)) ∧ PAt w' w.heap.size m00 ∧ Kp noB w w') := fun w => new_ok w
  have HO : Hid (∀ (w : World) (B : Nat) (m : M2) (p v : Int), PAt w B m → m.Ok → 0 ≤ p ∧ p < 4 ∧ By v → _) := fun w B m p v h k g => out_ok w B m h k p v g.1 g.2.1 g.2.2
  have HL : Hid (∀ (w : World) (B : Nat) (m : M2) (n : Int) (u : Bool), PAt w B m → m.Ok → 0 ≤ n → n < 16 → _) := fun w B m n u h k n0 n1 => line_ok w B m h k n u n0 n1
  have HP : Hid (∀ (w : World) (B : Nat) (m : M2), PAt w B m → m.Ok → _) := fun w B m h k => pend_ok w B m h k.a
  have HK : Hid (∀ (w : World) (B : Nat) (m : M2), PAt w B m → m.Ok → _) := fun w B m h k => ack_ok w B m h k
  have HB : Hid (∀ w', Kp noB W w' → Below W.heap.size W w') := fun w' h => h.every
  have HF : Hid (EndF l) := endF q0 q1 (by simpa using q2)
  have oS : Hid (endS false).Ok := endS_ok _
  have oT : Hid (endT l).Ok := endT_ok q0 q1
  have oL : Hid (∀ m : M2, m.Ok → ∀ u, (m.line l u).Ok) := fun m k u => k.line q0 (by omega) u
  have oA : Hid (∀ m : M2, m.Ok → m.ack.Ok) := fun m k => k.ack
  go_enter Try.func7, Try.ntmps7
  go_wp2_with fail
  refine Calls.mono (HA.out _) ?_; rintro e w1 ⟨rfl, g1⟩
  go_wp2_with fail
  refine Calls.mono (HN.out _) ?_; rintro e w2 ⟨rfl, h2, g2⟩
  have k2 := g1.trans g2
  obtain ⟨B, hB⟩ : ∃ B, B = w1.heap.size := ⟨_, rfl⟩
  rw [← hB] at h2 ⊢
  have lB : Hid (W.heap.size ≤ B) := by rw [hB]; exact g1.size
  clear hB g1 g2
  go_wp2_with fail
  refine Calls.mono (HO.out w2 B _ 0 17 h2 m00_ok ⟨by decide, by decide, by decide, by decide⟩) ?_; rintro e w3 ⟨rfl, h3, g3⟩
  have k3 := k2.own g3 lB.out
  go_wp2_with fail
  refine Calls.mono (HO.out w3 B _ 1 64 h3 (M2.Ok.out (p := 0) (v := 17) m00_ok ⟨by decide, by decide⟩) ⟨by decide, by decide, by decide, by decide⟩) ?_; rintro e w4 ⟨rfl, h4, g4⟩
  have k4 := k3.own g4 lB.out
  go_wp2_with fail
  refine Calls.mono (HO.out w4 B _ 1 4 h4 (M2.Ok.out (p := 1) (v := 64) (M2.Ok.out (p := 0) (v := 17) m00_ok ⟨by decide, by decide⟩) ⟨by decide, by decide⟩) ⟨by decide, by decide, by decide, by decide⟩) ?_; rintro e w5 ⟨rfl, h5, g5⟩
  have k5 := k4.own g5 lB.out
  go_wp2_with fail
  refine Calls.mono (HO.out w5 B _ 1 1 h5 (M2.Ok.out (p := 1) (v := 4) (M2.Ok.out (p := 1) (v := 64) (M2.Ok.out (p := 0) (v := 17) m00_ok ⟨by decide, by decide⟩) ⟨by decide, by decide⟩) ⟨by decide, by decide⟩) ⟨by decide, by decide, by decide, by decide⟩) ?_; rintro e w6 ⟨rfl, h6, g6⟩
  have k6 := k5.own g6 lB.out
  rw [endS_f] at h6
  clear h2 h3 h4 h5 g3 g4 g5 g6 k2 k3 k4 k5
  go_wp2_with fail
  go_loopw [10, 12] (fun s10 s12 wr => ∃ i : Nat, s10 = .int .i64 (if i = 0 then 0 else 1) ∧ s12 = .int .i64 i ∧ (i : Int) ≤ 1 + t ∧ PAt wr B (if i = 0 then endS false else endT l) ∧ Kp noB W wr) (fun _ s12 _ => (1 + t - intOf s12).toNat)
  case atStart => exact ⟨0, rfl, rfl, by omega, h6, k6⟩
  case round =>
    clear h6 k6
    obtain ⟨i, rfl, rfl, hi, hr, kr⟩ := hrel
    by_cases hz : i = 0
    · subst hz
      rw [if_pos rfl] at hr
      rw [if_pos rfl]
      have hlt' : decide ((0 : Int) < 1 + t) = true := decide_eq_true (by omega)
      go_wp2_with fail
      refine Calls.mono (HL.out wr B _ l true hr oS.out q0 (by omega)) ?_; rintro e v1 ⟨rfl, j1, g1⟩
      have y1 := kr.own g1 lB.out
      go_wp2_with fail
      refine Calls.mono (HP.out v1 B _ j1 (oL.out _ oS.out true)) ?_; rintro e v2 ⟨he, g2⟩
      rw [HF.out.p1] at he; subst he
      have j2 := j1.kept g2 id
      have y2 := y1.and g2
      go_wp2_with fail
      refine Calls.mono (HK.out v2 B _ j2 (oL.out _ oS.out true)) ?_; rintro e v3 ⟨he, j3, g3⟩
      rw [HF.out.v1] at he; subst he
      have y3 := y2.own g3 lB.out
      go_wp2_with fail
      refine Calls.mono (HL.out v3 B _ l false j3 (oA.out _ (oL.out _ oS.out true)) q0 (by omega)) ?_; rintro e v4 ⟨rfl, j4, g4⟩
      have y4 := y3.own g4 lB.out
      rw [HF.out.r2] at j4
      clear g1 g2 g3 g4 j1 j2 j3 y1 y2 y3 hr kr
      go_wp2
      go_roundw
      case rel => exact ⟨1, by go_num, by go_num, by omega, j4, y4⟩
      case measure => simp [intOf]; omega
    · rw [if_neg hz] at hr
      rw [if_neg hz]
      by_cases hlt : (i : Int) < 1 + t
      · have hlt' : decide ((i : Int) < 1 + t) = true := decide_eq_true hlt
        go_wp2_with fail
        refine Calls.mono (HL.out wr B _ l true hr oT.out q0 (by omega)) ?_; rintro e v1 ⟨rfl, j1, g1⟩
        have y1 := kr.own g1 lB.out
        go_wp2_with fail
        refine Calls.mono (HP.out v1 B _ j1 (oL.out _ oT.out true)) ?_; rintro e v2 ⟨he, g2⟩
        rw [HF.out.p3] at he; subst he
        have j2 := j1.kept g2 id
        have y2 := y1.and g2
        go_wp2_with fail
        refine Calls.mono (HL.out v2 B _ l false j2 (oL.out _ oT.out true) q0 (by omega)) ?_; rintro e v4 ⟨rfl, j4, g4⟩
        have y4 := y2.own g4 lB.out
        rw [HF.out.r3] at j4
        clear g1 g2 g4 j1 j2 y1 y2 hr kr
        go_wp2
        go_roundw
        case rel => exact ⟨i + 1, by rw [if_neg (by omega)], by go_num, by omega, by rw [if_neg (by omega)]; exact j4, y4⟩
        case measure => simp [intOf]; omega
      · have hlt' : decide ((i : Int) < 1 + t) = false := decide_eq_false hlt
        go_wp2_with fail
        refine Calls.mono (HL.out wr B _ l true hr oT.out q0 (by omega)) ?_; rintro e v1 ⟨rfl, j1, g1⟩
        have y1 := kr.own g1 lB.out
        go_wp2_with fail
        refine Calls.mono (HP.out v1 B _ j1 (oL.out _ oT.out true)) ?_; rintro e v2 ⟨he, g2⟩
        rw [HF.out.p3] at he; subst he
        have j2 := j1.kept g2 id
        have y2 := y1.and g2
        go_wp2_with fail
        refine Calls.mono (HO.out v2 B _ 0 32 j2 (oL.out _ oT.out true) ⟨by decide, by decide, by decide, by decide⟩) ?_; rintro e v3 ⟨rfl, j3, g3⟩
        have y3 := y2.own g3 lB.out
        go_wp2_with fail
        refine Calls.mono (HP.out v3 B _ j3 (M2.Ok.out (p := 0) (v := 32) (oL.out _ oT.out true) ⟨by decide, by decide⟩)) ?_; rintro e v4 ⟨he, g4⟩
        rw [HF.out.p4] at he; subst he
        have y4 := y3.and g4
        go_wp2
        go_ret
        exact ⟨rfl, HB.out _ y4⟩

set_option maxRecDepth 20000 in
set_option maxHeartbeats 2000000 in
theorem PicEnds_pp11 (W : World) (line times l t : Int) (l0 : -9223372036854775808 ≤ line) (l1 : line ≤ 9223372036854775807) (t0 : -9223372036854775808 ≤ times) (t1 : times ≤ 9223372036854775807) (gl : decide (line < 0) = false) (hl : line.tmod 8 = l) (gt : decide (times < 0) = false) (ht : times.tmod 20 = t) (q0 : 0 ≤ l) (q1 : l < 8) (q2 : (l == 2) = true) (r0 : 0 ≤ t) (r1 : t < 20) : Calls Try.prog 7 #[.int .i64 line, .int .i64 times, .bool true] W fun e w' => e = .returned (.bool true) ∧ Below W.heap.size W w' := by
  have gl0 : 0 ≤ line := by simpa using gl
  have gt0 : 0 ≤ times := by simpa using gt
  have HA : Hid (∀ w, _) := awake_ok
  have HN : Hid (∀ w, Calls Try.prog 9 #[] w fun e w' => e = .returned (.pointer (some ⟨w.heap.size, 0, none⟩)) ∧ PAt w' w.heap.size m00 ∧ Kp noB w w') := fun w => new_ok w
  have HO : Hid (∀ (w : World) (B : Nat) (m : M2) (p v : Int), PAt w B m → m.Ok → 0 ≤ p ∧ p < 4 ∧ By v → _) := fun w B m p v h k g => out_ok w B m h k p v g.1 g.2.1 g.2.2
  have HL : Hid (∀ (w : World) (B : Nat) (m : M2) (n : Int) (u : Bool), PAt w B m → m.Ok → 0 ≤ n → n < 16 → _) := fun w B m n u h k n0 n1 => line_ok w B m h k n u n0 n1
  have HP : Hid (∀ (w : World) (B : Nat) (m : M2), PAt w B m → m.Ok → _) := fun w B m h k => pend_ok w B m h k.a
  have HK : Hid (∀ (w : World) (B : Nat) (m : M2), PAt w B m → m.Ok → _) := fun w B m h k => ack_ok w B m h k
  have HB : Hid (∀ w', Kp noB W w' → Below W.heap.size W w') := fun w' h => h.every
  have HF : Hid (EndF 3) := endF (by decide) (by decide) (by decide)
  have oS : Hid (endS true).Ok := endS_ok _
  have oT : Hid (endT 3).Ok := endT_ok (by decide) (by decide)
  have oL : Hid (∀ m : M2, m.Ok → ∀ u, (m.line 3 u).Ok) := fun m k u => k.line (by decide) (by decide) u
  have oA : Hid (∀ m : M2, m.Ok → m.ack.Ok) := fun m k => k.ack
  go_enter Try.func7, Try.ntmps7
  go_wp2_with fail
  refine Calls.mono (HA.out _) ?_; rintro e w1 ⟨rfl, g1⟩
  go_wp2_with fail
  refine Calls.mono (HN.out _) ?_; rintro e w2 ⟨rfl, h2, g2⟩
  have k2 := g1.trans g2
  obtain ⟨B, hB⟩ : ∃ B, B = w1.heap.size := ⟨_, rfl⟩
  rw [← hB] at h2 ⊢
  have lB : Hid (W.heap.size ≤ B) := by rw [hB]; exact g1.size
  clear hB g1 g2
  go_wp2_with fail
  refine Calls.mono (HO.out w2 B _ 0 17 h2 m00_ok ⟨by decide, by decide, by decide, by decide⟩) ?_; rintro e w3 ⟨rfl, h3, g3⟩
  have k3 := k2.own g3 lB.out
  go_wp2_with fail
  refine Calls.mono (HO.out w3 B _ 1 64 h3 (M2.Ok.out (p := 0) (v := 17) m00_ok ⟨by decide, by decide⟩) ⟨by decide, by decide, by decide, by decide⟩) ?_; rintro e w4 ⟨rfl, h4, g4⟩
  have k4 := k3.own g4 lB.out
  go_wp2_with fail
  refine Calls.mono (HO.out w4 B _ 1 4 h4 (M2.Ok.out (p := 1) (v := 64) (M2.Ok.out (p := 0) (v := 17) m00_ok ⟨by decide, by decide⟩) ⟨by decide, by decide⟩) ⟨by decide, by decide, by decide, by decide⟩) ?_; rintro e w5 ⟨rfl, h5, g5⟩
  have k5 := k4.own g5 lB.out
  go_wp2_with fail
  refine Calls.mono (HO.out w5 B _ 1 3 h5 (M2.Ok.out (p := 1) (v := 4) (M2.Ok.out (p := 1) (v := 64) (M2.Ok.out (p := 0) (v := 17) m00_ok ⟨by decide, by decide⟩) ⟨by decide, by decide⟩) ⟨by decide, by decide⟩) ⟨by decide, by decide, by decide, by decide⟩) ?_; rintro e w6 ⟨rfl, h6, g6⟩
  have k6 := k5.own g6 lB.out
  rw [endS_t] at h6
  clear h2 h3 h4 h5 g3 g4 g5 g6 k2 k3 k4 k5
  go_wp2_with fail
  go_loopw [10, 12] (fun s10 s12 wr => ∃ i : Nat, s10 = .int .i64 i ∧ s12 = .int .i64 i ∧ (i : Int) ≤ 1 + t ∧ PAt wr B (endS true) ∧ Kp noB W wr) (fun _ s12 _ => (1 + t - intOf s12).toNat)
  case atStart => exact ⟨0, rfl, rfl, by omega, h6, k6⟩
  case round =>
    clear h6 k6
    obtain ⟨i, rfl, rfl, hi, hr, kr⟩ := hrel
    by_cases hlt : (i : Int) < 1 + t
    · have hlt' : decide ((i : Int) < 1 + t) = true := decide_eq_true hlt
      go_wp2_with fail
      refine Calls.mono (HL.out wr B _ 3 true hr oS.out (by decide) (by decide)) ?_; rintro e v1 ⟨rfl, j1, g1⟩
      have y1 := kr.own g1 lB.out
      go_wp2_with fail
      refine Calls.mono (HP.out v1 B _ j1 (oL.out _ oS.out true)) ?_; rintro e v2 ⟨he, g2⟩
      rw [HF.out.p1] at he; subst he
      have j2 := j1.kept g2 id
      have y2 := y1.and g2
      go_wp2_with fail
      refine Calls.mono (HK.out v2 B _ j2 (oL.out _ oS.out true)) ?_; rintro e v3 ⟨he, j3, g3⟩
      rw [HF.out.v1] at he; subst he
      have y3 := y2.own g3 lB.out
      go_wp2_with fail
      refine Calls.mono (HL.out v3 B _ 3 false j3 (oA.out _ (oL.out _ oS.out true)) (by decide) (by decide)) ?_; rintro e v4 ⟨rfl, j4, g4⟩
      have y4 := y3.own g4 lB.out
      rw [HF.out.r1] at j4
      clear g1 g2 g3 g4 j1 j2 j3 y1 y2 y3 hr kr
      go_wp2
      go_roundw
      case rel => exact ⟨i + 1, by go_num, by go_num, by omega, j4, y4⟩
      case measure => simp [intOf]; omega
    · have hlt' : decide ((i : Int) < 1 + t) = false := decide_eq_false hlt
      have he2 : ((i : Int) == 1 + t) = true := by simp; omega
      go_wp2_with fail
      refine Calls.mono (HP.out wr B _ hr oS.out) ?_; rintro e v2 ⟨he, g2⟩
      rw [HF.out.p2] at he; subst he
      have y2 := kr.and g2
      go_wp2
      go_ret
      exact ⟨rfl, HB.out _ y2⟩

set_option maxRecDepth 20000 in
set_option maxHeartbeats 2000000 in
theorem PicEnds_pp10 (W : World) (line times l t : Int) (l0 : -9223372036854775808 ≤ line) (l1 : line ≤ 9223372036854775807) (t0 : -9223372036854775808 ≤ times) (t1 : times ≤ 9223372036854775807) (gl : decide (line < 0) = false) (hl : line.tmod 8 = l) (gt : decide (times < 0) = false) (ht : times.tmod 20 = t) (q0 : 0 ≤ l) (q1 : l < 8) (q2 : (l == 2) = false) (r0 : 0 ≤ t) (r1 : t < 20) : Calls Try.prog 7 #[.int .i64 line, .int .i64 times, .bool true] W fun e w' => e = .returned (.bool true) ∧ Below W.heap.size W w' := by
  have gl0 : 0 ≤ line := by simpa using gl
  have gt0 : 0 ≤ times := by simpa using gt
  have HA : Hid (∀ w, _) := awake_ok
  have HN : Hid (∀ w, Calls Try.prog 9 #[] w fun e w' => e = .returned (.pointer (some ⟨w.heap.size, 0, none⟩)) ∧ PAt w' w.heap.size m00 ∧ Kp noB w w') := fun w => new_ok w
  have HO : Hid (∀ (w : World) (B : Nat) (m : M2) (p v : Int), PAt w B m → m.Ok → 0 ≤ p ∧ p < 4 ∧ By v → _) := fun w B m p v h k g => out_ok w B m h k p v g.1 g.2.1 g.2.2
  have HL : Hid (∀ (w : World) (B : Nat) (m : M2) (n : Int) (u : Bool), PAt w B m → m.Ok → 0 ≤ n → n < 16 → _) := fun w B m n u h k n0 n1 => line_ok w B m h k n u n0 n1
  have HP : Hid (∀ (w : World) (B : Nat) (m : M2), PAt w B m → m.Ok → _) := fun w B m h k => pend_ok w B m h k.a
  have HK : Hid (∀ (w : World) (B : Nat) (m : M2), PAt w B m → m.Ok → _) := fun w B m h k => ack_ok w B m h k
  have HB : Hid (∀ w', Kp noB W w' → Below W.heap.size W w') := fun w' h => h.every
  have HF : Hid (EndF l) := endF q0 q1 (by simpa using q2)
  have oS : Hid (endS true).Ok := endS_ok _
  have oT : Hid (endT l).Ok := endT_ok q0 q1
  have oL : Hid (∀ m : M2, m.Ok → ∀ u, (m.line l u).Ok) := fun m k u => k.line q0 (by omega) u
  have oA : Hid (∀ m : M2, m.Ok → m.ack.Ok) := fun m k => k.ack
  go_enter Try.func7, Try.ntmps7
  go_wp2_with fail
  refine Calls.mono (HA.out _) ?_; rintro e w1 ⟨rfl, g1⟩
  go_wp2_with fail
  refine Calls.mono (HN.out _) ?_; rintro e w2 ⟨rfl, h2, g2⟩
  have k2 := g1.trans g2
  obtain ⟨B, hB⟩ : ∃ B, B = w1.heap.size := ⟨_, rfl⟩
  rw [← hB] at h2 ⊢
  have lB : Hid (W.heap.size ≤ B) := by rw [hB]; exact g1.size
  clear hB g1 g2
  go_wp2_with fail
  refine Calls.mono (HO.out w2 B _ 0 17 h2 m00_ok ⟨by decide, by decide, by decide, by decide⟩) ?_; rintro e w3 ⟨rfl, h3, g3⟩
  have k3 := k2.own g3 lB.out
  go_wp2_with fail
  refine Calls.mono (HO.out w3 B _ 1 64 h3 (M2.Ok.out (p := 0) (v := 17) m00_ok ⟨by decide, by decide⟩) ⟨by decide, by decide, by decide, by decide⟩) ?_; rintro e w4 ⟨rfl, h4, g4⟩
  have k4 := k3.own g4 lB.out
  go_wp2_with fail
  refine Calls.mono (HO.out w4 B _ 1 4 h4 (M2.Ok.out (p := 1) (v := 64) (M2.Ok.out (p := 0) (v := 17) m00_ok ⟨by decide, by decide⟩) ⟨by decide, by decide⟩) ⟨by decide, by decide, by decide, by decide⟩) ?_; rintro e w5 ⟨rfl, h5, g5⟩
  have k5 := k4.own g5 lB.out
  go_wp2_with fail
  refine Calls.mono (HO.out w5 B _ 1 3 h5 (M2.Ok.out (p := 1) (v := 4) (M2.Ok.out (p := 1) (v := 64) (M2.Ok.out (p := 0) (v := 17) m00_ok ⟨by decide, by decide⟩) ⟨by decide, by decide⟩) ⟨by decide, by decide⟩) ⟨by decide, by decide, by decide, by decide⟩) ?_; rintro e w6 ⟨rfl, h6, g6⟩
  have k6 := k5.own g6 lB.out
  rw [endS_t] at h6
  clear h2 h3 h4 h5 g3 g4 g5 g6 k2 k3 k4 k5
  go_wp2_with fail
  go_loopw [10, 12] (fun s10 s12 wr => ∃ i : Nat, s10 = .int .i64 i ∧ s12 = .int .i64 i ∧ (i : Int) ≤ 1 + t ∧ PAt wr B (endS true) ∧ Kp noB W wr) (fun _ s12 _ => (1 + t - intOf s12).toNat)
  case atStart => exact ⟨0, rfl, rfl, by omega, h6, k6⟩
  case round =>
    clear h6 k6
    obtain ⟨i, rfl, rfl, hi, hr, kr⟩ := hrel
    by_cases hlt : (i : Int) < 1 + t
    · have hlt' : decide ((i : Int) < 1 + t) = true := decide_eq_true hlt
      go_wp2_with fail
      refine Calls.mono (HL.out wr B _ l true hr oS.out q0 (by omega)) ?_; rintro e v1 ⟨rfl, j1, g1⟩
      have y1 := kr.own g1 lB.out
      go_wp2_with fail
      refine Calls.mono (HP.out v1 B _ j1 (oL.out _ oS.out true)) ?_; rintro e v2 ⟨he, g2⟩
      rw [HF.out.p1] at he; subst he
      have j2 := j1.kept g2 id
      have y2 := y1.and g2
      go_wp2_with fail
      refine Calls.mono (HK.out v2 B _ j2 (oL.out _ oS.out true)) ?_; rintro e v3 ⟨he, j3, g3⟩
      rw [HF.out.v1] at he; subst he
      have y3 := y2.own g3 lB.out
      go_wp2_with fail
      refine Calls.mono (HL.out v3 B _ l false j3 (oA.out _ (oL.out _ oS.out true)) q0 (by omega)) ?_; rintro e v4 ⟨rfl, j4, g4⟩
      have y4 := y3.own g4 lB.out
      rw [HF.out.r1] at j4
      clear g1 g2 g3 g4 j1 j2 j3 y1 y2 y3 hr kr
      go_wp2
      go_roundw
      case rel => exact ⟨i + 1, by go_num, by go_num, by omega, j4, y4⟩
      case measure => simp [intOf]; omega
    · have hlt' : decide ((i : Int) < 1 + t) = false := decide_eq_false hlt
      have he2 : ((i : Int) == 1 + t) = true := by simp; omega
      go_wp2_with fail
      refine Calls.mono (HP.out wr B _ hr oS.out) ?_; rintro e v2 ⟨he, g2⟩
      rw [HF.out.p2] at he; subst he
      have y2 := kr.and g2
      go_wp2
      go_ret
      exact ⟨rfl, HB.out _ y2⟩

set_option maxRecDepth 20000 in
set_option maxHeartbeats 2000000 in
theorem PicEnds_pp01 (W : World) (line times l t : Int) (l0 : -9223372036854775808 ≤ line) (l1 : line ≤ 9223372036854775807) (t0 : -9223372036854775808 ≤ times) (t1 : times ≤ 9223372036854775807) (gl : decide (line < 0) = false) (hl : line.tmod 8 = l) (gt : decide (times < 0) = false) (ht : times.tmod 20 = t) (q0 : 0 ≤ l) (q1 : l < 8) (q2 : (l == 2) = true) (r0 : 0 ≤ t) (r1 : t < 20) : Calls Try.prog 7 #[.int .i64 line, .int .i64 times, .bool false] W fun e w' => e = .returned (.bool true) ∧ Below W.heap.size W w' := by
  have gl0 : 0 ≤ line := by simpa using gl
  have gt0 : 0 ≤ times := by simpa using gt
  have HA : Hid (∀ w, _) := awake_ok
  have HN : Hid (∀ w, Calls Try.prog 9 #[] w fun e w' => e = .returned (.pointer (some ⟨w.heap.size, 0, none⟩)) ∧ PAt w' w.heap.size m00 ∧ Kp noB w w') := fun w => new_ok w
  have HO : Hid (∀ (w : World) (B : Nat) (m : M2) (p v : Int), PAt w B m → m.Ok → 0 ≤ p ∧ p < 4 ∧ By v → _) := fun w B m p v h k g => out_ok w B m h k p v g.1 g.2.1 g.2.2
  have HL : Hid (∀ (w : World) (B : Nat) (m : M2) (n : Int) (u : Bool), PAt w B m → m.Ok → 0 ≤ n → n < 16 → _) := fun w B m n u h k n0 n1 => line_ok w B m h k n u n0 n1
  have HP : Hid (∀ (w : World) (B : Nat) (m : M2), PAt w B m → m.Ok → _) := fun w B m h k => pend_ok w B m h k.a
  have HK : Hid (∀ (w : World) (B : Nat) (m : M2), PAt w B m → m.Ok → _) := fun w B m h k => ack_ok w B m h k
  have HB : Hid (∀ w', Kp noB W w' → Below W.heap.size W w') := fun w' h => h.every
  have HF : Hid (EndF 3) := endF (by decide) (by decide) (by decide)
  have oS : Hid (endS false).Ok := endS_ok _
  have oT : Hid (endT 3).Ok := endT_ok (by decide) (by decide)
  have oL : Hid (∀ m : M2, m.Ok → ∀ u, (m.line 3 u).Ok) := fun m k u => k.line (by decide) (by decide) u
  have oA : Hid (∀ m : M2, m.Ok → m.ack.Ok) := fun m k => k.ack
  go_enter Try.func7, Try.ntmps7
  go_wp2_with fail
  refine Calls.mono (HA.out _) ?_; rintro e w1 ⟨rfl, g1⟩
  go_wp2_with fail
  refine Calls.mono (HN.out _) ?_; rintro e w2 ⟨rfl, h2, g2⟩
  have k2 := g1.trans g2
  obtain ⟨B, hB⟩ : ∃ B, B = w1.heap.size := ⟨_, rfl⟩
  rw [← hB] at h2 ⊢
  have lB : Hid (W.heap.size ≤ B) := by rw [hB]; exact g1.size
  clear hB g1 g2
  go_wp2_with fail
  refine Calls.mono (HO.out w2 B _ 0 17 h2 m00_ok ⟨by decide, by decide, by decide, by decide⟩) ?_; rintro e w3 ⟨rfl, h3, g3⟩
  have k3 := k2.own g3 lB.out
  go_wp2_with fail
  refine Calls.mono (HO.out w3 B _ 1 64 h3 (M2.Ok.out (p := 0) (v := 17) m00_ok ⟨by decide, by decide⟩) ⟨by decide, by decide, by decide, by decide⟩) ?_; rintro e w4 ⟨rfl, h4, g4⟩
  have k4 := k3.own g4 lB.out
  go_wp2_with fail
  refine Calls.mono (HO.out w4 B _ 1 4 h4 (M2.Ok.out (p := 1) (v := 64) (M2.Ok.out (p := 0) (v := 17) m00_ok ⟨by decide, by decide⟩) ⟨by decide, by decide⟩) ⟨by decide, by decide, by decide, by decide⟩) ?_; rintro e w5 ⟨rfl, h5, g5⟩
  have k5 := k4.own g5 lB.out
  go_wp2_with fail
  refine Calls.mono (HO.out w5 B _ 1 1 h5 (M2.Ok.out (p := 1) (v := 4) (M2.Ok.out (p := 1) (v := 64) (M2.Ok.out (p := 0) (v := 17) m00_ok ⟨by decide, by decide⟩) ⟨by decide, by decide⟩) ⟨by decide, by decide⟩) ⟨by decide, by decide, by decide, by decide⟩) ?_; rintro e w6 ⟨rfl, h6, g6⟩
  have k6 := k5.own g6 lB.out
  rw [endS_f] at h6
  clear h2 h3 h4 h5 g3 g4 g5 g6 k2 k3 k4 k5
  go_wp2_with fail
  go_loopw [10, 12] (fun s10 s12 wr => ∃ i : Nat, s10 = .int .i64 (if i = 0 then 0 else 1) ∧ s12 = .int .i64 i ∧ (i : Int) ≤ 1 + t ∧ PAt wr B (if i = 0 then endS false else endT 3) ∧ Kp noB W wr) (fun _ s12 _ => (1 + t - intOf s12).toNat)
  case atStart => exact ⟨0, rfl, rfl, by omega, h6, k6⟩
  case round =>
    clear h6 k6
    obtain ⟨i, rfl, rfl, hi, hr, kr⟩ := hrel
    by_cases hz : i = 0
    · subst hz
      rw [if_pos rfl] at hr
      rw [if_pos rfl]
      have hlt' : decide ((0 : Int) < 1 + t) = true := decide_eq_true (by omega)
      go_wp2_with fail
      refine Calls.mono (HL.out wr B _ 3 true hr oS.out (by decide) (by decide)) ?_; rintro e v1 ⟨rfl, j1, g1⟩
      have y1 := kr.own g1 lB.out
      go_wp2_with fail
      refine Calls.mono (HP.out v1 B _ j1 (oL.out _ oS.out true)) ?_; rintro e v2 ⟨he, g2⟩
      rw [HF.out.p1] at he; subst he
      have j2 := j1.kept g2 id
      have y2 := y1.and g2
      go_wp2_with fail
      refine Calls.mono (HK.out v2 B _ j2 (oL.out _ oS.out true)) ?_; rintro e v3 ⟨he, j3, g3⟩
      rw [HF.out.v1] at he; subst he
      have y3 := y2.own g3 lB.out
      go_wp2_with fail
      refine Calls.mono (HL.out v3 B _ 3 false j3 (oA.out _ (oL.out _ oS.out true)) (by decide) (by decide)) ?_; rintro e v4 ⟨rfl, j4, g4⟩
      have y4 := y3.own g4 lB.out
      rw [HF.out.r2] at j4
      clear g1 g2 g3 g4 j1 j2 j3 y1 y2 y3 hr kr
      go_wp2
      go_roundw
      case rel => exact ⟨1, by go_num, by go_num, by omega, j4, y4⟩
      case measure => simp [intOf]; omega
    · rw [if_neg hz] at hr
      rw [if_neg hz]
      by_cases hlt : (i : Int) < 1 + t
      · have hlt' : decide ((i : Int) < 1 + t) = true := decide_eq_true hlt
        go_wp2_with fail
        refine Calls.mono (HL.out wr B _ 3 true hr oT.out (by decide) (by decide)) ?_; rintro e v1 ⟨rfl, j1, g1⟩
        have y1 := kr.own g1 lB.out
        go_wp2_with fail
        refine Calls.mono (HP.out v1 B _ j1 (oL.out _ oT.out true)) ?_; rintro e v2 ⟨he, g2⟩
        rw [HF.out.p3] at he; subst he
        have j2 := j1.kept g2 id
        have y2 := y1.and g2
        go_wp2_with fail
        refine Calls.mono (HL.out v2 B _ 3 false j2 (oL.out _ oT.out true) (by decide) (by decide)) ?_; rintro e v4 ⟨rfl, j4, g4⟩
        have y4 := y2.own g4 lB.out
        rw [HF.out.r3] at j4
        clear g1 g2 g4 j1 j2 y1 y2 hr kr
        go_wp2
        go_roundw
        case rel => exact ⟨i + 1, by rw [if_neg (by omega)], by go_num, by omega, by rw [if_neg (by omega)]; exact j4, y4⟩
        case measure => simp [intOf]; omega
      · have hlt' : decide ((i : Int) < 1 + t) = false := decide_eq_false hlt
        go_wp2_with fail
        refine Calls.mono (HL.out wr B _ 3 true hr oT.out (by decide) (by decide)) ?_; rintro e v1 ⟨rfl, j1, g1⟩
        have y1 := kr.own g1 lB.out
        go_wp2_with fail
        refine Calls.mono (HP.out v1 B _ j1 (oL.out _ oT.out true)) ?_; rintro e v2 ⟨he, g2⟩
        rw [HF.out.p3] at he; subst he
        have j2 := j1.kept g2 id
        have y2 := y1.and g2
        go_wp2_with fail
        refine Calls.mono (HO.out v2 B _ 0 32 j2 (oL.out _ oT.out true) ⟨by decide, by decide, by decide, by decide⟩) ?_; rintro e v3 ⟨rfl, j3, g3⟩
        have y3 := y2.own g3 lB.out
        go_wp2_with fail
        refine Calls.mono (HP.out v3 B _ j3 (M2.Ok.out (p := 0) (v := 32) (oL.out _ oT.out true) ⟨by decide, by decide⟩)) ?_; rintro e v4 ⟨he, g4⟩
        rw [HF.out.p4] at he; subst he
        have y4 := y3.and g4
        go_wp2
        go_ret
        exact ⟨rfl, HB.out _ y4⟩

set_option maxRecDepth 20000 in
set_option maxHeartbeats 2000000 in
theorem PicEnds_pp00 (W : World) (line times l t : Int) (l0 : -9223372036854775808 ≤ line) (l1 : line ≤ 9223372036854775807) (t0 : -9223372036854775808 ≤ times) (t1 : times ≤ 9223372036854775807) (gl : decide (line < 0) = false) (hl : line.tmod 8 = l) (gt : decide (times < 0) = false) (ht : times.tmod 20 = t) (q0 : 0 ≤ l) (q1 : l < 8) (q2 : (l == 2) = false) (r0 : 0 ≤ t) (r1 : t < 20) : Calls Try.prog 7 #[.int .i64 line, .int .i64 times, .bool false] W fun e w' => e = .returned (.bool true) ∧ Below W.heap.size W w' := by
  have gl0 : 0 ≤ line := by simpa using gl
  have gt0 : 0 ≤ times := by simpa using gt
  have HA : Hid (∀ w, _) := awake_ok
  have HN : Hid (∀ w, Calls Try.prog 9 #[] w fun e w' => e = .returned (.pointer (some ⟨w.heap.size, 0, none⟩)) ∧ PAt w' w.heap.size m00 ∧ Kp noB w w') := fun w => new_ok w
  have HO : Hid (∀ (w : World) (B : Nat) (m : M2) (p v : Int), PAt w B m → m.Ok → 0 ≤ p ∧ p < 4 ∧ By v → _) := fun w B m p v h k g => out_ok w B m h k p v g.1 g.2.1 g.2.2
  have HL : Hid (∀ (w : World) (B : Nat) (m : M2) (n : Int) (u : Bool), PAt w B m → m.Ok → 0 ≤ n → n < 16 → _) := fun w B m n u h k n0 n1 => line_ok w B m h k n u n0 n1
  have HP : Hid (∀ (w : World) (B : Nat) (m : M2), PAt w B m → m.Ok → _) := fun w B m h k => pend_ok w B m h k.a
  have HK : Hid (∀ (w : World) (B : Nat) (m : M2), PAt w B m → m.Ok → _) := fun w B m h k => ack_ok w B m h k
  have HB : Hid (∀ w', Kp noB W w' → Below W.heap.size W w') := fun w' h => h.every
  have HF : Hid (EndF l) := endF q0 q1 (by simpa using q2)
  have oS : Hid (endS false).Ok := endS_ok _
  have oT : Hid (endT l).Ok := endT_ok q0 q1
  have oL : Hid (∀ m : M2, m.Ok → ∀ u, (m.line l u).Ok) := fun m k u => k.line q0 (by omega) u
  have oA : Hid (∀ m : M2, m.Ok → m.ack.Ok) := fun m k => k.ack
  go_enter Try.func7, Try.ntmps7
  go_wp2_with fail
  refine Calls.mono (HA.out _) ?_; rintro e w1 ⟨rfl, g1⟩
  go_wp2_with fail
  refine Calls.mono (HN.out _) ?_; rintro e w2 ⟨rfl, h2, g2⟩
  have k2 := g1.trans g2
  obtain ⟨B, hB⟩ : ∃ B, B = w1.heap.size := ⟨_, rfl⟩
  rw [← hB] at h2 ⊢
  have lB : Hid (W.heap.size ≤ B) := by rw [hB]; exact g1.size
  clear hB g1 g2
  go_wp2_with fail
  refine Calls.mono (HO.out w2 B _ 0 17 h2 m00_ok ⟨by decide, by decide, by decide, by decide⟩) ?_; rintro e w3 ⟨rfl, h3, g3⟩
  have k3 := k2.own g3 lB.out
  go_wp2_with fail
  refine Calls.mono (HO.out w3 B _ 1 64 h3 (M2.Ok.out (p := 0) (v := 17) m00_ok ⟨by decide, by decide⟩) ⟨by decide, by decide, by decide, by decide⟩) ?_; rintro e w4 ⟨rfl, h4, g4⟩
  have k4 := k3.own g4 lB.out
  go_wp2_with fail
  refine Calls.mono (HO.out w4 B _ 1 4 h4 (M2.Ok.out (p := 1) (v := 64) (M2.Ok.out (p := 0) (v := 17) m00_ok ⟨by decide, by decide⟩) ⟨by decide, by decide⟩) ⟨by decide, by decide, by decide, by decide⟩) ?_; rintro e w5 ⟨rfl, h5, g5⟩
  have k5 := k4.own g5 lB.out
  go_wp2_with fail
  refine Calls.mono (HO.out w5 B _ 1 1 h5 (M2.Ok.out (p := 1) (v := 4) (M2.Ok.out (p := 1) (v := 64) (M2.Ok.out (p := 0) (v := 17) m00_ok ⟨by decide, by decide⟩) ⟨by decide, by decide⟩) ⟨by decide, by decide⟩) ⟨by decide, by decide, by decide, by decide⟩) ?_; rintro e w6 ⟨rfl, h6, g6⟩
  have k6 := k5.own g6 lB.out
  rw [endS_f] at h6
  clear h2 h3 h4 h5 g3 g4 g5 g6 k2 k3 k4 k5
  go_wp2_with fail
  go_loopw [10, 12] (fun s10 s12 wr => ∃ i : Nat, s10 = .int .i64 (if i = 0 then 0 else 1) ∧ s12 = .int .i64 i ∧ (i : Int) ≤ 1 + t ∧ PAt wr B (if i = 0 then endS false else endT l) ∧ Kp noB W wr) (fun _ s12 _ => (1 + t - intOf s12).toNat)
  case atStart => exact ⟨0, rfl, rfl, by omega, h6, k6⟩
  case round =>
    clear h6 k6
    obtain ⟨i, rfl, rfl, hi, hr, kr⟩ := hrel
    by_cases hz : i = 0
    · subst hz
      rw [if_pos rfl] at hr
      rw [if_pos rfl]
      have hlt' : decide ((0 : Int) < 1 + t) = true := decide_eq_true (by omega)
      go_wp2_with fail
      refine Calls.mono (HL.out wr B _ l true hr oS.out q0 (by omega)) ?_; rintro e v1 ⟨rfl, j1, g1⟩
      have y1 := kr.own g1 lB.out
      go_wp2_with fail
      refine Calls.mono (HP.out v1 B _ j1 (oL.out _ oS.out true)) ?_; rintro e v2 ⟨he, g2⟩
      rw [HF.out.p1] at he; subst he
      have j2 := j1.kept g2 id
      have y2 := y1.and g2
      go_wp2_with fail
      refine Calls.mono (HK.out v2 B _ j2 (oL.out _ oS.out true)) ?_; rintro e v3 ⟨he, j3, g3⟩
      rw [HF.out.v1] at he; subst he
      have y3 := y2.own g3 lB.out
      go_wp2_with fail
      refine Calls.mono (HL.out v3 B _ l false j3 (oA.out _ (oL.out _ oS.out true)) q0 (by omega)) ?_; rintro e v4 ⟨rfl, j4, g4⟩
      have y4 := y3.own g4 lB.out
      rw [HF.out.r2] at j4
      clear g1 g2 g3 g4 j1 j2 j3 y1 y2 y3 hr kr
      go_wp2
      go_roundw
      case rel => exact ⟨1, by go_num, by go_num, by omega, j4, y4⟩
      case measure => simp [intOf]; omega
    · rw [if_neg hz] at hr
      rw [if_neg hz]
      by_cases hlt : (i : Int) < 1 + t
      · have hlt' : decide ((i : Int) < 1 + t) = true := decide_eq_true hlt
        go_wp2_with fail
        refine Calls.mono (HL.out wr B _ l true hr oT.out q0 (by omega)) ?_; rintro e v1 ⟨rfl, j1, g1⟩
        have y1 := kr.own g1 lB.out
        go_wp2_with fail
        refine Calls.mono (HP.out v1 B _ j1 (oL.out _ oT.out true)) ?_; rintro e v2 ⟨he, g2⟩
        rw [HF.out.p3] at he; subst he
        have j2 := j1.kept g2 id
        have y2 := y1.and g2
        go_wp2_with fail
        refine Calls.mono (HL.out v2 B _ l false j2 (oL.out _ oT.out true) q0 (by omega)) ?_; rintro e v4 ⟨rfl, j4, g4⟩
        have y4 := y2.own g4 lB.out
        rw [HF.out.r3] at j4
        clear g1 g2 g4 j1 j2 y1 y2 hr kr
        go_wp2
        go_roundw
        case rel => exact ⟨i + 1, by rw [if_neg (by omega)], by go_num, by omega, by rw [if_neg (by omega)]; exact j4, y4⟩
        case measure => simp [intOf]; omega
      · have hlt' : decide ((i : Int) < 1 + t) = false := decide_eq_false hlt
        go_wp2_with fail
        refine Calls.mono (HL.out wr B _ l true hr oT.out q0 (by omega)) ?_; rintro e v1 ⟨rfl, j1, g1⟩
        have y1 := kr.own g1 lB.out
        go_wp2_with fail
        refine Calls.mono (HP.out v1 B _ j1 (oL.out _ oT.out true)) ?_; rintro e v2 ⟨he, g2⟩
        rw [HF.out.p3] at he; subst he
        have j2 := j1.kept g2 id
        have y2 := y1.and g2
        go_wp2_with fail
        refine Calls.mono (HO.out v2 B _ 0 32 j2 (oL.out _ oT.out true) ⟨by decide, by decide, by decide, by decide⟩) ?_; rintro e v3 ⟨rfl, j3, g3⟩
        have y3 := y2.own g3 lB.out
        go_wp2_with fail
        refine Calls.mono (HP.out v3 B _ j3 (M2.Ok.out (p := 0) (v := 32) (oL.out _ oT.out true) ⟨by decide, by decide⟩)) ?_; rintro e v4 ⟨he, g4⟩
        rw [HF.out.p4] at he; subst he
        have y4 := y3.and g4
        go_wp2
        go_ret
        exact ⟨rfl, HB.out _ y4⟩

theorem PicEnds_walk (W : World) (line : Int) (l0 : -9223372036854775808 ≤ line) (l1 : line ≤ 9223372036854775807) (times : Int) (t0 : -9223372036854775808 ≤ times) (t1 : times ≤ 9223372036854775807) (itself : Bool) : Calls Try.prog 7 #[.int .i64 line, .int .i64 times, .bool itself] W fun e w' => e = .returned (.bool true) ∧ Below W.heap.size W w' := by
  have eL : ∀ x : Int, 0 ≤ x → x.tmod 8 = x % 8 := fun x h => Int.tmod_eq_emod_of_nonneg h
  have eT : ∀ x : Int, 0 ≤ x → x.tmod 20 = x % 20 := fun x h => Int.tmod_eq_emod_of_nonneg h
  have nL : line < 0 → -(line + 1).tmod 8 = (-(line + 1)) % 8 := fun h => by rw [← Int.neg_tmod, eL _ (by omega)]
  have nT : times < 0 → -(times + 1).tmod 20 = (-(times + 1)) % 20 := fun h => by rw [← Int.neg_tmod, eT _ (by omega)]
  by_cases gl : line < 0 <;> by_cases gt : times < 0
  · cases e2 : (((-(line + 1)) % 8) == 2) <;> cases itself
    · exact PicEnds_nn00 W line times ((-(line + 1)) % 8) ((-(times + 1)) % 20) l0 l1 t0 t1 (decide_eq_true gl) (nL gl) (decide_eq_true gt) (nT gt) (by omega) (by omega) e2 (by omega) (by omega)
    · exact PicEnds_nn10 W line times ((-(line + 1)) % 8) ((-(times + 1)) % 20) l0 l1 t0 t1 (decide_eq_true gl) (nL gl) (decide_eq_true gt) (nT gt) (by omega) (by omega) e2 (by omega) (by omega)
    · exact PicEnds_nn01 W line times ((-(line + 1)) % 8) ((-(times + 1)) % 20) l0 l1 t0 t1 (decide_eq_true gl) (nL gl) (decide_eq_true gt) (nT gt) (by omega) (by omega) e2 (by omega) (by omega)
    · exact PicEnds_nn11 W line times ((-(line + 1)) % 8) ((-(times + 1)) % 20) l0 l1 t0 t1 (decide_eq_true gl) (nL gl) (decide_eq_true gt) (nT gt) (by omega) (by omega) e2 (by omega) (by omega)
  · cases e2 : (((-(line + 1)) % 8) == 2) <;> cases itself
    · exact PicEnds_np00 W line times ((-(line + 1)) % 8) (times % 20) l0 l1 t0 t1 (decide_eq_true gl) (nL gl) (decide_eq_false gt) (eT _ (by omega)) (by omega) (by omega) e2 (by omega) (by omega)
    · exact PicEnds_np10 W line times ((-(line + 1)) % 8) (times % 20) l0 l1 t0 t1 (decide_eq_true gl) (nL gl) (decide_eq_false gt) (eT _ (by omega)) (by omega) (by omega) e2 (by omega) (by omega)
    · exact PicEnds_np01 W line times ((-(line + 1)) % 8) (times % 20) l0 l1 t0 t1 (decide_eq_true gl) (nL gl) (decide_eq_false gt) (eT _ (by omega)) (by omega) (by omega) e2 (by omega) (by omega)
    · exact PicEnds_np11 W line times ((-(line + 1)) % 8) (times % 20) l0 l1 t0 t1 (decide_eq_true gl) (nL gl) (decide_eq_false gt) (eT _ (by omega)) (by omega) (by omega) e2 (by omega) (by omega)
  · cases e2 : ((line % 8) == 2) <;> cases itself
    · exact PicEnds_pn00 W line times (line % 8) ((-(times + 1)) % 20) l0 l1 t0 t1 (decide_eq_false gl) (eL _ (by omega)) (decide_eq_true gt) (nT gt) (by omega) (by omega) e2 (by omega) (by omega)
    · exact PicEnds_pn10 W line times (line % 8) ((-(times + 1)) % 20) l0 l1 t0 t1 (decide_eq_false gl) (eL _ (by omega)) (decide_eq_true gt) (nT gt) (by omega) (by omega) e2 (by omega) (by omega)
    · exact PicEnds_pn01 W line times (line % 8) ((-(times + 1)) % 20) l0 l1 t0 t1 (decide_eq_false gl) (eL _ (by omega)) (decide_eq_true gt) (nT gt) (by omega) (by omega) e2 (by omega) (by omega)
    · exact PicEnds_pn11 W line times (line % 8) ((-(times + 1)) % 20) l0 l1 t0 t1 (decide_eq_false gl) (eL _ (by omega)) (decide_eq_true gt) (nT gt) (by omega) (by omega) e2 (by omega) (by omega)
  · cases e2 : ((line % 8) == 2) <;> cases itself
    · exact PicEnds_pp00 W line times (line % 8) (times % 20) l0 l1 t0 t1 (decide_eq_false gl) (eL _ (by omega)) (decide_eq_false gt) (eT _ (by omega)) (by omega) (by omega) e2 (by omega) (by omega)
    · exact PicEnds_pp10 W line times (line % 8) (times % 20) l0 l1 t0 t1 (decide_eq_false gl) (eL _ (by omega)) (decide_eq_false gt) (eT _ (by omega)) (by omega) (by omega) e2 (by omega) (by omega)
    · exact PicEnds_pp01 W line times (line % 8) (times % 20) l0 l1 t0 t1 (decide_eq_false gl) (eL _ (by omega)) (decide_eq_false gt) (eT _ (by omega)) (by omega) (by omega) e2 (by omega) (by omega)
    · exact PicEnds_pp11 W line times (line % 8) (times % 20) l0 l1 t0 t1 (decide_eq_false gl) (eL _ (by omega)) (decide_eq_false gt) (eT _ (by omega)) (by omega) (by omega) e2 (by omega) (by omega)
end Go.Proofs.Ytfpgijdfbgfkcaa
