/- The walk of PitRounds. -/
import Derived.Test.YteodnlloilmoaaaPtRnd
namespace Go.Proofs.Yteodnlloilmoaaa
open Go.ChangeShapes Go.WideShapes Go.ChangeAt Go.RowKit
set_option linter.unusedVariables false

set_option maxHeartbeats 2000000 in
theorem rounds_2n (W : World) (l n L h : Int) (l0 : 0 ≤ l) (l1 : l < 65536) (n0 : 0 ≤ n) (n1 : n < 4294967296) (hx : ¬ l % 2000 < 2) (hL : L = l % 2000) (hh : h = (L - 1)) : Calls Try.prog 4 #[.int .u16 l, .int .u32 n, .bool false] W fun e w' => e = .returned (.bool true) ∧ Below W.heap.size W w' := by
  have L0 : 2 ≤ L := by omega
  have L1 : L < 2000 := by omega
  have h0 : 1 ≤ h := by omega
  have h1 : h < L := by omega
  have HA : Hid (∀ w, _) := awake_ok
  have HP : Hid (∀ w, _) := fun w => started_ok w 2 L (by decide) (by decide) (by omega) (by omega)
  have HQ : Hid (∀ w, _) := fun w => started_ok w 0 L (by decide) (by decide) (by omega) (by omega)
  have HB : Hid (∀ w', Kp noB W w' → Below W.heap.size W w') := fun w' h => h.every
  have eL : big L = L := by unfold big; rw [if_neg (by omega)]
  have rp := rem_bd (n := n) (l := L) (by omega)
  have H1 : Hid (∀ {w : World} {B : Nat} (now : Int) (y : Bool), 0 ≤ now ∧ now < 18446744073709551616 → decide (L ≤ now) = y → PAt w B (fS 0 L) → Calls Try.prog 15 #[.pointer (some ⟨B, 0, none⟩), .int .u64 now] w fun e w' => e = .returned (.bool y) ∧ Kp noB w w') := fun {w B} now y hn hy g => by
    have := line_any g (fS_ok (by decide) (by decide) (by omega) (by omega)) now
    rw [cnS_line0 _ hn.1 hn.2, eL, hy] at this
    exact this
  have hF : ∀ k, 0 ≤ k → k ≤ L → (fS 2 L 0).line (n + k) = gB (n % L) L h k := fun k k0 k1 => line_from (m := 2) (.inl ⟨rfl, hh⟩) L0 L1 n0 n1 k0 k1
  generalize n % L = p at rp hF
  have H2 : Hid (∀ {w : World} {B : Nat} (k now : Int), 0 ≤ k ∧ k ≤ L → n + k = now → PAt w B (fS 2 L) → Calls Try.prog 15 #[.pointer (some ⟨B, 0, none⟩), .int .u64 now] w fun e w' => e = .returned (.bool (gB p L h k)) ∧ Kp noB w w') := fun {w B} k now hk hn g => by
    have := line_any g (fS_ok (by decide) (by decide) (by omega) (by omega)) now
    rw [← hn, hF k hk.1 hk.2] at this
    rw [← hn]
    exact this
  have LE : Hid (0 ≤ L ∧ L ≤ L) := ⟨by omega, by omega⟩
  have Y1 : Hid (decide (L ≤ L - 1) = false) := by show decide (L ≤ L - 1) = false; simp; omega
  have Y2 : Hid (decide (L ≤ L) = true) := by show decide (L ≤ L) = true; simp
  have Y3 : Hid (decide (L ≤ L + n) = true) := by show decide (L ≤ L + n) = true; simp; omega
  have B1 : Hid (0 ≤ L - 1 ∧ L - 1 < 18446744073709551616) := ⟨by omega, by omega⟩
  have B2 : Hid (0 ≤ L ∧ L < 18446744073709551616) := ⟨by omega, by omega⟩
  have B3 : Hid (0 ≤ L + n ∧ L + n < 18446744073709551616) := ⟨by omega, by omega⟩
  have a1 : (L - 1) % 18446744073709551616 = L - 1 := by omega
  have a2 : (L + n) % 18446744073709551616 = L + n := by omega
  have dx : decide (L < 2) = false := by simp; omega
  have hL' : l % 2000 = L := hL.symm
  clear hL hx hh eL hF
  go_enter Try.func4, Try.ntmps4
  go_wp2_with fail
  refine Calls.mono (HA.out _) ?_; rintro e w1 ⟨rfl, k1⟩
  go_wp2_with fail
  rw [hL']
  refine Calls.mono (HP.out _) ?_; rintro e w2 ⟨B, rfl, lB, p2, g2⟩
  have k2 := k1.trans g2
  clear k1 g2 dx hL' l0 l1
  go_wp2_with fail
  refine Calls.mono (HQ.out _) ?_; rintro e w3 ⟨C, rfl, lC, q3, g3⟩
  have p3 := p2.kept g3 id
  have k3 := k2.trans g3
  clear p2 k2 g3 lB lC
  go_wp2_with fail
  refine Calls.mono (H1.out _ _ B1.out Y1.out q3) ?_; rintro e w4 ⟨rfl, g4⟩
  have p4 := p3.kept g4 id
  have q4 := q3.kept g4 id
  have k4 := k3.trans g4
  clear p3 q3 k3 g4
  go_wp2_with fail
  refine Calls.mono (H1.out _ _ B2.out Y2.out q4) ?_; rintro e w5 ⟨rfl, g5⟩
  have p5 := p4.kept g5 id
  have q5 := q4.kept g5 id
  have k5 := k4.trans g5
  clear p4 q4 k4 g5
  go_wp2_with fail
  refine Calls.mono (H1.out _ _ B3.out Y3.out q5) ?_; rintro e w6 ⟨rfl, g6⟩
  have p6 := p5.kept g6 id
  have k6 := k5.trans g6
  clear p5 q5 k5 g6
  go_wp2_with fail
  refine Calls.mono (H2.out 0 _ ⟨by omega, by omega⟩ (by omega) p6) ?_; rintro e w7 ⟨rfl, g7⟩
  have p7 := p6.kept g7 id
  have k7 := k6.trans g7
  clear p6 k6 g7
  have P7 : Hid (PAt w7 B (fS 2 L)) := p7
  clear p7
  have K7 : Hid (Kp noB W w7) := k7
  have RP : Hid (0 ≤ p ∧ p < L) := rp
  have HH : Hid (1 ≤ h ∧ h < L) := ⟨h0, h1⟩
  have Z1 : Hid (dN p L h 0 = 0) := d_0 rp.1 rp.2 h0 h1
  have Z2 : Hid (uN p L 0 = 0) := u_0 rp.1 rp.2
  clear rp h0 h1 k7 a1 a2
  go_wp2
  go_loopw [11, 12, 13, 15] (fun s11 s12 s13 s15 wr => ∃ k : Int, s15 = .int .u64 (k + 1) ∧ 0 ≤ k ∧ k ≤ L ∧ s11 = .int .i64 (dN p L h k) ∧ s12 = .int .i64 (uN p L k) ∧ s13 = .bool (gB p L h k) ∧ PAt wr B (fS 2 L) ∧ Kp noB W wr) (fun _ _ _ s15 _ => (L + 1 - intOf s15).toNat)
  case atStart => exact ⟨0, rfl, by omega, by omega, by rw [Z1.out], by rw [Z2.out], rfl, P7.out, K7.out⟩
  case round =>
    clear P7 K7 Z1 Z2
    obtain ⟨k, rfl, k0, k1, rfl, rfl, rfl, hP, hK⟩ := hrel
    by_cases hlt : k < L
    · have HC : Hid (PAt wr B (fS 2 L)) := hP
      have HKr : Hid (Kp noB W wr) := hK
      have kb : Hid (0 ≤ k + 1 ∧ k + 1 ≤ L) := ⟨by omega, by omega⟩
      have c1 : decide (k + 1 ≤ L) = true := by simp; omega
      have c2 : (n + (k + 1)) % 18446744073709551616 = n + (k + 1) := by omega
      have D : dN p L h k + (if gB p L h k = true ∧ gB p L h (k + 1) = false then 1 else 0) = dN p L h (k + 1) := by
        split
        · rename_i g; exact step_d RP.out.1 RP.out.2 HH.out.1 HH.out.2 k0 hlt g.1 g.2
        · rename_i g; rw [Int.add_zero]; exact stay_d RP.out.1 RP.out.2 HH.out.1 HH.out.2 k0 hlt g
      have U : uN p L k + (if gB p L h k = false ∧ gB p L h (k + 1) = true then 1 else 0) = uN p L (k + 1) := by
        split
        · rename_i g; exact step_u RP.out.1 RP.out.2 HH.out.1 HH.out.2 k0 hlt g.1 g.2
        · rename_i g; rw [Int.add_zero]; exact stay_u RP.out.1 RP.out.2 HH.out.1 HH.out.2 k0 hlt g
      have bd := dN_bd p L h k
      have bu := uN_bd p L k
      clear hP hK
      obtain ⟨d, hd⟩ : ∃ d, d = dN p L h k := ⟨_, rfl⟩
      obtain ⟨u, hu⟩ : ∃ u, u = uN p L k := ⟨_, rfl⟩
      obtain ⟨d', hd'⟩ : ∃ d, d = dN p L h (k + 1) := ⟨_, rfl⟩
      obtain ⟨u', hu'⟩ : ∃ u, u = uN p L (k + 1) := ⟨_, rfl⟩
      have EQ : Hid (d' = dN p L h (k + 1) ∧ u' = uN p L (k + 1)) := ⟨hd', hu'⟩
      rw [← hd, ← hd'] at D
      rw [← hu, ← hu'] at U
      rw [← hd] at bd ⊢
      rw [← hu] at bu ⊢
      clear hd hu hd' hu'
      obtain ⟨x, hx⟩ : ∃ x, x = gB p L h k := ⟨_, rfl⟩
      obtain ⟨y, hy⟩ : ∃ y, y = gB p L h (k + 1) := ⟨_, rfl⟩
      have EY : Hid (y = gB p L h (k + 1)) := hy
      have HLn : Hid (∀ now : Int, n + (k + 1) = now → Calls Try.prog 15 #[.pointer (some ⟨B, 0, none⟩), .int .u64 now] wr fun e w' => e = .returned (.bool y) ∧ Kp noB wr w') := fun now g => by
        have := H2.out (k + 1) now kb.out g HC.out
        rw [← hy] at this
        exact this
      rw [← hx, ← hy] at D U
      rw [← hx]
      clear hx hy
      have S1 : (d + 1 + 9223372036854775808) % 18446744073709551616 - 9223372036854775808 = d + 1 := by omega
      go_wp2_with fail
      refine Calls.mono (HLn.out _ (by omega)) ?_; rintro e v1 ⟨rfl, g1⟩
      have hP := HC.out.kept g1 id
      have hK := HKr.out.trans g1
      clear g1 HC HKr HLn c1 c2
      cases x <;> cases y
      all_goals
        simp only [reduceCtorEq, and_self, and_true, and_false, if_true, if_false, Int.add_zero] at D U
        go_wp2
        go_roundw
        case rel => exact ⟨k + 1, by go_num, by omega, by omega, by first | (rw [← EQ.out.1, ← D]; done) | (rw [← EQ.out.1, ← D]; go_num), by first | (rw [← EQ.out.2, ← U]; done) | (rw [← EQ.out.2, ← U]; go_num), by rw [← EY.out], hP, hK⟩
        case measure => simp [intOf]; omega
    · obtain rfl : k = L := by omega
      have c1 : decide (k + 1 ≤ k) = false := by simp; omega
      have e1 : dN p k h k = 1 := d_L RP.out.1 RP.out.2 HH.out.1 HH.out.2
      have e2 : uN p k k = 1 := u_L RP.out.1 RP.out.2
      have e3 : gB p k h k = gB p k h 0 := g_L RP.out.1 RP.out.2
      rw [e1, e2, e3]
      generalize gB p k h 0 = z at e3 ⊢
      clear e1 e2 e3
      go_wp2
      go_ret
      exact ⟨rfl, HB.out _ hK⟩

set_option maxHeartbeats 2000000 in
theorem rounds_2s (W : World) (l n L h : Int) (l0 : 0 ≤ l) (l1 : l < 65536) (n0 : 0 ≤ n) (n1 : n < 4294967296) (hx : l % 2000 < 2) (hL : L = 2) (hh : h = (L - 1)) : Calls Try.prog 4 #[.int .u16 l, .int .u32 n, .bool false] W fun e w' => e = .returned (.bool true) ∧ Below W.heap.size W w' := by
  have L0 : 2 ≤ L := by omega
  have L1 : L < 2000 := by omega
  have h0 : 1 ≤ h := by omega
  have h1 : h < L := by omega
  have HA : Hid (∀ w, _) := awake_ok
  have HP : Hid (∀ w, _) := fun w => started_ok w 2 L (by decide) (by decide) (by omega) (by omega)
  have HQ : Hid (∀ w, _) := fun w => started_ok w 0 L (by decide) (by decide) (by omega) (by omega)
  have HB : Hid (∀ w', Kp noB W w' → Below W.heap.size W w') := fun w' h => h.every
  have eL : big L = L := by unfold big; rw [if_neg (by omega)]
  have rp := rem_bd (n := n) (l := L) (by omega)
  have H1 : Hid (∀ {w : World} {B : Nat} (now : Int) (y : Bool), 0 ≤ now ∧ now < 18446744073709551616 → decide (L ≤ now) = y → PAt w B (fS 0 L) → Calls Try.prog 15 #[.pointer (some ⟨B, 0, none⟩), .int .u64 now] w fun e w' => e = .returned (.bool y) ∧ Kp noB w w') := fun {w B} now y hn hy g => by
    have := line_any g (fS_ok (by decide) (by decide) (by omega) (by omega)) now
    rw [cnS_line0 _ hn.1 hn.2, eL, hy] at this
    exact this
  have hF : ∀ k, 0 ≤ k → k ≤ L → (fS 2 L 0).line (n + k) = gB (n % L) L h k := fun k k0 k1 => line_from (m := 2) (.inl ⟨rfl, hh⟩) L0 L1 n0 n1 k0 k1
  generalize n % L = p at rp hF
  have H2 : Hid (∀ {w : World} {B : Nat} (k now : Int), 0 ≤ k ∧ k ≤ L → n + k = now → PAt w B (fS 2 L) → Calls Try.prog 15 #[.pointer (some ⟨B, 0, none⟩), .int .u64 now] w fun e w' => e = .returned (.bool (gB p L h k)) ∧ Kp noB w w') := fun {w B} k now hk hn g => by
    have := line_any g (fS_ok (by decide) (by decide) (by omega) (by omega)) now
    rw [← hn, hF k hk.1 hk.2] at this
    rw [← hn]
    exact this
  have LE : Hid (0 ≤ L ∧ L ≤ L) := ⟨by omega, by omega⟩
  have Y1 : Hid (decide (L ≤ L - 1) = false) := by show decide (L ≤ L - 1) = false; simp; omega
  have Y2 : Hid (decide (L ≤ L) = true) := by show decide (L ≤ L) = true; simp
  have Y3 : Hid (decide (L ≤ L + n) = true) := by show decide (L ≤ L + n) = true; simp; omega
  have B1 : Hid (0 ≤ L - 1 ∧ L - 1 < 18446744073709551616) := ⟨by omega, by omega⟩
  have B2 : Hid (0 ≤ L ∧ L < 18446744073709551616) := ⟨by omega, by omega⟩
  have B3 : Hid (0 ≤ L + n ∧ L + n < 18446744073709551616) := ⟨by omega, by omega⟩
  have a1 : (L - 1) % 18446744073709551616 = L - 1 := by omega
  have a2 : (L + n) % 18446744073709551616 = L + n := by omega
  have h2 : Hid (Value.int IntKind.u16 2 = Value.int IntKind.u16 L) := by show Value.int IntKind.u16 2 = Value.int IntKind.u16 L; rw [hL]
  have dx : decide (l % 2000 < 2) = true := by simp [hx]
  clear hL hx hh eL hF
  go_enter Try.func4, Try.ntmps4
  go_wp2_with fail
  refine Calls.mono (HA.out _) ?_; rintro e w1 ⟨rfl, k1⟩
  go_wp2_with fail
  rw [h2.out]
  refine Calls.mono (HP.out _) ?_; rintro e w2 ⟨B, rfl, lB, p2, g2⟩
  have k2 := k1.trans g2
  clear k1 g2 dx l0 l1
  go_wp2_with fail
  refine Calls.mono (HQ.out _) ?_; rintro e w3 ⟨C, rfl, lC, q3, g3⟩
  have p3 := p2.kept g3 id
  have k3 := k2.trans g3
  clear p2 k2 g3 lB lC
  go_wp2_with fail
  refine Calls.mono (H1.out _ _ B1.out Y1.out q3) ?_; rintro e w4 ⟨rfl, g4⟩
  have p4 := p3.kept g4 id
  have q4 := q3.kept g4 id
  have k4 := k3.trans g4
  clear p3 q3 k3 g4
  go_wp2_with fail
  refine Calls.mono (H1.out _ _ B2.out Y2.out q4) ?_; rintro e w5 ⟨rfl, g5⟩
  have p5 := p4.kept g5 id
  have q5 := q4.kept g5 id
  have k5 := k4.trans g5
  clear p4 q4 k4 g5
  go_wp2_with fail
  refine Calls.mono (H1.out _ _ B3.out Y3.out q5) ?_; rintro e w6 ⟨rfl, g6⟩
  have p6 := p5.kept g6 id
  have k6 := k5.trans g6
  clear p5 q5 k5 g6
  go_wp2_with fail
  refine Calls.mono (H2.out 0 _ ⟨by omega, by omega⟩ (by omega) p6) ?_; rintro e w7 ⟨rfl, g7⟩
  have p7 := p6.kept g7 id
  have k7 := k6.trans g7
  clear p6 k6 g7
  have P7 : Hid (PAt w7 B (fS 2 L)) := p7
  clear p7
  have K7 : Hid (Kp noB W w7) := k7
  have RP : Hid (0 ≤ p ∧ p < L) := rp
  have HH : Hid (1 ≤ h ∧ h < L) := ⟨h0, h1⟩
  have Z1 : Hid (dN p L h 0 = 0) := d_0 rp.1 rp.2 h0 h1
  have Z2 : Hid (uN p L 0 = 0) := u_0 rp.1 rp.2
  clear rp h0 h1 k7 a1 a2
  go_wp2
  go_loopw [11, 12, 13, 15] (fun s11 s12 s13 s15 wr => ∃ k : Int, s15 = .int .u64 (k + 1) ∧ 0 ≤ k ∧ k ≤ L ∧ s11 = .int .i64 (dN p L h k) ∧ s12 = .int .i64 (uN p L k) ∧ s13 = .bool (gB p L h k) ∧ PAt wr B (fS 2 L) ∧ Kp noB W wr) (fun _ _ _ s15 _ => (L + 1 - intOf s15).toNat)
  case atStart => exact ⟨0, rfl, by omega, by omega, by rw [Z1.out], by rw [Z2.out], rfl, P7.out, K7.out⟩
  case round =>
    clear P7 K7 Z1 Z2
    obtain ⟨k, rfl, k0, k1, rfl, rfl, rfl, hP, hK⟩ := hrel
    by_cases hlt : k < L
    · have HC : Hid (PAt wr B (fS 2 L)) := hP
      have HKr : Hid (Kp noB W wr) := hK
      have kb : Hid (0 ≤ k + 1 ∧ k + 1 ≤ L) := ⟨by omega, by omega⟩
      have c1 : decide (k + 1 ≤ L) = true := by simp; omega
      have c2 : (n + (k + 1)) % 18446744073709551616 = n + (k + 1) := by omega
      have D : dN p L h k + (if gB p L h k = true ∧ gB p L h (k + 1) = false then 1 else 0) = dN p L h (k + 1) := by
        split
        · rename_i g; exact step_d RP.out.1 RP.out.2 HH.out.1 HH.out.2 k0 hlt g.1 g.2
        · rename_i g; rw [Int.add_zero]; exact stay_d RP.out.1 RP.out.2 HH.out.1 HH.out.2 k0 hlt g
      have U : uN p L k + (if gB p L h k = false ∧ gB p L h (k + 1) = true then 1 else 0) = uN p L (k + 1) := by
        split
        · rename_i g; exact step_u RP.out.1 RP.out.2 HH.out.1 HH.out.2 k0 hlt g.1 g.2
        · rename_i g; rw [Int.add_zero]; exact stay_u RP.out.1 RP.out.2 HH.out.1 HH.out.2 k0 hlt g
      have bd := dN_bd p L h k
      have bu := uN_bd p L k
      clear hP hK
      obtain ⟨d, hd⟩ : ∃ d, d = dN p L h k := ⟨_, rfl⟩
      obtain ⟨u, hu⟩ : ∃ u, u = uN p L k := ⟨_, rfl⟩
      obtain ⟨d', hd'⟩ : ∃ d, d = dN p L h (k + 1) := ⟨_, rfl⟩
      obtain ⟨u', hu'⟩ : ∃ u, u = uN p L (k + 1) := ⟨_, rfl⟩
      have EQ : Hid (d' = dN p L h (k + 1) ∧ u' = uN p L (k + 1)) := ⟨hd', hu'⟩
      rw [← hd, ← hd'] at D
      rw [← hu, ← hu'] at U
      rw [← hd] at bd ⊢
      rw [← hu] at bu ⊢
      clear hd hu hd' hu'
      obtain ⟨x, hx⟩ : ∃ x, x = gB p L h k := ⟨_, rfl⟩
      obtain ⟨y, hy⟩ : ∃ y, y = gB p L h (k + 1) := ⟨_, rfl⟩
      have EY : Hid (y = gB p L h (k + 1)) := hy
      have HLn : Hid (∀ now : Int, n + (k + 1) = now → Calls Try.prog 15 #[.pointer (some ⟨B, 0, none⟩), .int .u64 now] wr fun e w' => e = .returned (.bool y) ∧ Kp noB wr w') := fun now g => by
        have := H2.out (k + 1) now kb.out g HC.out
        rw [← hy] at this
        exact this
      rw [← hx, ← hy] at D U
      rw [← hx]
      clear hx hy
      have S1 : (d + 1 + 9223372036854775808) % 18446744073709551616 - 9223372036854775808 = d + 1 := by omega
      go_wp2_with fail
      refine Calls.mono (HLn.out _ (by omega)) ?_; rintro e v1 ⟨rfl, g1⟩
      have hP := HC.out.kept g1 id
      have hK := HKr.out.trans g1
      clear g1 HC HKr HLn c1 c2
      cases x <;> cases y
      all_goals
        simp only [reduceCtorEq, and_self, and_true, and_false, if_true, if_false, Int.add_zero] at D U
        go_wp2
        go_roundw
        case rel => exact ⟨k + 1, by go_num, by omega, by omega, by first | (rw [← EQ.out.1, ← D]; done) | (rw [← EQ.out.1, ← D]; go_num), by first | (rw [← EQ.out.2, ← U]; done) | (rw [← EQ.out.2, ← U]; go_num), by rw [← EY.out], hP, hK⟩
        case measure => simp [intOf]; omega
    · obtain rfl : k = L := by omega
      have c1 : decide (k + 1 ≤ k) = false := by simp; omega
      have e1 : dN p k h k = 1 := d_L RP.out.1 RP.out.2 HH.out.1 HH.out.2
      have e2 : uN p k k = 1 := u_L RP.out.1 RP.out.2
      have e3 : gB p k h k = gB p k h 0 := g_L RP.out.1 RP.out.2
      rw [e1, e2, e3]
      generalize gB p k h 0 = z at e3 ⊢
      clear e1 e2 e3
      go_wp2
      go_ret
      exact ⟨rfl, HB.out _ hK⟩

set_option maxHeartbeats 2000000 in
theorem rounds_3n (W : World) (l n L h : Int) (l0 : 0 ≤ l) (l1 : l < 65536) (n0 : 0 ≤ n) (n1 : n < 4294967296) (hx : ¬ l % 2000 < 2) (hL : L = l % 2000) (hh : h = ((L + 1) / 2)) : Calls Try.prog 4 #[.int .u16 l, .int .u32 n, .bool true] W fun e w' => e = .returned (.bool true) ∧ Below W.heap.size W w' := by
  have L0 : 2 ≤ L := by omega
  have L1 : L < 2000 := by omega
  have h0 : 1 ≤ h := by omega
  have h1 : h < L := by omega
  have HA : Hid (∀ w, _) := awake_ok
  have HP : Hid (∀ w, _) := fun w => started_ok w 3 L (by decide) (by decide) (by omega) (by omega)
  have HQ : Hid (∀ w, _) := fun w => started_ok w 0 L (by decide) (by decide) (by omega) (by omega)
  have HB : Hid (∀ w', Kp noB W w' → Below W.heap.size W w') := fun w' h => h.every
  have eL : big L = L := by unfold big; rw [if_neg (by omega)]
  have rp := rem_bd (n := n) (l := L) (by omega)
  have H1 : Hid (∀ {w : World} {B : Nat} (now : Int) (y : Bool), 0 ≤ now ∧ now < 18446744073709551616 → decide (L ≤ now) = y → PAt w B (fS 0 L) → Calls Try.prog 15 #[.pointer (some ⟨B, 0, none⟩), .int .u64 now] w fun e w' => e = .returned (.bool y) ∧ Kp noB w w') := fun {w B} now y hn hy g => by
    have := line_any g (fS_ok (by decide) (by decide) (by omega) (by omega)) now
    rw [cnS_line0 _ hn.1 hn.2, eL, hy] at this
    exact this
  have hF : ∀ k, 0 ≤ k → k ≤ L → (fS 3 L 0).line (n + k) = gB (n % L) L h k := fun k k0 k1 => line_from (m := 3) (.inr ⟨rfl, hh⟩) L0 L1 n0 n1 k0 k1
  generalize n % L = p at rp hF
  have H2 : Hid (∀ {w : World} {B : Nat} (k now : Int), 0 ≤ k ∧ k ≤ L → n + k = now → PAt w B (fS 3 L) → Calls Try.prog 15 #[.pointer (some ⟨B, 0, none⟩), .int .u64 now] w fun e w' => e = .returned (.bool (gB p L h k)) ∧ Kp noB w w') := fun {w B} k now hk hn g => by
    have := line_any g (fS_ok (by decide) (by decide) (by omega) (by omega)) now
    rw [← hn, hF k hk.1 hk.2] at this
    rw [← hn]
    exact this
  have LE : Hid (0 ≤ L ∧ L ≤ L) := ⟨by omega, by omega⟩
  have Y1 : Hid (decide (L ≤ L - 1) = false) := by show decide (L ≤ L - 1) = false; simp; omega
  have Y2 : Hid (decide (L ≤ L) = true) := by show decide (L ≤ L) = true; simp
  have Y3 : Hid (decide (L ≤ L + n) = true) := by show decide (L ≤ L + n) = true; simp; omega
  have B1 : Hid (0 ≤ L - 1 ∧ L - 1 < 18446744073709551616) := ⟨by omega, by omega⟩
  have B2 : Hid (0 ≤ L ∧ L < 18446744073709551616) := ⟨by omega, by omega⟩
  have B3 : Hid (0 ≤ L + n ∧ L + n < 18446744073709551616) := ⟨by omega, by omega⟩
  have a1 : (L - 1) % 18446744073709551616 = L - 1 := by omega
  have a2 : (L + n) % 18446744073709551616 = L + n := by omega
  have dx : decide (L < 2) = false := by simp; omega
  have hL' : l % 2000 = L := hL.symm
  clear hL hx hh eL hF
  go_enter Try.func4, Try.ntmps4
  go_wp2_with fail
  refine Calls.mono (HA.out _) ?_; rintro e w1 ⟨rfl, k1⟩
  go_wp2_with fail
  rw [hL']
  refine Calls.mono (HP.out _) ?_; rintro e w2 ⟨B, rfl, lB, p2, g2⟩
  have k2 := k1.trans g2
  clear k1 g2 dx hL' l0 l1
  go_wp2_with fail
  refine Calls.mono (HQ.out _) ?_; rintro e w3 ⟨C, rfl, lC, q3, g3⟩
  have p3 := p2.kept g3 id
  have k3 := k2.trans g3
  clear p2 k2 g3 lB lC
  go_wp2_with fail
  refine Calls.mono (H1.out _ _ B1.out Y1.out q3) ?_; rintro e w4 ⟨rfl, g4⟩
  have p4 := p3.kept g4 id
  have q4 := q3.kept g4 id
  have k4 := k3.trans g4
  clear p3 q3 k3 g4
  go_wp2_with fail
  refine Calls.mono (H1.out _ _ B2.out Y2.out q4) ?_; rintro e w5 ⟨rfl, g5⟩
  have p5 := p4.kept g5 id
  have q5 := q4.kept g5 id
  have k5 := k4.trans g5
  clear p4 q4 k4 g5
  go_wp2_with fail
  refine Calls.mono (H1.out _ _ B3.out Y3.out q5) ?_; rintro e w6 ⟨rfl, g6⟩
  have p6 := p5.kept g6 id
  have k6 := k5.trans g6
  clear p5 q5 k5 g6
  go_wp2_with fail
  refine Calls.mono (H2.out 0 _ ⟨by omega, by omega⟩ (by omega) p6) ?_; rintro e w7 ⟨rfl, g7⟩
  have p7 := p6.kept g7 id
  have k7 := k6.trans g7
  clear p6 k6 g7
  have P7 : Hid (PAt w7 B (fS 3 L)) := p7
  clear p7
  have K7 : Hid (Kp noB W w7) := k7
  have RP : Hid (0 ≤ p ∧ p < L) := rp
  have HH : Hid (1 ≤ h ∧ h < L) := ⟨h0, h1⟩
  have Z1 : Hid (dN p L h 0 = 0) := d_0 rp.1 rp.2 h0 h1
  have Z2 : Hid (uN p L 0 = 0) := u_0 rp.1 rp.2
  clear rp h0 h1 k7 a1 a2
  go_wp2
  go_loopw [11, 12, 13, 15] (fun s11 s12 s13 s15 wr => ∃ k : Int, s15 = .int .u64 (k + 1) ∧ 0 ≤ k ∧ k ≤ L ∧ s11 = .int .i64 (dN p L h k) ∧ s12 = .int .i64 (uN p L k) ∧ s13 = .bool (gB p L h k) ∧ PAt wr B (fS 3 L) ∧ Kp noB W wr) (fun _ _ _ s15 _ => (L + 1 - intOf s15).toNat)
  case atStart => exact ⟨0, rfl, by omega, by omega, by rw [Z1.out], by rw [Z2.out], rfl, P7.out, K7.out⟩
  case round =>
    clear P7 K7 Z1 Z2
    obtain ⟨k, rfl, k0, k1, rfl, rfl, rfl, hP, hK⟩ := hrel
    by_cases hlt : k < L
    · have HC : Hid (PAt wr B (fS 3 L)) := hP
      have HKr : Hid (Kp noB W wr) := hK
      have kb : Hid (0 ≤ k + 1 ∧ k + 1 ≤ L) := ⟨by omega, by omega⟩
      have c1 : decide (k + 1 ≤ L) = true := by simp; omega
      have c2 : (n + (k + 1)) % 18446744073709551616 = n + (k + 1) := by omega
      have D : dN p L h k + (if gB p L h k = true ∧ gB p L h (k + 1) = false then 1 else 0) = dN p L h (k + 1) := by
        split
        · rename_i g; exact step_d RP.out.1 RP.out.2 HH.out.1 HH.out.2 k0 hlt g.1 g.2
        · rename_i g; rw [Int.add_zero]; exact stay_d RP.out.1 RP.out.2 HH.out.1 HH.out.2 k0 hlt g
      have U : uN p L k + (if gB p L h k = false ∧ gB p L h (k + 1) = true then 1 else 0) = uN p L (k + 1) := by
        split
        · rename_i g; exact step_u RP.out.1 RP.out.2 HH.out.1 HH.out.2 k0 hlt g.1 g.2
        · rename_i g; rw [Int.add_zero]; exact stay_u RP.out.1 RP.out.2 HH.out.1 HH.out.2 k0 hlt g
      have bd := dN_bd p L h k
      have bu := uN_bd p L k
      clear hP hK
      obtain ⟨d, hd⟩ : ∃ d, d = dN p L h k := ⟨_, rfl⟩
      obtain ⟨u, hu⟩ : ∃ u, u = uN p L k := ⟨_, rfl⟩
      obtain ⟨d', hd'⟩ : ∃ d, d = dN p L h (k + 1) := ⟨_, rfl⟩
      obtain ⟨u', hu'⟩ : ∃ u, u = uN p L (k + 1) := ⟨_, rfl⟩
      have EQ : Hid (d' = dN p L h (k + 1) ∧ u' = uN p L (k + 1)) := ⟨hd', hu'⟩
      rw [← hd, ← hd'] at D
      rw [← hu, ← hu'] at U
      rw [← hd] at bd ⊢
      rw [← hu] at bu ⊢
      clear hd hu hd' hu'
      obtain ⟨x, hx⟩ : ∃ x, x = gB p L h k := ⟨_, rfl⟩
      obtain ⟨y, hy⟩ : ∃ y, y = gB p L h (k + 1) := ⟨_, rfl⟩
      have EY : Hid (y = gB p L h (k + 1)) := hy
      have HLn : Hid (∀ now : Int, n + (k + 1) = now → Calls Try.prog 15 #[.pointer (some ⟨B, 0, none⟩), .int .u64 now] wr fun e w' => e = .returned (.bool y) ∧ Kp noB wr w') := fun now g => by
        have := H2.out (k + 1) now kb.out g HC.out
        rw [← hy] at this
        exact this
      rw [← hx, ← hy] at D U
      rw [← hx]
      clear hx hy
      have S1 : (d + 1 + 9223372036854775808) % 18446744073709551616 - 9223372036854775808 = d + 1 := by omega
      go_wp2_with fail
      refine Calls.mono (HLn.out _ (by omega)) ?_; rintro e v1 ⟨rfl, g1⟩
      have hP := HC.out.kept g1 id
      have hK := HKr.out.trans g1
      clear g1 HC HKr HLn c1 c2
      cases x <;> cases y
      all_goals
        simp only [reduceCtorEq, and_self, and_true, and_false, if_true, if_false, Int.add_zero] at D U
        go_wp2
        go_roundw
        case rel => exact ⟨k + 1, by go_num, by omega, by omega, by first | (rw [← EQ.out.1, ← D]; done) | (rw [← EQ.out.1, ← D]; go_num), by first | (rw [← EQ.out.2, ← U]; done) | (rw [← EQ.out.2, ← U]; go_num), by rw [← EY.out], hP, hK⟩
        case measure => simp [intOf]; omega
    · obtain rfl : k = L := by omega
      have c1 : decide (k + 1 ≤ k) = false := by simp; omega
      have e1 : dN p k h k = 1 := d_L RP.out.1 RP.out.2 HH.out.1 HH.out.2
      have e2 : uN p k k = 1 := u_L RP.out.1 RP.out.2
      have e3 : gB p k h k = gB p k h 0 := g_L RP.out.1 RP.out.2
      rw [e1, e2, e3]
      generalize gB p k h 0 = z at e3 ⊢
      clear e1 e2 e3
      go_wp2
      go_ret
      exact ⟨rfl, HB.out _ hK⟩

set_option maxHeartbeats 2000000 in
theorem rounds_3s (W : World) (l n L h : Int) (l0 : 0 ≤ l) (l1 : l < 65536) (n0 : 0 ≤ n) (n1 : n < 4294967296) (hx : l % 2000 < 2) (hL : L = 2) (hh : h = ((L + 1) / 2)) : Calls Try.prog 4 #[.int .u16 l, .int .u32 n, .bool true] W fun e w' => e = .returned (.bool true) ∧ Below W.heap.size W w' := by
  have L0 : 2 ≤ L := by omega
  have L1 : L < 2000 := by omega
  have h0 : 1 ≤ h := by omega
  have h1 : h < L := by omega
  have HA : Hid (∀ w, _) := awake_ok
  have HP : Hid (∀ w, _) := fun w => started_ok w 3 L (by decide) (by decide) (by omega) (by omega)
  have HQ : Hid (∀ w, _) := fun w => started_ok w 0 L (by decide) (by decide) (by omega) (by omega)
  have HB : Hid (∀ w', Kp noB W w' → Below W.heap.size W w') := fun w' h => h.every
  have eL : big L = L := by unfold big; rw [if_neg (by omega)]
  have rp := rem_bd (n := n) (l := L) (by omega)
  have H1 : Hid (∀ {w : World} {B : Nat} (now : Int) (y : Bool), 0 ≤ now ∧ now < 18446744073709551616 → decide (L ≤ now) = y → PAt w B (fS 0 L) → Calls Try.prog 15 #[.pointer (some ⟨B, 0, none⟩), .int .u64 now] w fun e w' => e = .returned (.bool y) ∧ Kp noB w w') := fun {w B} now y hn hy g => by
    have := line_any g (fS_ok (by decide) (by decide) (by omega) (by omega)) now
    rw [cnS_line0 _ hn.1 hn.2, eL, hy] at this
    exact this
  have hF : ∀ k, 0 ≤ k → k ≤ L → (fS 3 L 0).line (n + k) = gB (n % L) L h k := fun k k0 k1 => line_from (m := 3) (.inr ⟨rfl, hh⟩) L0 L1 n0 n1 k0 k1
  generalize n % L = p at rp hF
  have H2 : Hid (∀ {w : World} {B : Nat} (k now : Int), 0 ≤ k ∧ k ≤ L → n + k = now → PAt w B (fS 3 L) → Calls Try.prog 15 #[.pointer (some ⟨B, 0, none⟩), .int .u64 now] w fun e w' => e = .returned (.bool (gB p L h k)) ∧ Kp noB w w') := fun {w B} k now hk hn g => by
    have := line_any g (fS_ok (by decide) (by decide) (by omega) (by omega)) now
    rw [← hn, hF k hk.1 hk.2] at this
    rw [← hn]
    exact this
  have LE : Hid (0 ≤ L ∧ L ≤ L) := ⟨by omega, by omega⟩
  have Y1 : Hid (decide (L ≤ L - 1) = false) := by show decide (L ≤ L - 1) = false; simp; omega
  have Y2 : Hid (decide (L ≤ L) = true) := by show decide (L ≤ L) = true; simp
  have Y3 : Hid (decide (L ≤ L + n) = true) := by show decide (L ≤ L + n) = true; simp; omega
  have B1 : Hid (0 ≤ L - 1 ∧ L - 1 < 18446744073709551616) := ⟨by omega, by omega⟩
  have B2 : Hid (0 ≤ L ∧ L < 18446744073709551616) := ⟨by omega, by omega⟩
  have B3 : Hid (0 ≤ L + n ∧ L + n < 18446744073709551616) := ⟨by omega, by omega⟩
  have a1 : (L - 1) % 18446744073709551616 = L - 1 := by omega
  have a2 : (L + n) % 18446744073709551616 = L + n := by omega
  have h2 : Hid (Value.int IntKind.u16 2 = Value.int IntKind.u16 L) := by show Value.int IntKind.u16 2 = Value.int IntKind.u16 L; rw [hL]
  have dx : decide (l % 2000 < 2) = true := by simp [hx]
  clear hL hx hh eL hF
  go_enter Try.func4, Try.ntmps4
  go_wp2_with fail
  refine Calls.mono (HA.out _) ?_; rintro e w1 ⟨rfl, k1⟩
  go_wp2_with fail
  rw [h2.out]
  refine Calls.mono (HP.out _) ?_; rintro e w2 ⟨B, rfl, lB, p2, g2⟩
  have k2 := k1.trans g2
  clear k1 g2 dx l0 l1
  go_wp2_with fail
  refine Calls.mono (HQ.out _) ?_; rintro e w3 ⟨C, rfl, lC, q3, g3⟩
  have p3 := p2.kept g3 id
  have k3 := k2.trans g3
  clear p2 k2 g3 lB lC
  go_wp2_with fail
  refine Calls.mono (H1.out _ _ B1.out Y1.out q3) ?_; rintro e w4 ⟨rfl, g4⟩
  have p4 := p3.kept g4 id
  have q4 := q3.kept g4 id
  have k4 := k3.trans g4
  clear p3 q3 k3 g4
  go_wp2_with fail
  refine Calls.mono (H1.out _ _ B2.out Y2.out q4) ?_; rintro e w5 ⟨rfl, g5⟩
  have p5 := p4.kept g5 id
  have q5 := q4.kept g5 id
  have k5 := k4.trans g5
  clear p4 q4 k4 g5
  go_wp2_with fail
  refine Calls.mono (H1.out _ _ B3.out Y3.out q5) ?_; rintro e w6 ⟨rfl, g6⟩
  have p6 := p5.kept g6 id
  have k6 := k5.trans g6
  clear p5 q5 k5 g6
  go_wp2_with fail
  refine Calls.mono (H2.out 0 _ ⟨by omega, by omega⟩ (by omega) p6) ?_; rintro e w7 ⟨rfl, g7⟩
  have p7 := p6.kept g7 id
  have k7 := k6.trans g7
  clear p6 k6 g7
  have P7 : Hid (PAt w7 B (fS 3 L)) := p7
  clear p7
  have K7 : Hid (Kp noB W w7) := k7
  have RP : Hid (0 ≤ p ∧ p < L) := rp
  have HH : Hid (1 ≤ h ∧ h < L) := ⟨h0, h1⟩
  have Z1 : Hid (dN p L h 0 = 0) := d_0 rp.1 rp.2 h0 h1
  have Z2 : Hid (uN p L 0 = 0) := u_0 rp.1 rp.2
  clear rp h0 h1 k7 a1 a2
  go_wp2
  go_loopw [11, 12, 13, 15] (fun s11 s12 s13 s15 wr => ∃ k : Int, s15 = .int .u64 (k + 1) ∧ 0 ≤ k ∧ k ≤ L ∧ s11 = .int .i64 (dN p L h k) ∧ s12 = .int .i64 (uN p L k) ∧ s13 = .bool (gB p L h k) ∧ PAt wr B (fS 3 L) ∧ Kp noB W wr) (fun _ _ _ s15 _ => (L + 1 - intOf s15).toNat)
  case atStart => exact ⟨0, rfl, by omega, by omega, by rw [Z1.out], by rw [Z2.out], rfl, P7.out, K7.out⟩
  case round =>
    clear P7 K7 Z1 Z2
    obtain ⟨k, rfl, k0, k1, rfl, rfl, rfl, hP, hK⟩ := hrel
    by_cases hlt : k < L
    · have HC : Hid (PAt wr B (fS 3 L)) := hP
      have HKr : Hid (Kp noB W wr) := hK
      have kb : Hid (0 ≤ k + 1 ∧ k + 1 ≤ L) := ⟨by omega, by omega⟩
      have c1 : decide (k + 1 ≤ L) = true := by simp; omega
      have c2 : (n + (k + 1)) % 18446744073709551616 = n + (k + 1) := by omega
      have D : dN p L h k + (if gB p L h k = true ∧ gB p L h (k + 1) = false then 1 else 0) = dN p L h (k + 1) := by
        split
        · rename_i g; exact step_d RP.out.1 RP.out.2 HH.out.1 HH.out.2 k0 hlt g.1 g.2
        · rename_i g; rw [Int.add_zero]; exact stay_d RP.out.1 RP.out.2 HH.out.1 HH.out.2 k0 hlt g
      have U : uN p L k + (if gB p L h k = false ∧ gB p L h (k + 1) = true then 1 else 0) = uN p L (k + 1) := by
        split
        · rename_i g; exact step_u RP.out.1 RP.out.2 HH.out.1 HH.out.2 k0 hlt g.1 g.2
        · rename_i g; rw [Int.add_zero]; exact stay_u RP.out.1 RP.out.2 HH.out.1 HH.out.2 k0 hlt g
      have bd := dN_bd p L h k
      have bu := uN_bd p L k
      clear hP hK
      obtain ⟨d, hd⟩ : ∃ d, d = dN p L h k := ⟨_, rfl⟩
      obtain ⟨u, hu⟩ : ∃ u, u = uN p L k := ⟨_, rfl⟩
      obtain ⟨d', hd'⟩ : ∃ d, d = dN p L h (k + 1) := ⟨_, rfl⟩
      obtain ⟨u', hu'⟩ : ∃ u, u = uN p L (k + 1) := ⟨_, rfl⟩
      have EQ : Hid (d' = dN p L h (k + 1) ∧ u' = uN p L (k + 1)) := ⟨hd', hu'⟩
      rw [← hd, ← hd'] at D
      rw [← hu, ← hu'] at U
      rw [← hd] at bd ⊢
      rw [← hu] at bu ⊢
      clear hd hu hd' hu'
      obtain ⟨x, hx⟩ : ∃ x, x = gB p L h k := ⟨_, rfl⟩
      obtain ⟨y, hy⟩ : ∃ y, y = gB p L h (k + 1) := ⟨_, rfl⟩
      have EY : Hid (y = gB p L h (k + 1)) := hy
      have HLn : Hid (∀ now : Int, n + (k + 1) = now → Calls Try.prog 15 #[.pointer (some ⟨B, 0, none⟩), .int .u64 now] wr fun e w' => e = .returned (.bool y) ∧ Kp noB wr w') := fun now g => by
        have := H2.out (k + 1) now kb.out g HC.out
        rw [← hy] at this
        exact this
      rw [← hx, ← hy] at D U
      rw [← hx]
      clear hx hy
      have S1 : (d + 1 + 9223372036854775808) % 18446744073709551616 - 9223372036854775808 = d + 1 := by omega
      go_wp2_with fail
      refine Calls.mono (HLn.out _ (by omega)) ?_; rintro e v1 ⟨rfl, g1⟩
      have hP := HC.out.kept g1 id
      have hK := HKr.out.trans g1
      clear g1 HC HKr HLn c1 c2
      cases x <;> cases y
      all_goals
        simp only [reduceCtorEq, and_self, and_true, and_false, if_true, if_false, Int.add_zero] at D U
        go_wp2
        go_roundw
        case rel => exact ⟨k + 1, by go_num, by omega, by omega, by first | (rw [← EQ.out.1, ← D]; done) | (rw [← EQ.out.1, ← D]; go_num), by first | (rw [← EQ.out.2, ← U]; done) | (rw [← EQ.out.2, ← U]; go_num), by rw [← EY.out], hP, hK⟩
        case measure => simp [intOf]; omega
    · obtain rfl : k = L := by omega
      have c1 : decide (k + 1 ≤ k) = false := by simp; omega
      have e1 : dN p k h k = 1 := d_L RP.out.1 RP.out.2 HH.out.1 HH.out.2
      have e2 : uN p k k = 1 := u_L RP.out.1 RP.out.2
      have e3 : gB p k h k = gB p k h 0 := g_L RP.out.1 RP.out.2
      rw [e1, e2, e3]
      generalize gB p k h 0 = z at e3 ⊢
      clear e1 e2 e3
      go_wp2
      go_ret
      exact ⟨rfl, HB.out _ hK⟩

theorem PitRounds_walk (W : World) (l : Int) (l0 : 0 ≤ l) (l1 : l ≤ 65535) (n : Int) (n0 : 0 ≤ n) (n1 : n ≤ 4294967295) (t : Bool) : Calls Try.prog 4 #[.int .u16 l, .int .u32 n, .bool t] W fun e w' => e = .returned (.bool true) ∧ Below W.heap.size W w' := by
  cases t
  · by_cases hx : l % 2000 < 2
    · exact rounds_2s W l n _ _ l0 (by omega) n0 (by omega) hx rfl rfl
    · exact rounds_2n W l n _ _ l0 (by omega) n0 (by omega) hx rfl rfl
  · by_cases hx : l % 2000 < 2
    · exact rounds_3s W l n _ _ l0 (by omega) n0 (by omega) hx rfl rfl
    · exact rounds_3n W l n _ _ l0 (by omega) n0 (by omega) hx rfl rfl

end Go.Proofs.Yteodnlloilmoaaa
