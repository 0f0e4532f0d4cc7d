/- The walk of PitFalls. -/
import Derived.Test.YteodnlloilmoaaaPtFacts
import Derived.Test.YteodnlloilmoaaaPitNilLaw
namespace Go.Proofs.Yteodnlloilmoaaa
open Go.ChangeShapes Go.WideShapes Go.ChangeAt Go.RowKit
set_option linter.unusedVariables false

/-- Mode 0, one byte alone: b, 1 or 2. -/
def cF (b ln : Int) : Cn := ⟨0, b, ln, 0, false, 0, false, b == 2, 0, false⟩
def fF (b ln : Int) : Nat → Cn := upd f00 0 (cF b ln)
def fG (b : Int) : Nat → Cn := upd f00 0 ⟨0, b, 0, 0, true, 0, false, b == 2, 0, false⟩

theorem cF_ok {b ln : Int} (b0 : 1 ≤ b) (b1 : b ≤ 2) (l0 : 0 ≤ ln) (l1 : ln < 65536) : (cF b ln).Ok := by
  refine ⟨⟨by show (0 : Int) ≤ 0; decide, by show (0 : Int) ≤ 5; decide⟩, ⟨b0, by show b ≤ 3; omega⟩, ⟨l0, l1⟩, ⟨by show (0 : Int) ≤ 0; decide, by show (0 : Int) < _; decide⟩, ⟨by show (0 : Int) ≤ 0; decide, by show (0 : Int) < _; decide⟩, ⟨by show (0 : Int) ≤ 0; decide, by show (0 : Int) < _; decide⟩, fun e => ?_, fun e => ?_⟩
  · have e' : (b == 2) = true := e
    have : b = 2 := by simpa using e'
    show b ≠ 1
    omega
  · have : b = 2 := e
    show (b == 2) = true
    simp [this]
theorem fF_ok {b ln : Int} (b0 : 1 ≤ b) (b1 : b ≤ 2) (l0 : 0 ≤ ln) (l1 : ln < 65536) : Oks (fF b ln) := f00_ok.upd 0 (cF_ok b0 b1 l0 l1)

theorem fG_1 : outF f00 3 16 0 = fG 1 := rfl
theorem fG_2 : outF f00 3 32 0 = fG 2 := rfl
theorem fG_ok1 : Oks (fG 1) := fG_1 ▸ f00_ok.out (by decide) (by decide) (by decide) (by decide)
theorem fG_ok2 : Oks (fG 2) := fG_2 ▸ f00_ok.out (by decide) (by decide) (by decide) (by decide)
theorem fF_1 (x : Int) : outF (fG 1) 0 x 0 = fF 1 x := by
  have e : outF (fG 1) 0 x 0 = upd (fG 1) 0 ((fG 1 0).write x 0) := rfl
  rw [e]
  unfold fG fF
  rw [upd_upd, upd_at]
  rfl
theorem fF_2 (x : Int) : outF (fG 2) 0 x 0 = fF 2 (x * 256) := by
  have e : outF (fG 2) 0 x 0 = upd (fG 2) 0 ((fG 2 0).write x 0) := rfl
  rw [e]
  unfold fG fF
  rw [upd_upd, upd_at]
  rfl
theorem cF_value (b ln : Int) {now : Int} (n0 : 0 ≤ now) (n1 : now < 18446744073709551616) : (cF b ln).value now = (big ln - now) % 65536 := by
  have e : (cF b ln).steps now = now := by
    show (now - 0) % 18446744073709551616 = now
    omega
  have h : (cF b ln).value now = ((cF b ln).whole - (cF b ln).steps now) % 65536 := rfl
  rw [h, e]
  rfl
theorem cF_line (b ln : Int) {now : Int} (n0 : 0 ≤ now) (n1 : now < 18446744073709551616) : (fF b ln 0).line now = decide (big ln ≤ now) := by
  have e : (cF b ln).steps now = now := by
    show (now - 0) % 18446744073709551616 = now
    omega
  have h : (fF b ln 0).line now = decide ((cF b ln).whole ≤ (cF b ln).steps now) := rfl
  rw [h, e]
  rfl
theorem fF_in1 (ln : Int) {now : Int} (n0 : 0 ≤ now) (n1 : now < 18446744073709551616) : innV (fF 1 ln) 0 now = (big ln - now) % 65536 % 256 := by
  have h : innV (fF 1 ln) 0 now = (cF 1 ln).value now % 256 := rfl
  rw [h, cF_value 1 ln n0 n1]
theorem fF_in2 (ln : Int) {now : Int} (n0 : 0 ≤ now) (n1 : now < 18446744073709551616) : innV (fF 2 ln) 0 now = (big ln - now) % 65536 / 256 := by
  have h : innV (fF 2 ln) 0 now = (cF 2 ln).value now / 256 := rfl
  rw [h, cF_value 2 ln n0 n1]
theorem fF_stay1 (ln : Int) : innF (fF 1 ln) 0 = fF 1 ln := by
  have e : innF (fF 1 ln) 0 = upd (fF 1 ln) 0 (fF 1 ln 0).read := rfl
  rw [e]
  unfold fF
  rw [upd_upd, upd_at]
  rfl
theorem fF_stay2 (ln : Int) : innF (fF 2 ln) 0 = fF 2 ln := by
  have e : innF (fF 2 ln) 0 = upd (fF 2 ln) 0 (fF 2 ln 0).read := rfl
  rw [e]
  unfold fF
  rw [upd_upd, upd_at]
  rfl
theorem byte_byte {V : Int} (v0 : 0 ≤ V) (v1 : V < 65536) : V / 256 % 256 = V / 256 := by omega

set_option maxHeartbeats 1000000 in
theorem falls_lz_lt (W : World) (x n L : Int) (x0 : 0 ≤ x) (x1 : x < 256) (n0 : 0 ≤ n) (n1 : n < 256) (hL : L = big x) (hx : x = 0) (ho : n < L) : Calls Try.prog 7 #[.int .u8 x, .bool false, .int .u8 n] W fun e w' => e = .returned (.bool true) ∧ Below W.heap.size W w' := by
  have HA : Hid (∀ w, _) := awake_ok
  have HN : Hid (∀ w, _) := new_ok
  have HB : Hid (∀ w', Kp noB W w' → Below W.heap.size W w') := fun w' h => h.every
  have bL := big_bd (l := x) (by omega) (by omega)
  rw [← hL] at bL
  have H1 : Hid (∀ {w : World} {B : Nat}, PAt w B f00 → Calls Try.prog 11 #[.pointer (some ⟨B, 0, none⟩), .int .i64 3, .int .u8 16, .int .u64 0] w fun e w' => e = .returned (.int .i64 0) ∧ PAt w' B (fG 1) ∧ Kp (isB B) w w') := fun {w B} h => by
    have := out_ok h f00_ok 3 16 0 (by decide) (by decide) (by decide) (by decide)
    rw [fG_1] at this
    exact this
  have H2 : Hid (∀ {w : World} {B : Nat}, PAt w B (fG 1) → Calls Try.prog 11 #[.pointer (some ⟨B, 0, none⟩), .int .i64 0, .int .u8 x, .int .u64 0] w fun e w' => e = .returned (.int .i64 0) ∧ PAt w' B (fF 1 x) ∧ Kp (isB B) w w') := fun {w B} h => by
    have := out_ok h fG_ok1 0 x 0 (by decide) (by decide) x0 x1
    rw [fF_1] at this
    exact this
  have kF : Oks (fF 1 x) := fF_ok (by decide) (by decide) (by omega) (by omega)
  have H3 : Hid (∀ {w : World} {B : Nat} (now V : Int), 0 ≤ now ∧ now < 18446744073709551616 → (L - now) % 65536 = V → PAt w B (fF 1 x) → Calls Try.prog 13 #[.pointer (some ⟨B, 0, none⟩), .int .i64 0, .int .u64 now] w fun e w' => e = .returned (.tuple #[.int .u8 (V % 256), .int .i64 0]) ∧ PAt w' B (fF 1 x) ∧ Kp (isB B) w w') := fun {w B} now V hn hV h => by
    have := in_ok h kF 0 now (by decide) (by decide)
    rw [fF_in1 _ hn.1 hn.2, fF_stay1, ← hL, hV] at this
    exact this
  have H4 : Hid (∀ {w : World} {B : Nat} (now : Int) (y : Bool), 0 ≤ now ∧ now < 18446744073709551616 → decide (L ≤ now) = y → PAt w B (fF 1 x) → Calls Try.prog 15 #[.pointer (some ⟨B, 0, none⟩), .int .u64 now] w fun e w' => e = .returned (.bool y) ∧ Kp noB w w') := fun {w B} now y hn hy h => by
    have := line_any h kF now
    rw [cF_line _ _ hn.1 hn.2, ← hL, hy] at this
    exact this
  obtain ⟨V, hV⟩ : ∃ V, (L - n) % 65536 = V := ⟨_, rfl⟩
  have v0 : 0 ≤ V := by omega
  have v1 : V < 65536 := by omega
  have HV : Hid ((L - n) % 65536 = V) := hV
  have a1 : (L + 65536) % 18446744073709551616 = L + 65536 := by omega
  have a2 : (L + 65536 - n) % 18446744073709551616 = L + 65536 - n := by omega
  have a3 : (L + 65536 - n) % 65536 = V := by omega
  have a4 : V / 256 % 256 = V / 256 := byte_byte v0 v1
  have BN : Hid (0 ≤ n ∧ n < 18446744073709551616) := ⟨n0, by omega⟩
  have BL : Hid (0 ≤ L ∧ L < 18446744073709551616) := ⟨by omega, by omega⟩
  have d1 : decide (n < L) = true := by simp [ho]
  have d2 : decide (L < n) = false := by simp; omega
  have Y1 : Hid (decide (L ≤ n) = false) := by show decide (L ≤ n) = false; simp; omega
  have Y2 : Hid (decide (L ≤ L) = true) := by show decide (L ≤ L) = true; simp
  have HZ : Hid ((L - L) % 65536 = 0) := by show (L - L) % 65536 = 0; omega
  have H65 : Hid ((65536 : Int) = L) := by show (65536 : Int) = L; rw [hL, hx]; rfl
  subst hx
  clear hL ho hV bL kF
  go_enter Try.func7, Try.ntmps7
  go_wp2_with fail
  refine Calls.mono (HA.out _) ?_; rintro e w1 ⟨rfl, g1⟩
  go_wp2_with fail
  refine Calls.mono (HN.out _) ?_; rintro e w2 ⟨B, rfl, lB, h2, g2⟩
  have k2 := g1.trans g2
  have LB : Hid (W.heap.size ≤ B) := Nat.le_trans g1.size lB
  clear lB g1 g2
  replace h2 : PAt w2 B f00 := h2
  go_wp2_with fail
  refine Calls.mono (H1.out h2) ?_; rintro e w3 ⟨rfl, h3, g3⟩
  rw [H65.out]
  have k3 := k2.own g3 LB.out
  clear k2 g3 h2
  go_wp2_with fail
  refine Calls.mono (H2.out h3) ?_; rintro e w4 ⟨rfl, h4, g4⟩
  have k4 := k3.own g4 LB.out
  clear k3 g4 h3
  go_wp2_with fail
  refine Calls.mono (H3.out _ V BN.out HV.out h4) ?_; rintro e w5 ⟨rfl, h5, g5⟩
  have k5 := k4.own g5 LB.out
  clear k4 g5 h4
  go_wp2_with fail
  refine Calls.mono (H4.out _ _ BN.out Y1.out h5) ?_; rintro e w6 ⟨rfl, g6⟩
  have h6 := h5.kept g6 id
  have k6 := k5.and g6
  clear k5 g6 h5
  go_wp2_with fail
  refine Calls.mono (H3.out _ 0 BL.out HZ.out h6) ?_; rintro e w7 ⟨rfl, h7, g7⟩
  have k7 := k6.own g7 LB.out
  clear k6 g7 h6
  go_wp2_with fail
  refine Calls.mono (H4.out _ _ BL.out Y2.out h7) ?_; rintro e w8 ⟨rfl, g8⟩
  have k8 := k7.and g8
  go_wp2
  go_ret
  exact ⟨rfl, HB.out _ k8⟩

set_option maxHeartbeats 1000000 in
theorem falls_ln_lt (W : World) (x n L : Int) (x0 : 0 ≤ x) (x1 : x < 256) (n0 : 0 ≤ n) (n1 : n < 256) (hL : L = big x) (hx : ¬ x = 0) (ho : n < L) : Calls Try.prog 7 #[.int .u8 x, .bool false, .int .u8 n] W fun e w' => e = .returned (.bool true) ∧ Below W.heap.size W w' := by
  have HA : Hid (∀ w, _) := awake_ok
  have HN : Hid (∀ w, _) := new_ok
  have HB : Hid (∀ w', Kp noB W w' → Below W.heap.size W w') := fun w' h => h.every
  have bL := big_bd (l := x) (by omega) (by omega)
  rw [← hL] at bL
  have H1 : Hid (∀ {w : World} {B : Nat}, PAt w B f00 → Calls Try.prog 11 #[.pointer (some ⟨B, 0, none⟩), .int .i64 3, .int .u8 16, .int .u64 0] w fun e w' => e = .returned (.int .i64 0) ∧ PAt w' B (fG 1) ∧ Kp (isB B) w w') := fun {w B} h => by
    have := out_ok h f00_ok 3 16 0 (by decide) (by decide) (by decide) (by decide)
    rw [fG_1] at this
    exact this
  have H2 : Hid (∀ {w : World} {B : Nat}, PAt w B (fG 1) → Calls Try.prog 11 #[.pointer (some ⟨B, 0, none⟩), .int .i64 0, .int .u8 x, .int .u64 0] w fun e w' => e = .returned (.int .i64 0) ∧ PAt w' B (fF 1 x) ∧ Kp (isB B) w w') := fun {w B} h => by
    have := out_ok h fG_ok1 0 x 0 (by decide) (by decide) x0 x1
    rw [fF_1] at this
    exact this
  have kF : Oks (fF 1 x) := fF_ok (by decide) (by decide) (by omega) (by omega)
  have H3 : Hid (∀ {w : World} {B : Nat} (now V : Int), 0 ≤ now ∧ now < 18446744073709551616 → (L - now) % 65536 = V → PAt w B (fF 1 x) → Calls Try.prog 13 #[.pointer (some ⟨B, 0, none⟩), .int .i64 0, .int .u64 now] w fun e w' => e = .returned (.tuple #[.int .u8 (V % 256), .int .i64 0]) ∧ PAt w' B (fF 1 x) ∧ Kp (isB B) w w') := fun {w B} now V hn hV h => by
    have := in_ok h kF 0 now (by decide) (by decide)
    rw [fF_in1 _ hn.1 hn.2, fF_stay1, ← hL, hV] at this
    exact this
  have H4 : Hid (∀ {w : World} {B : Nat} (now : Int) (y : Bool), 0 ≤ now ∧ now < 18446744073709551616 → decide (L ≤ now) = y → PAt w B (fF 1 x) → Calls Try.prog 15 #[.pointer (some ⟨B, 0, none⟩), .int .u64 now] w fun e w' => e = .returned (.bool y) ∧ Kp noB w w') := fun {w B} now y hn hy h => by
    have := line_any h kF now
    rw [cF_line _ _ hn.1 hn.2, ← hL, hy] at this
    exact this
  obtain ⟨V, hV⟩ : ∃ V, (L - n) % 65536 = V := ⟨_, rfl⟩
  have v0 : 0 ≤ V := by omega
  have v1 : V < 65536 := by omega
  have HV : Hid ((L - n) % 65536 = V) := hV
  have a1 : (L + 65536) % 18446744073709551616 = L + 65536 := by omega
  have a2 : (L + 65536 - n) % 18446744073709551616 = L + 65536 - n := by omega
  have a3 : (L + 65536 - n) % 65536 = V := by omega
  have a4 : V / 256 % 256 = V / 256 := byte_byte v0 v1
  have BN : Hid (0 ≤ n ∧ n < 18446744073709551616) := ⟨n0, by omega⟩
  have BL : Hid (0 ≤ L ∧ L < 18446744073709551616) := ⟨by omega, by omega⟩
  have d1 : decide (n < L) = true := by simp [ho]
  have d2 : decide (L < n) = false := by simp; omega
  have Y1 : Hid (decide (L ≤ n) = false) := by show decide (L ≤ n) = false; simp; omega
  have Y2 : Hid (decide (L ≤ L) = true) := by show decide (L ≤ L) = true; simp
  have HZ : Hid ((L - L) % 65536 = 0) := by show (L - L) % 65536 = 0; omega
  have hz : (L == 0) = false := by simp; omega
  obtain rfl : L = x := by rw [hL]; unfold big; rw [if_neg hx]
  clear hL hx ho hV bL kF
  go_enter Try.func7, Try.ntmps7
  go_wp2_with fail
  refine Calls.mono (HA.out _) ?_; rintro e w1 ⟨rfl, g1⟩
  go_wp2_with fail
  refine Calls.mono (HN.out _) ?_; rintro e w2 ⟨B, rfl, lB, h2, g2⟩
  have k2 := g1.trans g2
  have LB : Hid (W.heap.size ≤ B) := Nat.le_trans g1.size lB
  clear lB g1 g2
  replace h2 : PAt w2 B f00 := h2
  go_wp2_with fail
  refine Calls.mono (H1.out h2) ?_; rintro e w3 ⟨rfl, h3, g3⟩
  skip
  have k3 := k2.own g3 LB.out
  clear k2 g3 h2
  go_wp2_with fail
  refine Calls.mono (H2.out h3) ?_; rintro e w4 ⟨rfl, h4, g4⟩
  have k4 := k3.own g4 LB.out
  clear k3 g4 h3
  go_wp2_with fail
  refine Calls.mono (H3.out _ V BN.out HV.out h4) ?_; rintro e w5 ⟨rfl, h5, g5⟩
  have k5 := k4.own g5 LB.out
  clear k4 g5 h4
  go_wp2_with fail
  refine Calls.mono (H4.out _ _ BN.out Y1.out h5) ?_; rintro e w6 ⟨rfl, g6⟩
  have h6 := h5.kept g6 id
  have k6 := k5.and g6
  clear k5 g6 h5
  go_wp2_with fail
  refine Calls.mono (H3.out _ 0 BL.out HZ.out h6) ?_; rintro e w7 ⟨rfl, h7, g7⟩
  have k7 := k6.own g7 LB.out
  clear k6 g7 h6
  go_wp2_with fail
  refine Calls.mono (H4.out _ _ BL.out Y2.out h7) ?_; rintro e w8 ⟨rfl, g8⟩
  have k8 := k7.and g8
  go_wp2
  go_ret
  exact ⟨rfl, HB.out _ k8⟩

set_option maxHeartbeats 1000000 in
theorem falls_ln_eq (W : World) (x n L : Int) (x0 : 0 ≤ x) (x1 : x < 256) (n0 : 0 ≤ n) (n1 : n < 256) (hL : L = big x) (hx : ¬ x = 0) (ho : n = L) : Calls Try.prog 7 #[.int .u8 x, .bool false, .int .u8 n] W fun e w' => e = .returned (.bool true) ∧ Below W.heap.size W w' := by
  have HA : Hid (∀ w, _) := awake_ok
  have HN : Hid (∀ w, _) := new_ok
  have HB : Hid (∀ w', Kp noB W w' → Below W.heap.size W w') := fun w' h => h.every
  have bL := big_bd (l := x) (by omega) (by omega)
  rw [← hL] at bL
  have H1 : Hid (∀ {w : World} {B : Nat}, PAt w B f00 → Calls Try.prog 11 #[.pointer (some ⟨B, 0, none⟩), .int .i64 3, .int .u8 16, .int .u64 0] w fun e w' => e = .returned (.int .i64 0) ∧ PAt w' B (fG 1) ∧ Kp (isB B) w w') := fun {w B} h => by
    have := out_ok h f00_ok 3 16 0 (by decide) (by decide) (by decide) (by decide)
    rw [fG_1] at this
    exact this
  have H2 : Hid (∀ {w : World} {B : Nat}, PAt w B (fG 1) → Calls Try.prog 11 #[.pointer (some ⟨B, 0, none⟩), .int .i64 0, .int .u8 x, .int .u64 0] w fun e w' => e = .returned (.int .i64 0) ∧ PAt w' B (fF 1 x) ∧ Kp (isB B) w w') := fun {w B} h => by
    have := out_ok h fG_ok1 0 x 0 (by decide) (by decide) x0 x1
    rw [fF_1] at this
    exact this
  have kF : Oks (fF 1 x) := fF_ok (by decide) (by decide) (by omega) (by omega)
  have H3 : Hid (∀ {w : World} {B : Nat} (now V : Int), 0 ≤ now ∧ now < 18446744073709551616 → (L - now) % 65536 = V → PAt w B (fF 1 x) → Calls Try.prog 13 #[.pointer (some ⟨B, 0, none⟩), .int .i64 0, .int .u64 now] w fun e w' => e = .returned (.tuple #[.int .u8 (V % 256), .int .i64 0]) ∧ PAt w' B (fF 1 x) ∧ Kp (isB B) w w') := fun {w B} now V hn hV h => by
    have := in_ok h kF 0 now (by decide) (by decide)
    rw [fF_in1 _ hn.1 hn.2, fF_stay1, ← hL, hV] at this
    exact this
  have H4 : Hid (∀ {w : World} {B : Nat} (now : Int) (y : Bool), 0 ≤ now ∧ now < 18446744073709551616 → decide (L ≤ now) = y → PAt w B (fF 1 x) → Calls Try.prog 15 #[.pointer (some ⟨B, 0, none⟩), .int .u64 now] w fun e w' => e = .returned (.bool y) ∧ Kp noB w w') := fun {w B} now y hn hy h => by
    have := line_any h kF now
    rw [cF_line _ _ hn.1 hn.2, ← hL, hy] at this
    exact this
  obtain ⟨V, hV⟩ : ∃ V, (L - n) % 65536 = V := ⟨_, rfl⟩
  have v0 : 0 ≤ V := by omega
  have v1 : V < 65536 := by omega
  have HV : Hid ((L - n) % 65536 = V) := hV
  have a1 : (L + 65536) % 18446744073709551616 = L + 65536 := by omega
  have a2 : (L + 65536 - n) % 18446744073709551616 = L + 65536 - n := by omega
  have a3 : (L + 65536 - n) % 65536 = V := by omega
  have a4 : V / 256 % 256 = V / 256 := byte_byte v0 v1
  have BN : Hid (0 ≤ n ∧ n < 18446744073709551616) := ⟨n0, by omega⟩
  have BL : Hid (0 ≤ L ∧ L < 18446744073709551616) := ⟨by omega, by omega⟩
  have d1 : decide (n < L) = false := by simp; omega
  have d2 : decide (L < n) = false := by simp; omega
  have Y2 : Hid (decide (L ≤ L) = true) := by show decide (L ≤ L) = true; simp
  have HZ : Hid ((L - L) % 65536 = 0) := by show (L - L) % 65536 = 0; omega
  have hz : (L == 0) = false := by simp; omega
  obtain rfl : L = x := by rw [hL]; unfold big; rw [if_neg hx]
  clear hL hx ho hV bL kF
  go_enter Try.func7, Try.ntmps7
  go_wp2_with fail
  refine Calls.mono (HA.out _) ?_; rintro e w1 ⟨rfl, g1⟩
  go_wp2_with fail
  refine Calls.mono (HN.out _) ?_; rintro e w2 ⟨B, rfl, lB, h2, g2⟩
  have k2 := g1.trans g2
  have LB : Hid (W.heap.size ≤ B) := Nat.le_trans g1.size lB
  clear lB g1 g2
  replace h2 : PAt w2 B f00 := h2
  go_wp2_with fail
  refine Calls.mono (H1.out h2) ?_; rintro e w3 ⟨rfl, h3, g3⟩
  skip
  have k3 := k2.own g3 LB.out
  clear k2 g3 h2
  go_wp2_with fail
  refine Calls.mono (H2.out h3) ?_; rintro e w4 ⟨rfl, h4, g4⟩
  have k4 := k3.own g4 LB.out
  clear k3 g4 h3
  go_wp2_with fail
  refine Calls.mono (H3.out _ V BN.out HV.out h4) ?_; rintro e w5 ⟨rfl, h5, g5⟩
  have k5 := k4.own g5 LB.out
  clear k4 g5 h4
  have h6 := h5
  have k6 := k5
  clear h5 k5
  go_wp2_with fail
  refine Calls.mono (H3.out _ 0 BL.out HZ.out h6) ?_; rintro e w7 ⟨rfl, h7, g7⟩
  have k7 := k6.own g7 LB.out
  clear k6 g7 h6
  go_wp2_with fail
  refine Calls.mono (H4.out _ _ BL.out Y2.out h7) ?_; rintro e w8 ⟨rfl, g8⟩
  have k8 := k7.and g8
  go_wp2
  go_ret
  exact ⟨rfl, HB.out _ k8⟩

set_option maxHeartbeats 1000000 in
theorem falls_ln_gt (W : World) (x n L : Int) (x0 : 0 ≤ x) (x1 : x < 256) (n0 : 0 ≤ n) (n1 : n < 256) (hL : L = big x) (hx : ¬ x = 0) (ho : L < n) : Calls Try.prog 7 #[.int .u8 x, .bool false, .int .u8 n] W fun e w' => e = .returned (.bool true) ∧ Below W.heap.size W w' := by
  have HA : Hid (∀ w, _) := awake_ok
  have HN : Hid (∀ w, _) := new_ok
  have HB : Hid (∀ w', Kp noB W w' → Below W.heap.size W w') := fun w' h => h.every
  have bL := big_bd (l := x) (by omega) (by omega)
  rw [← hL] at bL
  have H1 : Hid (∀ {w : World} {B : Nat}, PAt w B f00 → Calls Try.prog 11 #[.pointer (some ⟨B, 0, none⟩), .int .i64 3, .int .u8 16, .int .u64 0] w fun e w' => e = .returned (.int .i64 0) ∧ PAt w' B (fG 1) ∧ Kp (isB B) w w') := fun {w B} h => by
    have := out_ok h f00_ok 3 16 0 (by decide) (by decide) (by decide) (by decide)
    rw [fG_1] at this
    exact this
  have H2 : Hid (∀ {w : World} {B : Nat}, PAt w B (fG 1) → Calls Try.prog 11 #[.pointer (some ⟨B, 0, none⟩), .int .i64 0, .int .u8 x, .int .u64 0] w fun e w' => e = .returned (.int .i64 0) ∧ PAt w' B (fF 1 x) ∧ Kp (isB B) w w') := fun {w B} h => by
    have := out_ok h fG_ok1 0 x 0 (by decide) (by decide) x0 x1
    rw [fF_1] at this
    exact this
  have kF : Oks (fF 1 x) := fF_ok (by decide) (by decide) (by omega) (by omega)
  have H3 : Hid (∀ {w : World} {B : Nat} (now V : Int), 0 ≤ now ∧ now < 18446744073709551616 → (L - now) % 65536 = V → PAt w B (fF 1 x) → Calls Try.prog 13 #[.pointer (some ⟨B, 0, none⟩), .int .i64 0, .int .u64 now] w fun e w' => e = .returned (.tuple #[.int .u8 (V % 256), .int .i64 0]) ∧ PAt w' B (fF 1 x) ∧ Kp (isB B) w w') := fun {w B} now V hn hV h => by
    have := in_ok h kF 0 now (by decide) (by decide)
    rw [fF_in1 _ hn.1 hn.2, fF_stay1, ← hL, hV] at this
    exact this
  have H4 : Hid (∀ {w : World} {B : Nat} (now : Int) (y : Bool), 0 ≤ now ∧ now < 18446744073709551616 → decide (L ≤ now) = y → PAt w B (fF 1 x) → Calls Try.prog 15 #[.pointer (some ⟨B, 0, none⟩), .int .u64 now] w fun e w' => e = .returned (.bool y) ∧ Kp noB w w') := fun {w B} now y hn hy h => by
    have := line_any h kF now
    rw [cF_line _ _ hn.1 hn.2, ← hL, hy] at this
    exact this
  obtain ⟨V, hV⟩ : ∃ V, (L - n) % 65536 = V := ⟨_, rfl⟩
  have v0 : 0 ≤ V := by omega
  have v1 : V < 65536 := by omega
  have HV : Hid ((L - n) % 65536 = V) := hV
  have a1 : (L + 65536) % 18446744073709551616 = L + 65536 := by omega
  have a2 : (L + 65536 - n) % 18446744073709551616 = L + 65536 - n := by omega
  have a3 : (L + 65536 - n) % 65536 = V := by omega
  have a4 : V / 256 % 256 = V / 256 := byte_byte v0 v1
  have BN : Hid (0 ≤ n ∧ n < 18446744073709551616) := ⟨n0, by omega⟩
  have BL : Hid (0 ≤ L ∧ L < 18446744073709551616) := ⟨by omega, by omega⟩
  have d1 : decide (n < L) = false := by simp; omega
  have d2 : decide (L < n) = true := by simp [ho]
  have d3 : (n != L) = true := by simp; omega
  have Y2 : Hid (decide (L ≤ n) = true) := by show decide (L ≤ n) = true; simp; omega
  have hz : (L == 0) = false := by simp; omega
  obtain rfl : L = x := by rw [hL]; unfold big; rw [if_neg hx]
  clear hL hx ho hV bL kF
  go_enter Try.func7, Try.ntmps7
  go_wp2_with fail
  refine Calls.mono (HA.out _) ?_; rintro e w1 ⟨rfl, g1⟩
  go_wp2_with fail
  refine Calls.mono (HN.out _) ?_; rintro e w2 ⟨B, rfl, lB, h2, g2⟩
  have k2 := g1.trans g2
  have LB : Hid (W.heap.size ≤ B) := Nat.le_trans g1.size lB
  clear lB g1 g2
  replace h2 : PAt w2 B f00 := h2
  go_wp2_with fail
  refine Calls.mono (H1.out h2) ?_; rintro e w3 ⟨rfl, h3, g3⟩
  skip
  have k3 := k2.own g3 LB.out
  clear k2 g3 h2
  go_wp2_with fail
  refine Calls.mono (H2.out h3) ?_; rintro e w4 ⟨rfl, h4, g4⟩
  have k4 := k3.own g4 LB.out
  clear k3 g4 h3
  go_wp2_with fail
  refine Calls.mono (H3.out _ V BN.out HV.out h4) ?_; rintro e w5 ⟨rfl, h5, g5⟩
  have k5 := k4.own g5 LB.out
  clear k4 g5 h4
  have h6 := h5
  have k6 := k5
  clear h5 k5
  go_wp2_with fail
  refine Calls.mono (H3.out _ V BN.out HV.out h6) ?_; rintro e w7 ⟨rfl, h7, g7⟩
  have k7 := k6.own g7 LB.out
  clear k6 g7 h6
  go_wp2_with fail
  refine Calls.mono (H4.out _ _ BN.out Y2.out h7) ?_; rintro e w8 ⟨rfl, g8⟩
  have k8 := k7.and g8
  go_wp2
  go_ret
  exact ⟨rfl, HB.out _ k8⟩

set_option maxHeartbeats 1000000 in
theorem falls_uz_lt (W : World) (x n L : Int) (x0 : 0 ≤ x) (x1 : x < 256) (n0 : 0 ≤ n) (n1 : n < 256) (hL : L = big (x * 256)) (hx : x = 0) (ho : n < L) : Calls Try.prog 7 #[.int .u8 x, .bool true, .int .u8 n] W fun e w' => e = .returned (.bool true) ∧ Below W.heap.size W w' := by
  have HA : Hid (∀ w, _) := awake_ok
  have HN : Hid (∀ w, _) := new_ok
  have HB : Hid (∀ w', Kp noB W w' → Below W.heap.size W w') := fun w' h => h.every
  have bL := big_bd (l := (x * 256)) (by omega) (by omega)
  rw [← hL] at bL
  have H1 : Hid (∀ {w : World} {B : Nat}, PAt w B f00 → Calls Try.prog 11 #[.pointer (some ⟨B, 0, none⟩), .int .i64 3, .int .u8 32, .int .u64 0] w fun e w' => e = .returned (.int .i64 0) ∧ PAt w' B (fG 2) ∧ Kp (isB B) w w') := fun {w B} h => by
    have := out_ok h f00_ok 3 32 0 (by decide) (by decide) (by decide) (by decide)
    rw [fG_2] at this
    exact this
  have H2 : Hid (∀ {w : World} {B : Nat}, PAt w B (fG 2) → Calls Try.prog 11 #[.pointer (some ⟨B, 0, none⟩), .int .i64 0, .int .u8 x, .int .u64 0] w fun e w' => e = .returned (.int .i64 0) ∧ PAt w' B (fF 2 (x * 256)) ∧ Kp (isB B) w w') := fun {w B} h => by
    have := out_ok h fG_ok2 0 x 0 (by decide) (by decide) x0 x1
    rw [fF_2] at this
    exact this
  have kF : Oks (fF 2 (x * 256)) := fF_ok (by decide) (by decide) (by omega) (by omega)
  have H3 : Hid (∀ {w : World} {B : Nat} (now V : Int), 0 ≤ now ∧ now < 18446744073709551616 → (L - now) % 65536 = V → PAt w B (fF 2 (x * 256)) → Calls Try.prog 13 #[.pointer (some ⟨B, 0, none⟩), .int .i64 0, .int .u64 now] w fun e w' => e = .returned (.tuple #[.int .u8 (V / 256), .int .i64 0]) ∧ PAt w' B (fF 2 (x * 256)) ∧ Kp (isB B) w w') := fun {w B} now V hn hV h => by
    have := in_ok h kF 0 now (by decide) (by decide)
    rw [fF_in2 _ hn.1 hn.2, fF_stay2, ← hL, hV] at this
    exact this
  have H4 : Hid (∀ {w : World} {B : Nat} (now : Int) (y : Bool), 0 ≤ now ∧ now < 18446744073709551616 → decide (L ≤ now) = y → PAt w B (fF 2 (x * 256)) → Calls Try.prog 15 #[.pointer (some ⟨B, 0, none⟩), .int .u64 now] w fun e w' => e = .returned (.bool y) ∧ Kp noB w w') := fun {w B} now y hn hy h => by
    have := line_any h kF now
    rw [cF_line _ _ hn.1 hn.2, ← hL, hy] at this
    exact this
  obtain ⟨V, hV⟩ : ∃ V, (L - n) % 65536 = V := ⟨_, rfl⟩
  have v0 : 0 ≤ V := by omega
  have v1 : V < 65536 := by omega
  have HV : Hid ((L - n) % 65536 = V) := hV
  have a1 : (L + 65536) % 18446744073709551616 = L + 65536 := by omega
  have a2 : (L + 65536 - n) % 18446744073709551616 = L + 65536 - n := by omega
  have a3 : (L + 65536 - n) % 65536 = V := by omega
  have a4 : V / 256 % 256 = V / 256 := byte_byte v0 v1
  have BN : Hid (0 ≤ n ∧ n < 18446744073709551616) := ⟨n0, by omega⟩
  have BL : Hid (0 ≤ L ∧ L < 18446744073709551616) := ⟨by omega, by omega⟩
  have d1 : decide (n < L) = true := by simp [ho]
  have d2 : decide (L < n) = false := by simp; omega
  have Y1 : Hid (decide (L ≤ n) = false) := by show decide (L ≤ n) = false; simp; omega
  have Y2 : Hid (decide (L ≤ L) = true) := by show decide (L ≤ L) = true; simp
  have HZ : Hid ((L - L) % 65536 = 0) := by show (L - L) % 65536 = 0; omega
  have H65 : Hid ((65536 : Int) = L) := by show (65536 : Int) = L; rw [hL, hx]; rfl
  subst hx
  clear hL ho hV bL kF
  go_enter Try.func7, Try.ntmps7
  go_wp2_with fail
  refine Calls.mono (HA.out _) ?_; rintro e w1 ⟨rfl, g1⟩
  go_wp2_with fail
  refine Calls.mono (HN.out _) ?_; rintro e w2 ⟨B, rfl, lB, h2, g2⟩
  have k2 := g1.trans g2
  have LB : Hid (W.heap.size ≤ B) := Nat.le_trans g1.size lB
  clear lB g1 g2
  replace h2 : PAt w2 B f00 := h2
  go_wp2_with fail
  refine Calls.mono (H1.out h2) ?_; rintro e w3 ⟨rfl, h3, g3⟩
  rw [H65.out]
  have k3 := k2.own g3 LB.out
  clear k2 g3 h2
  go_wp2_with fail
  refine Calls.mono (H2.out h3) ?_; rintro e w4 ⟨rfl, h4, g4⟩
  have k4 := k3.own g4 LB.out
  clear k3 g4 h3
  go_wp2_with fail
  refine Calls.mono (H3.out _ V BN.out HV.out h4) ?_; rintro e w5 ⟨rfl, h5, g5⟩
  have k5 := k4.own g5 LB.out
  clear k4 g5 h4
  go_wp2_with fail
  refine Calls.mono (H4.out _ _ BN.out Y1.out h5) ?_; rintro e w6 ⟨rfl, g6⟩
  have h6 := h5.kept g6 id
  have k6 := k5.and g6
  clear k5 g6 h5
  go_wp2_with fail
  refine Calls.mono (H3.out _ 0 BL.out HZ.out h6) ?_; rintro e w7 ⟨rfl, h7, g7⟩
  have k7 := k6.own g7 LB.out
  clear k6 g7 h6
  go_wp2_with fail
  refine Calls.mono (H4.out _ _ BL.out Y2.out h7) ?_; rintro e w8 ⟨rfl, g8⟩
  have k8 := k7.and g8
  go_wp2
  go_ret
  exact ⟨rfl, HB.out _ k8⟩

set_option maxHeartbeats 1000000 in
theorem falls_un_lt (W : World) (x n L : Int) (x0 : 0 ≤ x) (x1 : x < 256) (n0 : 0 ≤ n) (n1 : n < 256) (hL : L = big (x * 256)) (hx : ¬ x = 0) (ho : n < L) : Calls Try.prog 7 #[.int .u8 x, .bool true, .int .u8 n] W fun e w' => e = .returned (.bool true) ∧ Below W.heap.size W w' := by
  have HA : Hid (∀ w, _) := awake_ok
  have HN : Hid (∀ w, _) := new_ok
  have HB : Hid (∀ w', Kp noB W w' → Below W.heap.size W w') := fun w' h => h.every
  have bL := big_bd (l := (x * 256)) (by omega) (by omega)
  rw [← hL] at bL
  have H1 : Hid (∀ {w : World} {B : Nat}, PAt w B f00 → Calls Try.prog 11 #[.pointer (some ⟨B, 0, none⟩), .int .i64 3, .int .u8 32, .int .u64 0] w fun e w' => e = .returned (.int .i64 0) ∧ PAt w' B (fG 2) ∧ Kp (isB B) w w') := fun {w B} h => by
    have := out_ok h f00_ok 3 32 0 (by decide) (by decide) (by decide) (by decide)
    rw [fG_2] at this
    exact this
  have H2 : Hid (∀ {w : World} {B : Nat}, PAt w B (fG 2) → Calls Try.prog 11 #[.pointer (some ⟨B, 0, none⟩), .int .i64 0, .int .u8 x, .int .u64 0] w fun e w' => e = .returned (.int .i64 0) ∧ PAt w' B (fF 2 (x * 256)) ∧ Kp (isB B) w w') := fun {w B} h => by
    have := out_ok h fG_ok2 0 x 0 (by decide) (by decide) x0 x1
    rw [fF_2] at this
    exact this
  have kF : Oks (fF 2 (x * 256)) := fF_ok (by decide) (by decide) (by omega) (by omega)
  have H3 : Hid (∀ {w : World} {B : Nat} (now V : Int), 0 ≤ now ∧ now < 18446744073709551616 → (L - now) % 65536 = V → PAt w B (fF 2 (x * 256)) → Calls Try.prog 13 #[.pointer (some ⟨B, 0, none⟩), .int .i64 0, .int .u64 now] w fun e w' => e = .returned (.tuple #[.int .u8 (V / 256), .int .i64 0]) ∧ PAt w' B (fF 2 (x * 256)) ∧ Kp (isB B) w w') := fun {w B} now V hn hV h => by
    have := in_ok h kF 0 now (by decide) (by decide)
    rw [fF_in2 _ hn.1 hn.2, fF_stay2, ← hL, hV] at this
    exact this
  have H4 : Hid (∀ {w : World} {B : Nat} (now : Int) (y : Bool), 0 ≤ now ∧ now < 18446744073709551616 → decide (L ≤ now) = y → PAt w B (fF 2 (x * 256)) → Calls Try.prog 15 #[.pointer (some ⟨B, 0, none⟩), .int .u64 now] w fun e w' => e = .returned (.bool y) ∧ Kp noB w w') := fun {w B} now y hn hy h => by
    have := line_any h kF now
    rw [cF_line _ _ hn.1 hn.2, ← hL, hy] at this
    exact this
  obtain ⟨V, hV⟩ : ∃ V, (L - n) % 65536 = V := ⟨_, rfl⟩
  have v0 : 0 ≤ V := by omega
  have v1 : V < 65536 := by omega
  have HV : Hid ((L - n) % 65536 = V) := hV
  have a1 : (L + 65536) % 18446744073709551616 = L + 65536 := by omega
  have a2 : (L + 65536 - n) % 18446744073709551616 = L + 65536 - n := by omega
  have a3 : (L + 65536 - n) % 65536 = V := by omega
  have a4 : V / 256 % 256 = V / 256 := byte_byte v0 v1
  have BN : Hid (0 ≤ n ∧ n < 18446744073709551616) := ⟨n0, by omega⟩
  have BL : Hid (0 ≤ L ∧ L < 18446744073709551616) := ⟨by omega, by omega⟩
  have d1 : decide (n < L) = true := by simp [ho]
  have d2 : decide (L < n) = false := by simp; omega
  have Y1 : Hid (decide (L ≤ n) = false) := by show decide (L ≤ n) = false; simp; omega
  have Y2 : Hid (decide (L ≤ L) = true) := by show decide (L ≤ L) = true; simp
  have HZ : Hid ((L - L) % 65536 = 0) := by show (L - L) % 65536 = 0; omega
  have hz : (L == 0) = false := by simp; omega
  have hM : x * 256 = L := by rw [hL]; unfold big; rw [if_neg (by omega)]
  have hM2 : x * 256 % 18446744073709551616 = L := by omega
  clear hL hx ho hV bL kF
  go_enter Try.func7, Try.ntmps7
  go_wp2_with fail
  refine Calls.mono (HA.out _) ?_; rintro e w1 ⟨rfl, g1⟩
  go_wp2_with fail
  refine Calls.mono (HN.out _) ?_; rintro e w2 ⟨B, rfl, lB, h2, g2⟩
  have k2 := g1.trans g2
  have LB : Hid (W.heap.size ≤ B) := Nat.le_trans g1.size lB
  clear lB g1 g2
  replace h2 : PAt w2 B f00 := h2
  go_wp2_with fail
  refine Calls.mono (H1.out h2) ?_; rintro e w3 ⟨rfl, h3, g3⟩
  skip
  have k3 := k2.own g3 LB.out
  clear k2 g3 h2
  go_wp2_with fail
  refine Calls.mono (H2.out h3) ?_; rintro e w4 ⟨rfl, h4, g4⟩
  have k4 := k3.own g4 LB.out
  clear k3 g4 h3
  go_wp2_with fail
  refine Calls.mono (H3.out _ V BN.out HV.out h4) ?_; rintro e w5 ⟨rfl, h5, g5⟩
  have k5 := k4.own g5 LB.out
  clear k4 g5 h4
  go_wp2_with fail
  refine Calls.mono (H4.out _ _ BN.out Y1.out h5) ?_; rintro e w6 ⟨rfl, g6⟩
  have h6 := h5.kept g6 id
  have k6 := k5.and g6
  clear k5 g6 h5
  go_wp2_with fail
  refine Calls.mono (H3.out _ 0 BL.out HZ.out h6) ?_; rintro e w7 ⟨rfl, h7, g7⟩
  have k7 := k6.own g7 LB.out
  clear k6 g7 h6
  go_wp2_with fail
  refine Calls.mono (H4.out _ _ BL.out Y2.out h7) ?_; rintro e w8 ⟨rfl, g8⟩
  have k8 := k7.and g8
  go_wp2
  go_ret
  exact ⟨rfl, HB.out _ k8⟩

theorem PitFalls_walk (W : World) (x : Int) (x0 : 0 ≤ x) (x1 : x ≤ 255) (u : Bool) (n : Int) (n0 : 0 ≤ n) (n1 : n ≤ 255) : Calls Try.prog 7 #[.int .u8 x, .bool u, .int .u8 n] W fun e w' => e = .returned (.bool true) ∧ Below W.heap.size W w' := by
  cases u
  · by_cases hx : x = 0
    · exact falls_lz_lt W x n _ x0 (by omega) n0 (by omega) rfl hx (by unfold big; rw [if_pos hx]; omega)
    · have e : big x = x := by unfold big; rw [if_neg hx]
      rcases (by omega : n < x ∨ n = x ∨ x < n) with g | g | g
      · exact falls_ln_lt W x n _ x0 (by omega) n0 (by omega) rfl hx (by rw [e]; exact g)
      · exact falls_ln_eq W x n _ x0 (by omega) n0 (by omega) rfl hx (by rw [e]; exact g)
      · exact falls_ln_gt W x n _ x0 (by omega) n0 (by omega) rfl hx (by rw [e]; exact g)
  · by_cases hx : x = 0
    · exact falls_uz_lt W x n _ x0 (by omega) n0 (by omega) rfl hx (by unfold big; rw [if_pos (by omega)]; omega)
    · have e : big (x * 256) = x * 256 := by unfold big; rw [if_neg (by omega)]
      exact falls_un_lt W x n _ x0 (by omega) n0 (by omega) rfl hx (by rw [e]; omega)
end Go.Proofs.Yteodnlloilmoaaa
