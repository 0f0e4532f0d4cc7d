/- The walk of PitHolds. -/
import Derived.Test.YteodnlloilmoaaaPtFacts
import Derived.Test.YteodnlloilmoaaaPitNilLaw
namespace Go.Proofs.Yteodnlloilmoaaa
open Go.ChangeShapes Go.WideShapes Go.ChangeAt Go.RowKit
set_option linter.unusedVariables false

theorem two_bytes (V : Int) : V % 256 + V / 256 * 256 = V := by omega
theorem up_byte {V : Int} (v0 : 0 ≤ V) (v1 : V < 65536) : V / 256 * 256 % 18446744073709551616 = V / 256 * 256 := by omega
theorem small64 {V : Int} (v0 : 0 ≤ V) (v1 : V < 65536) : V % 18446744073709551616 = V := by omega

set_option maxHeartbeats 1000000 in
theorem holds_n (W : World) (l a t L : Int) (hL : L = big l) (hl : ¬ l = 0) (l0 : 0 ≤ l) (l1 : l < 65536) (a0 : 0 ≤ a) (a1 : a < 65536) (t0 : 0 ≤ t) (t1 : t < 4294967296) : Calls Try.prog 5 #[.int .u16 l, .int .u16 a, .int .u32 t] W fun e w' => e = .returned (.bool true) ∧ Below W.heap.size W w' := by
  have HA : Hid (∀ w, _) := awake_ok
  have HS : Hid (∀ w, _) := fun w => started_ok w 2 l (by decide) (by decide) l0 l1
  have HB : Hid (∀ w', Kp noB W w' → Below W.heap.size W w') := fun w' h => h.every
  have bL := big_bd l0 l1
  rw [← hL] at bL
  obtain ⟨V, hV⟩ : ∃ V, V = (L - a % L) % 65536 := ⟨_, rfl⟩
  obtain ⟨U, hU⟩ : ∃ U, U = (L - (a + t + t) % L) % 65536 := ⟨_, rfl⟩
  have rA := rem_bd (n := a) bL.1
  have rU := rem_bd (n := a + t + t) bL.1
  have HO : Hid (∀ {w : World} {B : Nat}, PAt w B (fS 2 l) → Calls Try.prog 11 #[.pointer (some ⟨B, 0, none⟩), .int .i64 3, .int .u8 0, .int .u64 a] w fun e w' => e = .returned (.int .i64 0) ∧ PAt w' B (fH l V false true) ∧ Kp (isB B) w w') := fun {w B} h => by
    have := out_ok h (fS_ok (by decide) (by decide) l0 l1) 3 0 a (by decide) (by decide) (by decide) (by decide)
    rw [fH_hold a0 (by omega), ← hL, ← hV] at this
    exact this
  have v0 : 0 ≤ V := by omega
  have v1 : V < 65536 := by omega
  have u0 : 0 ≤ U := by omega
  have u1 : U < 65536 := by omega
  have H1 : Hid (∀ {w : World} {B : Nat} (now : Int), PAt w B (fH l V false true) → Calls Try.prog 13 #[.pointer (some ⟨B, 0, none⟩), .int .i64 0, .int .u64 now] w fun e w' => e = .returned (.tuple #[.int .u8 (V % 256), .int .i64 0]) ∧ PAt w' B (fH l V true true) ∧ Kp (isB B) w w') := fun {w B} now h => by
    have := in_ok h (fH_ok _ _ l0 l1 v0 v1) 0 now (by decide) (by decide)
    rw [fH_in1, fH_f1] at this
    exact this
  have H2 : Hid (∀ {w : World} {B : Nat} (now : Int), PAt w B (fH l V true true) → Calls Try.prog 13 #[.pointer (some ⟨B, 0, none⟩), .int .i64 0, .int .u64 now] w fun e w' => e = .returned (.tuple #[.int .u8 (V / 256), .int .i64 0]) ∧ PAt w' B (fH l V false false) ∧ Kp (isB B) w w') := fun {w B} now h => by
    have := in_ok h (fH_ok _ _ l0 l1 v0 v1) 0 now (by decide) (by decide)
    rw [fH_in2, fH_f2] at this
    exact this
  have H3 : Hid (∀ {w : World} {B : Nat}, PAt w B (fH l V false false) → Calls Try.prog 13 #[.pointer (some ⟨B, 0, none⟩), .int .i64 0, .int .u64 (a + t + t)] w fun e w' => e = .returned (.tuple #[.int .u8 (U % 256), .int .i64 0]) ∧ PAt w' B (fH l V true false) ∧ Kp (isB B) w w') := fun {w B} h => by
    have := in_ok h (fH_ok _ _ l0 l1 v0 v1) 0 (a + t + t) (by decide) (by decide)
    rw [fH_in3 l V (by omega) (by omega), fH_f3, ← hL, ← hU] at this
    exact this
  have H4 : Hid (∀ {w : World} {B : Nat}, PAt w B (fH l V true false) → Calls Try.prog 13 #[.pointer (some ⟨B, 0, none⟩), .int .i64 0, .int .u64 (a + t + t)] w fun e w' => e = .returned (.tuple #[.int .u8 (U / 256), .int .i64 0]) ∧ Kp (isB B) w w') := fun {w B} h => by
    have := in_ok h (fH_ok _ _ l0 l1 v0 v1) 0 (a + t + t) (by decide) (by decide)
    rw [fH_in4 l V (by omega) (by omega), ← hL, ← hU] at this
    exact this.mono fun e w' ⟨x, _, y⟩ => ⟨x, y⟩
  have hz : (L == 0) = false := by simp; omega
  have x5 : (a + t) % 18446744073709551616 = a + t := by omega
  have x6 : (a + t + t) % 18446744073709551616 = a + t + t := by omega
  obtain rfl : L = l := by rw [hL]; unfold big; rw [if_neg hl]
  have hl' : (L == 0) = false := by simp [hl]
  obtain ⟨r, hr⟩ : ∃ r, r = a % L := ⟨_, rfl⟩
  obtain ⟨q, hq⟩ : ∃ q, q = (a + t + t) % L := ⟨_, rfl⟩
  rw [← hr] at rA hV
  rw [← hq] at rU hU
  replace hr := hr.symm
  replace hq := hq.symm
  have y1 : (L - r) % 18446744073709551616 = L - r := by omega
  have y2 : (L - q) % 18446744073709551616 = L - q := by omega
  replace hV := hV.symm
  replace hU := hU.symm
  clear hL hl rA rU
  go_enter Try.func5, Try.ntmps5
  go_wp2_with fail
  refine Calls.mono (HA.out _) ?_; rintro e w1 ⟨rfl, g1⟩
  go_wp2_with fail
  refine Calls.mono (HS.out _) ?_; rintro e w2 ⟨B, rfl, lB, h2, g2⟩
  have k2 := g1.trans g2
  have LB : Hid (W.heap.size ≤ B) := Nat.le_trans g1.size lB
  clear lB g1 g2
  go_wp2_with fail
  refine Calls.mono (HO.out h2) ?_; rintro e w3 ⟨rfl, h3, g3⟩
  have k3 := k2.own g3 LB.out
  go_wp2_with fail
  refine Calls.mono (H1.out _ h3) ?_; rintro e w4 ⟨rfl, h4, g4⟩
  have k4 := k3.own g4 LB.out
  go_wp2_with fail
  refine Calls.mono (H2.out _ h4) ?_; rintro e w5 ⟨rfl, h5, g5⟩
  have k5 := k4.own g5 LB.out
  have z1 : V % 256 + V / 256 * 256 = V := two_bytes V
  have z2 : V / 256 * 256 % 18446744073709551616 = V / 256 * 256 := up_byte v0 v1
  have z3 : V % 18446744073709551616 = V := small64 v0 v1
  go_wp2_with fail
  refine Calls.mono (H3.out h5) ?_; rintro e w6 ⟨rfl, h6, g6⟩
  have k6 := k5.own g6 LB.out
  go_wp2_with fail
  refine Calls.mono (H4.out h6) ?_; rintro e w7 ⟨rfl, g7⟩
  have k7 := k6.own g7 LB.out
  have y1 : U % 256 + U / 256 * 256 = U := two_bytes U
  have y2 : U / 256 * 256 % 18446744073709551616 = U / 256 * 256 := up_byte u0 u1
  have y3 : U % 18446744073709551616 = U := small64 u0 u1
  go_wp2
  go_ret
  exact ⟨rfl, HB.out _ k7⟩

set_option maxHeartbeats 1000000 in
theorem holds_0 (W : World) (l a t L : Int) (hL : L = big l) (hl : l = 0) (l0 : 0 ≤ l) (l1 : l < 65536) (a0 : 0 ≤ a) (a1 : a < 65536) (t0 : 0 ≤ t) (t1 : t < 4294967296) : Calls Try.prog 5 #[.int .u16 l, .int .u16 a, .int .u32 t] W fun e w' => e = .returned (.bool true) ∧ Below W.heap.size W w' := by
  have HA : Hid (∀ w, _) := awake_ok
  have HS : Hid (∀ w, _) := fun w => started_ok w 2 l (by decide) (by decide) l0 l1
  have HB : Hid (∀ w', Kp noB W w' → Below W.heap.size W w') := fun w' h => h.every
  have bL := big_bd l0 l1
  rw [← hL] at bL
  obtain ⟨V, hV⟩ : ∃ V, V = (L - a % L) % 65536 := ⟨_, rfl⟩
  obtain ⟨U, hU⟩ : ∃ U, U = (L - (a + t + t) % L) % 65536 := ⟨_, rfl⟩
  have rA := rem_bd (n := a) bL.1
  have rU := rem_bd (n := a + t + t) bL.1
  have HO : Hid (∀ {w : World} {B : Nat}, PAt w B (fS 2 l) → Calls Try.prog 11 #[.pointer (some ⟨B, 0, none⟩), .int .i64 3, .int .u8 0, .int .u64 a] w fun e w' => e = .returned (.int .i64 0) ∧ PAt w' B (fH l V false true) ∧ Kp (isB B) w w') := fun {w B} h => by
    have := out_ok h (fS_ok (by decide) (by decide) l0 l1) 3 0 a (by decide) (by decide) (by decide) (by decide)
    rw [fH_hold a0 (by omega), ← hL, ← hV] at this
    exact this
  have v0 : 0 ≤ V := by omega
  have v1 : V < 65536 := by omega
  have u0 : 0 ≤ U := by omega
  have u1 : U < 65536 := by omega
  have H1 : Hid (∀ {w : World} {B : Nat} (now : Int), PAt w B (fH l V false true) → Calls Try.prog 13 #[.pointer (some ⟨B, 0, none⟩), .int .i64 0, .int .u64 now] w fun e w' => e = .returned (.tuple #[.int .u8 (V % 256), .int .i64 0]) ∧ PAt w' B (fH l V true true) ∧ Kp (isB B) w w') := fun {w B} now h => by
    have := in_ok h (fH_ok _ _ l0 l1 v0 v1) 0 now (by decide) (by decide)
    rw [fH_in1, fH_f1] at this
    exact this
  have H2 : Hid (∀ {w : World} {B : Nat} (now : Int), PAt w B (fH l V true true) → Calls Try.prog 13 #[.pointer (some ⟨B, 0, none⟩), .int .i64 0, .int .u64 now] w fun e w' => e = .returned (.tuple #[.int .u8 (V / 256), .int .i64 0]) ∧ PAt w' B (fH l V false false) ∧ Kp (isB B) w w') := fun {w B} now h => by
    have := in_ok h (fH_ok _ _ l0 l1 v0 v1) 0 now (by decide) (by decide)
    rw [fH_in2, fH_f2] at this
    exact this
  have H3 : Hid (∀ {w : World} {B : Nat}, PAt w B (fH l V false false) → Calls Try.prog 13 #[.pointer (some ⟨B, 0, none⟩), .int .i64 0, .int .u64 (a + t + t)] w fun e w' => e = .returned (.tuple #[.int .u8 (U % 256), .int .i64 0]) ∧ PAt w' B (fH l V true false) ∧ Kp (isB B) w w') := fun {w B} h => by
    have := in_ok h (fH_ok _ _ l0 l1 v0 v1) 0 (a + t + t) (by decide) (by decide)
    rw [fH_in3 l V (by omega) (by omega), fH_f3, ← hL, ← hU] at this
    exact this
  have H4 : Hid (∀ {w : World} {B : Nat}, PAt w B (fH l V true false) → Calls Try.prog 13 #[.pointer (some ⟨B, 0, none⟩), .int .i64 0, .int .u64 (a + t + t)] w fun e w' => e = .returned (.tuple #[.int .u8 (U / 256), .int .i64 0]) ∧ Kp (isB B) w w') := fun {w B} h => by
    have := in_ok h (fH_ok _ _ l0 l1 v0 v1) 0 (a + t + t) (by decide) (by decide)
    rw [fH_in4 l V (by omega) (by omega), ← hL, ← hU] at this
    exact this.mono fun e w' ⟨x, _, y⟩ => ⟨x, y⟩
  have hz : (L == 0) = false := by simp; omega
  have x5 : (a + t) % 18446744073709551616 = a + t := by omega
  have x6 : (a + t + t) % 18446744073709551616 = a + t + t := by omega
  have h65 : (65536 : Int) = L := by rw [hL, hl]; rfl
  subst hl
  obtain ⟨r, hr⟩ : ∃ r, r = a % L := ⟨_, rfl⟩
  obtain ⟨q, hq⟩ : ∃ q, q = (a + t + t) % L := ⟨_, rfl⟩
  rw [← hr] at rA hV
  rw [← hq] at rU hU
  replace hr := hr.symm
  replace hq := hq.symm
  have y1 : (L - r) % 18446744073709551616 = L - r := by omega
  have y2 : (L - q) % 18446744073709551616 = L - q := by omega
  replace hV := hV.symm
  replace hU := hU.symm
  have H65 : Hid ((65536 : Int) = L) := h65
  clear hL rA rU h65
  go_enter Try.func5, Try.ntmps5
  go_wp2_with fail
  refine Calls.mono (HA.out _) ?_; rintro e w1 ⟨rfl, g1⟩
  go_wp2_with fail
  refine Calls.mono (HS.out _) ?_; rintro e w2 ⟨B, rfl, lB, h2, g2⟩
  have k2 := g1.trans g2
  have LB : Hid (W.heap.size ≤ B) := Nat.le_trans g1.size lB
  clear lB g1 g2
  go_wp2_with fail
  refine Calls.mono (HO.out h2) ?_; rintro e w3 ⟨rfl, h3, g3⟩
  rw [H65.out]
  have k3 := k2.own g3 LB.out
  go_wp2_with fail
  refine Calls.mono (H1.out _ h3) ?_; rintro e w4 ⟨rfl, h4, g4⟩
  have k4 := k3.own g4 LB.out
  go_wp2_with fail
  refine Calls.mono (H2.out _ h4) ?_; rintro e w5 ⟨rfl, h5, g5⟩
  have k5 := k4.own g5 LB.out
  have z1 : V % 256 + V / 256 * 256 = V := two_bytes V
  have z2 : V / 256 * 256 % 18446744073709551616 = V / 256 * 256 := up_byte v0 v1
  have z3 : V % 18446744073709551616 = V := small64 v0 v1
  go_wp2_with fail
  refine Calls.mono (H3.out h5) ?_; rintro e w6 ⟨rfl, h6, g6⟩
  have k6 := k5.own g6 LB.out
  go_wp2_with fail
  refine Calls.mono (H4.out h6) ?_; rintro e w7 ⟨rfl, g7⟩
  have k7 := k6.own g7 LB.out
  have y1 : U % 256 + U / 256 * 256 = U := two_bytes U
  have y2 : U / 256 * 256 % 18446744073709551616 = U / 256 * 256 := up_byte u0 u1
  have y3 : U % 18446744073709551616 = U := small64 u0 u1
  go_wp2
  go_ret
  exact ⟨rfl, HB.out _ k7⟩


theorem PitHolds_walk (W : World) (l : Int) (l0 : 0 ≤ l) (l1 : l ≤ 65535) (a : Int) (a0 : 0 ≤ a) (a1 : a ≤ 65535) (t : Int) (t0 : 0 ≤ t) (t1 : t ≤ 4294967295) : Calls Try.prog 5 #[.int .u16 l, .int .u16 a, .int .u32 t] W fun e w' => e = .returned (.bool true) ∧ Below W.heap.size W w' := by
  by_cases hl : l = 0
  · exact holds_0 W l a t _ rfl hl l0 (by omega) a0 (by omega) t0 (by omega)
  · exact holds_n W l a t _ rfl hl l0 (by omega) a0 (by omega) t0 (by omega)
end Go.Proofs.Yteodnlloilmoaaa
