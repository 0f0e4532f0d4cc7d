/- Contracts of the document's shifts of layer 2 (package drawloomref02): for every input within their kinds they return what is named, and the world stays. -/
import Derived.Test.YtnfbflbghlmdjaaShiftRefRot
namespace Go.Proofs.Ytnfbflbghlmdjaa
open Go.ChangeShapes Go.WideShapes Go.ChangeAt Go.RowKit
set_option linter.unusedVariables false

def wideAt (x M : Int) (j : Nat) : Int := x + ((2 ^ j : Nat) : Int) - M

theorem wide_start (x M : Int) (W : Nat) (h : M = ((2 ^ W : Nat) : Int)) : wideAt x M W = x := by unfold wideAt; rw [← h]; omega

theorem wide_step (x M : Int) (j : Nat) : wideAt x M (j + 1) = wideAt x M j + 2 ^ j := by
  unfold wideAt; rw [pw_cast, Nat.pow_succ]; omega

theorem wide_pos {x M : Int} {W j : Nat} (x0 : 0 ≤ x) (h : W ≤ j) (hM : M = ((2 ^ W : Nat) : Int)) : 0 ≤ wideAt x M j := by
  have p2 : (2 : Nat) ^ W ≤ 2 ^ j := Nat.pow_le_pow_right (by decide) h
  unfold wideAt; rw [hM]; omega

theorem wide_wrap {A P : Int} (a0 : 0 ≤ A) (p0 : 0 < P) (h : A + P < 18446744073709551616) : IntKind.u64.wrap (A + IntKind.u64.wrap P) = A + P := by
  rw [wrap_u64', wrap_u64']; omega

theorem wide_lt {x M : Int} {j : Nat} (x1 : x < M) (h : j < 64) : wideAt x M j + 2 ^ j < 18446744073709551616 := by
  have p1 : (2 : Nat) ^ j ≤ 2 ^ 63 := Nat.pow_le_pow_right (by decide) (by omega)
  have e63 : (2 : Nat) ^ 63 = 9223372036854775808 := by decide
  rw [e63] at p1
  unfold wideAt; rw [pw_cast]; omega

set_option maxRecDepth 20000 in
set_option maxHeartbeats 1000000 in
theorem mov_5_8 (x f : Int) (k : Nat) (w : World) (x0 : 0 ≤ x) (x1 : x < 256) (k1 : 1 ≤ k) (k2 : k ≤ 31) (f0 : 0 ≤ f) (f1 : f < 4294967296) :
    Calls Try.prog 23 #[.int .i64 5, .int .u64 x, .int .i64 8, .int .i64 (k : Int), .int .u32 f] w fun e w' =>
      e = .returned (.tuple #[.int .u64 (x / 2 ^ k), .int .u32 (byF 128 (x / 2 ^ k) (setF (setF (setF f 16 false) 1 (tb x (k - 1))) 2048 (tb x 7)))]) ∧ w' = w := by
  have b1 := bd1 f0 f1 16 fl16 false
  have b2 := bd1 b1.1 b1.2 1 fl1 (tb x (k - 1))
  have b3 := bd1 b2.1 b2.2 2048 fl2048 (tb x 7)
  have B1 : Hid _ := b1
  have B2 : Hid _ := b2
  have B3 : Hid _ := b3
  clear b1 b2 b3
  have d := div_bd x0 x1 k
  have d0 : 0 ≤ x / 2 ^ k := by rw [pw_cast]; exact d.1
  have d1 : x / 2 ^ k < 256 := by rw [pw_cast]; exact d.2
  clear d
  have hk : ((k : Int) - 1).toNat = k - 1 := by omega
  go_enter Try.func23, Try.ntmps23
  go_wp2_with fail
  refine (Set_any _ _ _ _ f0 f1 fl16).mono ?_; rintro e w' ⟨rfl, hw⟩; replace hw := hw.symm; subst hw
  go_wp2_with fail
  refine (bit_any _ _ _ x0 (by omega) (by omega) (by omega)).mono ?_; rintro e w' ⟨rfl, hw⟩; replace hw := hw.symm; subst hw
  go_wp2_with fail
  refine (Set_any _ _ _ _ B1.out.1 B1.out.2 fl1).mono ?_; rintro e w' ⟨rfl, hw⟩; replace hw := hw.symm; subst hw
  go_wp2_with fail
  refine (bit_any _ _ _ x0 (by omega) (by omega) (by omega)).mono ?_; rintro e w' ⟨rfl, hw⟩; replace hw := hw.symm; subst hw
  go_wp2_with fail
  refine (Set_any _ _ _ _ B2.out.1 B2.out.2 fl2048).mono ?_; rintro e w' ⟨rfl, hw⟩; replace hw := hw.symm; subst hw
  go_wp2_with fail
  refine (By_any sz1 _ _ _ d0 d1 B3.out.1 B3.out.2).mono ?_; rintro e w' ⟨rfl, hw⟩; replace hw := hw.symm; subst hw
  go_wp2
  go_ret2
  exact ⟨rfl, rfl⟩

set_option maxRecDepth 20000 in
set_option maxHeartbeats 1000000 in
theorem mov_4a_8 (x f : Int) (k : Nat) (w : World) (x0 : 0 ≤ x) (x1 : x < 256) (k1 : 1 ≤ k) (k2 : k ≤ 31) (f0 : 0 ≤ f) (f1 : f < 4294967296) (kw : k ≤ 8) :
    Calls Try.prog 23 #[.int .i64 4, .int .u64 x, .int .i64 8, .int .i64 (k : Int), .int .u32 f] w fun e w' =>
      e = .returned (.tuple #[.int .u64 (x * 2 ^ k % 256), .int .u32 (byF 128 (x * 2 ^ k % 256) (setF (setF (setF f 16 false) 1 (tb x (8 - k))) 2048 ((tb x (8 - k)) != tb (x * 2 ^ k % 256) 7)))]) ∧ w' = w := by
  have b1 := bd1 f0 f1 16 fl16 false
  have b2 := bd1 b1.1 b1.2 1 fl1 (tb x (8 - k))
  have b3 := bd1 b2.1 b2.2 2048 fl2048 ((tb x (8 - k)) != tb (x * 2 ^ k % 256) 7)
  have B1 : Hid _ := b1
  have B2 : Hid _ := b2
  have B3 : Hid _ := b3
  clear b1 b2 b3
  have hn : 0 ≤ x * ((2 ^ k : Nat) : Int) ∧ x * ((2 ^ k : Nat) : Int) < 18446744073709551616 := by
    have h31 : (2 : Nat) ^ k ≤ 2 ^ 31 := Nat.pow_le_pow_right (by decide) k2
    have e31 : (2 : Nat) ^ 31 = 2147483648 := by decide
    have hp := Nat.two_pow_pos k
    refine ⟨Int.mul_nonneg x0 (by omega), ?_⟩
    have h1 : x * ((2 ^ k : Nat) : Int) ≤ x * 2147483648 := Int.mul_le_mul_of_nonneg_left (by omega) x0
    omega
  rw [← pw_cast] at hn
  have hw : IntKind.u64.wrap (x * 2 ^ k) = x * 2 ^ k := by rw [wrap_u64']; omega
  obtain ⟨n0, n1⟩ := hn
  have r0 : 0 ≤ x * 2 ^ k % 256 := by omega
  have r1 : x * 2 ^ k % 256 < 256 := by omega
  have hk : ((8 : Int) - (k : Int)).toNat = 8 - k := by omega
  go_enter Try.func23, Try.ntmps23
  go_wp2_with fail
  refine (Set_any _ _ _ _ f0 f1 fl16).mono ?_; rintro e w' ⟨rfl, hw⟩; replace hw := hw.symm; subst hw
  go_wp2_with fail
  refine (Cut_any sz1 _ _ n0 n1).mono ?_; rintro e w' ⟨rfl, hw⟩; replace hw := hw.symm; subst hw
  go_wp2_with fail
  refine (bit_any _ _ _ x0 (by omega) (by omega) (by omega)).mono ?_; rintro e w' ⟨rfl, hw⟩; replace hw := hw.symm; subst hw
  go_wp2_with fail
  refine (Set_any _ _ _ _ B1.out.1 B1.out.2 fl1).mono ?_; rintro e w' ⟨rfl, hw⟩; replace hw := hw.symm; subst hw
  go_wp2_with fail
  refine (bit_any _ _ _ r0 (by omega) (by decide) (by decide)).mono ?_; rintro e w' ⟨rfl, hw⟩; replace hw := hw.symm; subst hw
  go_wp2_with fail
  refine (Set_any _ _ _ _ B2.out.1 B2.out.2 fl2048).mono ?_; rintro e w' ⟨rfl, hw⟩; replace hw := hw.symm; subst hw
  go_wp2_with fail
  refine (By_any sz1 _ _ _ r0 r1 B3.out.1 B3.out.2).mono ?_; rintro e w' ⟨rfl, hw⟩; replace hw := hw.symm; subst hw
  go_wp2
  go_ret2
  exact ⟨rfl, rfl⟩

set_option maxRecDepth 20000 in
set_option maxHeartbeats 1000000 in
theorem mov_6a_8 (x f : Int) (k : Nat) (w : World) (x0 : 0 ≤ x) (x1 : x < 256) (k1 : 1 ≤ k) (k2 : k ≤ 31) (f0 : 0 ≤ f) (f1 : f < 4294967296) (kw : k ≤ 8) :
    Calls Try.prog 23 #[.int .i64 6, .int .u64 x, .int .i64 8, .int .i64 (k : Int), .int .u32 f] w fun e w' =>
      e = .returned (.tuple #[.int .u64 (x * 2 ^ k % 256), .int .u32 (byF 128 (x * 2 ^ k % 256) (setF (setF (setF f 16 false) 1 (tb x (8 - k))) 2048 ((tb x (8 - k)) != tb (x * 2 ^ k % 256) 7)))]) ∧ w' = w := by
  have b1 := bd1 f0 f1 16 fl16 false
  have b2 := bd1 b1.1 b1.2 1 fl1 (tb x (8 - k))
  have b3 := bd1 b2.1 b2.2 2048 fl2048 ((tb x (8 - k)) != tb (x * 2 ^ k % 256) 7)
  have B1 : Hid _ := b1
  have B2 : Hid _ := b2
  have B3 : Hid _ := b3
  clear b1 b2 b3
  have hn : 0 ≤ x * ((2 ^ k : Nat) : Int) ∧ x * ((2 ^ k : Nat) : Int) < 18446744073709551616 := by
    have h31 : (2 : Nat) ^ k ≤ 2 ^ 31 := Nat.pow_le_pow_right (by decide) k2
    have e31 : (2 : Nat) ^ 31 = 2147483648 := by decide
    have hp := Nat.two_pow_pos k
    refine ⟨Int.mul_nonneg x0 (by omega), ?_⟩
    have h1 : x * ((2 ^ k : Nat) : Int) ≤ x * 2147483648 := Int.mul_le_mul_of_nonneg_left (by omega) x0
    omega
  rw [← pw_cast] at hn
  have hw : IntKind.u64.wrap (x * 2 ^ k) = x * 2 ^ k := by rw [wrap_u64']; omega
  obtain ⟨n0, n1⟩ := hn
  have r0 : 0 ≤ x * 2 ^ k % 256 := by omega
  have r1 : x * 2 ^ k % 256 < 256 := by omega
  have hk : ((8 : Int) - (k : Int)).toNat = 8 - k := by omega
  go_enter Try.func23, Try.ntmps23
  go_wp2_with fail
  refine (Set_any _ _ _ _ f0 f1 fl16).mono ?_; rintro e w' ⟨rfl, hw⟩; replace hw := hw.symm; subst hw
  go_wp2_with fail
  refine (Cut_any sz1 _ _ n0 n1).mono ?_; rintro e w' ⟨rfl, hw⟩; replace hw := hw.symm; subst hw
  go_wp2_with fail
  refine (bit_any _ _ _ x0 (by omega) (by omega) (by omega)).mono ?_; rintro e w' ⟨rfl, hw⟩; replace hw := hw.symm; subst hw
  go_wp2_with fail
  refine (Set_any _ _ _ _ B1.out.1 B1.out.2 fl1).mono ?_; rintro e w' ⟨rfl, hw⟩; replace hw := hw.symm; subst hw
  go_wp2_with fail
  refine (bit_any _ _ _ r0 (by omega) (by decide) (by decide)).mono ?_; rintro e w' ⟨rfl, hw⟩; replace hw := hw.symm; subst hw
  go_wp2_with fail
  refine (Set_any _ _ _ _ B2.out.1 B2.out.2 fl2048).mono ?_; rintro e w' ⟨rfl, hw⟩; replace hw := hw.symm; subst hw
  go_wp2_with fail
  refine (By_any sz1 _ _ _ r0 r1 B3.out.1 B3.out.2).mono ?_; rintro e w' ⟨rfl, hw⟩; replace hw := hw.symm; subst hw
  go_wp2
  go_ret2
  exact ⟨rfl, rfl⟩

set_option maxRecDepth 20000 in
set_option maxHeartbeats 1000000 in
theorem mov_4b_8 (x f : Int) (k : Nat) (w : World) (x0 : 0 ≤ x) (x1 : x < 256) (k1 : 1 ≤ k) (k2 : k ≤ 31) (f0 : 0 ≤ f) (f1 : f < 4294967296) (kw : 8 < k) :
    Calls Try.prog 23 #[.int .i64 4, .int .u64 x, .int .i64 8, .int .i64 (k : Int), .int .u32 f] w fun e w' =>
      e = .returned (.tuple #[.int .u64 (x * 2 ^ k % 256), .int .u32 (byF 128 (x * 2 ^ k % 256) (setF (setF (setF f 16 false) 1 false) 2048 (tb (x * 2 ^ k % 256) 7)))]) ∧ w' = w := by
  have b1 := bd1 f0 f1 16 fl16 false
  have b2 := bd1 b1.1 b1.2 1 fl1 false
  have b3 := bd1 b2.1 b2.2 2048 fl2048 (tb (x * 2 ^ k % 256) 7)
  have B1 : Hid _ := b1
  have B2 : Hid _ := b2
  have B3 : Hid _ := b3
  clear b1 b2 b3
  have hn : 0 ≤ x * ((2 ^ k : Nat) : Int) ∧ x * ((2 ^ k : Nat) : Int) < 18446744073709551616 := by
    have h31 : (2 : Nat) ^ k ≤ 2 ^ 31 := Nat.pow_le_pow_right (by decide) k2
    have e31 : (2 : Nat) ^ 31 = 2147483648 := by decide
    have hp := Nat.two_pow_pos k
    refine ⟨Int.mul_nonneg x0 (by omega), ?_⟩
    have h1 : x * ((2 ^ k : Nat) : Int) ≤ x * 2147483648 := Int.mul_le_mul_of_nonneg_left (by omega) x0
    omega
  rw [← pw_cast] at hn
  have hw : IntKind.u64.wrap (x * 2 ^ k) = x * 2 ^ k := by rw [wrap_u64']; omega
  obtain ⟨n0, n1⟩ := hn
  have r0 : 0 ≤ x * 2 ^ k % 256 := by omega
  have r1 : x * 2 ^ k % 256 < 256 := by omega
  go_enter Try.func23, Try.ntmps23
  go_wp2_with fail
  refine (Set_any _ _ _ _ f0 f1 fl16).mono ?_; rintro e w' ⟨rfl, hw⟩; replace hw := hw.symm; subst hw
  go_wp2_with fail
  refine (Cut_any sz1 _ _ n0 n1).mono ?_; rintro e w' ⟨rfl, hw⟩; replace hw := hw.symm; subst hw
  go_wp2_with fail
  refine (bit_neg _ _ _ (by omega)).mono ?_; rintro e w' ⟨rfl, hw⟩; replace hw := hw.symm; subst hw
  go_wp2_with fail
  refine (Set_any _ _ _ _ B1.out.1 B1.out.2 fl1).mono ?_; rintro e w' ⟨rfl, hw⟩; replace hw := hw.symm; subst hw
  go_wp2_with fail
  refine (bit_any _ _ _ r0 (by omega) (by decide) (by decide)).mono ?_; rintro e w' ⟨rfl, hw⟩; replace hw := hw.symm; subst hw
  go_wp2_with fail
  refine (Set_any _ _ _ _ B2.out.1 B2.out.2 fl2048).mono ?_; rintro e w' ⟨rfl, hw⟩; replace hw := hw.symm; subst hw
  go_wp2_with fail
  refine (By_any sz1 _ _ _ r0 r1 B3.out.1 B3.out.2).mono ?_; rintro e w' ⟨rfl, hw⟩; replace hw := hw.symm; subst hw
  go_wp2
  go_ret2
  exact ⟨rfl, rfl⟩

set_option maxRecDepth 20000 in
set_option maxHeartbeats 1000000 in
theorem mov_6b_8 (x f : Int) (k : Nat) (w : World) (x0 : 0 ≤ x) (x1 : x < 256) (k1 : 1 ≤ k) (k2 : k ≤ 31) (f0 : 0 ≤ f) (f1 : f < 4294967296) (kw : 8 < k) :
    Calls Try.prog 23 #[.int .i64 6, .int .u64 x, .int .i64 8, .int .i64 (k : Int), .int .u32 f] w fun e w' =>
      e = .returned (.tuple #[.int .u64 (x * 2 ^ k % 256), .int .u32 (byF 128 (x * 2 ^ k % 256) (setF (setF (setF f 16 false) 1 false) 2048 (tb (x * 2 ^ k % 256) 7)))]) ∧ w' = w := by
  have b1 := bd1 f0 f1 16 fl16 false
  have b2 := bd1 b1.1 b1.2 1 fl1 false
  have b3 := bd1 b2.1 b2.2 2048 fl2048 (tb (x * 2 ^ k % 256) 7)
  have B1 : Hid _ := b1
  have B2 : Hid _ := b2
  have B3 : Hid _ := b3
  clear b1 b2 b3
  have hn : 0 ≤ x * ((2 ^ k : Nat) : Int) ∧ x * ((2 ^ k : Nat) : Int) < 18446744073709551616 := by
    have h31 : (2 : Nat) ^ k ≤ 2 ^ 31 := Nat.pow_le_pow_right (by decide) k2
    have e31 : (2 : Nat) ^ 31 = 2147483648 := by decide
    have hp := Nat.two_pow_pos k
    refine ⟨Int.mul_nonneg x0 (by omega), ?_⟩
    have h1 : x * ((2 ^ k : Nat) : Int) ≤ x * 2147483648 := Int.mul_le_mul_of_nonneg_left (by omega) x0
    omega
  rw [← pw_cast] at hn
  have hw : IntKind.u64.wrap (x * 2 ^ k) = x * 2 ^ k := by rw [wrap_u64']; omega
  obtain ⟨n0, n1⟩ := hn
  have r0 : 0 ≤ x * 2 ^ k % 256 := by omega
  have r1 : x * 2 ^ k % 256 < 256 := by omega
  go_enter Try.func23, Try.ntmps23
  go_wp2_with fail
  refine (Set_any _ _ _ _ f0 f1 fl16).mono ?_; rintro e w' ⟨rfl, hw⟩; replace hw := hw.symm; subst hw
  go_wp2_with fail
  refine (Cut_any sz1 _ _ n0 n1).mono ?_; rintro e w' ⟨rfl, hw⟩; replace hw := hw.symm; subst hw
  go_wp2_with fail
  refine (bit_neg _ _ _ (by omega)).mono ?_; rintro e w' ⟨rfl, hw⟩; replace hw := hw.symm; subst hw
  go_wp2_with fail
  refine (Set_any _ _ _ _ B1.out.1 B1.out.2 fl1).mono ?_; rintro e w' ⟨rfl, hw⟩; replace hw := hw.symm; subst hw
  go_wp2_with fail
  refine (bit_any _ _ _ r0 (by omega) (by decide) (by decide)).mono ?_; rintro e w' ⟨rfl, hw⟩; replace hw := hw.symm; subst hw
  go_wp2_with fail
  refine (Set_any _ _ _ _ B2.out.1 B2.out.2 fl2048).mono ?_; rintro e w' ⟨rfl, hw⟩; replace hw := hw.symm; subst hw
  go_wp2_with fail
  refine (By_any sz1 _ _ _ r0 r1 B3.out.1 B3.out.2).mono ?_; rintro e w' ⟨rfl, hw⟩; replace hw := hw.symm; subst hw
  go_wp2
  go_ret2
  exact ⟨rfl, rfl⟩

set_option maxRecDepth 20000 in
set_option maxHeartbeats 1000000 in
theorem mov_7a_8 (x f : Int) (k : Nat) (w : World) (x0 : 0 ≤ x) (x1 : x < 256) (k1 : 1 ≤ k) (k2 : k ≤ 31) (f0 : 0 ≤ f) (f1 : f < 4294967296) (ht : tb x 7 = false) :
    Calls Try.prog 23 #[.int .i64 7, .int .u64 x, .int .i64 8, .int .i64 (k : Int), .int .u32 f] w fun e w' =>
      e = .returned (.tuple #[.int .u64 (x / 2 ^ k % 256), .int .u32 (byF 128 (x / 2 ^ k % 256) (setF (setF (setF f 16 false) 1 (tb x (k - 1))) 2048 false))]) ∧ w' = w := by
  have b1 := bd1 f0 f1 16 fl16 false
  have b2 := bd1 b1.1 b1.2 1 fl1 (tb x (k - 1))
  have b3 := bd1 b2.1 b2.2 2048 fl2048 false
  have B1 : Hid _ := b1
  have B2 : Hid _ := b2
  have B3 : Hid _ := b3
  clear b1 b2 b3
  have d := div_bd x0 x1 k
  have d0 : 0 ≤ x / 2 ^ k := by rw [pw_cast]; exact d.1
  have d1 : x / 2 ^ k < 256 := by rw [pw_cast]; exact d.2
  clear d
  have r0 : 0 ≤ x / 2 ^ k % 256 := by omega
  have r1 : x / 2 ^ k % 256 < 256 := by omega
  have hk : ((k : Int) - 1).toNat = k - 1 := by omega
  go_enter Try.func23, Try.ntmps23
  go_wp2_with fail
  refine (Set_any _ _ _ _ f0 f1 fl16).mono ?_; rintro e w' ⟨rfl, hw⟩; replace hw := hw.symm; subst hw
  go_wp2_with fail
  refine (bit_any _ _ _ x0 (by omega) (by omega) (by omega)).mono ?_; rintro e w' ⟨rfl, hw⟩; replace hw := hw.symm; subst hw
  go_wp2_with fail
  refine (Cut_any sz1 _ _ d0 (by omega)).mono ?_; rintro e w' ⟨rfl, hw⟩; replace hw := hw.symm; subst hw
  go_wp2_with fail
  refine (bit_any _ _ _ x0 (by omega) (by omega) (by omega)).mono ?_; rintro e w' ⟨rfl, hw⟩; replace hw := hw.symm; subst hw
  go_wp2_with fail
  refine (Set_any _ _ _ _ B1.out.1 B1.out.2 fl1).mono ?_; rintro e w' ⟨rfl, hw⟩; replace hw := hw.symm; subst hw
  go_wp2_with fail
  refine (Set_any _ _ _ _ B2.out.1 B2.out.2 fl2048).mono ?_; rintro e w' ⟨rfl, hw⟩; replace hw := hw.symm; subst hw
  go_wp2_with fail
  refine (By_any sz1 _ _ _ r0 r1 B3.out.1 B3.out.2).mono ?_; rintro e w' ⟨rfl, hw⟩; replace hw := hw.symm; subst hw
  go_wp2
  go_ret2
  exact ⟨rfl, rfl⟩

set_option maxRecDepth 20000 in
set_option maxHeartbeats 1000000 in
theorem mov_7b_8 (x f : Int) (k : Nat) (w : World) (x0 : 0 ≤ x) (x1 : x < 256) (k1 : 1 ≤ k) (k2 : k ≤ 31) (f0 : 0 ≤ f) (f1 : f < 4294967296) (ht : tb x 7 = true) :
    Calls Try.prog 23 #[.int .i64 7, .int .u64 x, .int .i64 8, .int .i64 (k : Int), .int .u32 f] w fun e w' =>
      e = .returned (.tuple #[.int .u64 ((wideAt x 256 64) / 2 ^ k % 256), .int .u32 (byF 128 ((wideAt x 256 64) / 2 ^ k % 256) (setF (setF (setF f 16 false) 1 (tb (wideAt x 256 64) (k - 1))) 2048 false))]) ∧ w' = w := by
  have b1 := bd1 f0 f1 16 fl16 false
  have b2 := bd1 b1.1 b1.2 1 fl1 (tb (wideAt x 256 64) (k - 1))
  have b3 := bd1 b2.1 b2.2 2048 fl2048 false
  have B1 : Hid _ := b1
  have B2 : Hid _ := b2
  have B3 : Hid _ := b3
  clear b1 b2 b3
  have hu : (wideAt x 256 64) = x + 18446744073709551616 - 256 := rfl
  have n0 : 0 ≤ (wideAt x 256 64) := by rw [hu]; omega
  have n1 : (wideAt x 256 64) < 18446744073709551616 := by rw [hu]; omega
  clear hu
  have d := div_bd n0 n1 k
  have d0 : 0 ≤ (wideAt x 256 64) / 2 ^ k := by rw [pw_cast]; exact d.1
  have d1 : (wideAt x 256 64) / 2 ^ k < 18446744073709551616 := by rw [pw_cast]; exact d.2
  have rb := mod_bd (M := 256) (by decide) ((wideAt x 256 64) / 2 ^ k)
  have r0 := rb.1
  have r1 := rb.2
  clear d rb
  have hk : ((k : Int) - 1).toNat = k - 1 := by omega
  go_enter Try.func23, Try.ntmps23
  go_wp2_with fail
  refine (Set_any _ _ _ _ f0 f1 fl16).mono ?_; rintro e w' ⟨rfl, hw⟩; replace hw := hw.symm; subst hw
  go_wp2_with fail
  refine (bit_any _ _ _ x0 (by omega) (by decide) (by decide)).mono ?_; rintro e w' ⟨rfl, hw⟩; replace hw := hw.symm; subst hw
  go_wp2
  go_loop [13, 14] (fun v i => ∃ j : Nat, 8 ≤ j ∧ j ≤ 64 ∧ i = .int .i64 j ∧ v = .int .u64 (wideAt x 256 j)) (fun _ i => 64 - (intOf i).toNat)
  case atStart => exact ⟨8, by omega, by omega, rfl, by rw [wide_start x 256 8 rfl]⟩
  case round =>
    obtain ⟨j, hj0, hj, rfl, rfl⟩ := hrel
    by_cases hlt : j < 64
    · have HJ : Hid (wideAt x 256 (j + 1) = wideAt x 256 j + 2 ^ j) := wide_step x 256 j
      have W0 : Hid (0 ≤ wideAt x 256 j) := (wide_pos x0 hj0 rfl : 0 ≤ wideAt x 256 j)
      have W1 : Hid (wideAt x 256 j + 2 ^ j < 18446744073709551616) := (wide_lt x1 hlt : wideAt x 256 j + 2 ^ j < 18446744073709551616)
      have P0 : Hid ((0 : Int) < 2 ^ j) := (Int.pow_pos (by decide) : (0 : Int) < 2 ^ j)
      go_wp2
      refine ⟨⟨j + 1, by omega, by omega, by go_num, ?_⟩, by simp [intOf]; omega⟩
      rw [HJ.out, wide_wrap W0.out P0.out W1.out]
    · have : j = 64 := by omega
      subst this
      go_wp2_with fail
      refine (Cut_any sz1 _ _ d0 d1).mono ?_; rintro e w' ⟨rfl, hw⟩; replace hw := hw.symm; subst hw
      go_wp2_with fail
      refine (bit_any _ _ _ n0 n1 (by omega) (by omega)).mono ?_; rintro e w' ⟨rfl, hw⟩; replace hw := hw.symm; subst hw
      go_wp2_with fail
      refine (Set_any _ _ _ _ B1.out.1 B1.out.2 fl1).mono ?_; rintro e w' ⟨rfl, hw⟩; replace hw := hw.symm; subst hw
      go_wp2_with fail
      refine (Set_any _ _ _ _ B2.out.1 B2.out.2 fl2048).mono ?_; rintro e w' ⟨rfl, hw⟩; replace hw := hw.symm; subst hw
      go_wp2_with fail
      refine (By_any sz1 _ _ _ r0 r1 B3.out.1 B3.out.2).mono ?_; rintro e w' ⟨rfl, hw⟩; replace hw := hw.symm; subst hw
      go_wp2
      go_ret2
      exact ⟨rfl, rfl⟩

set_option maxRecDepth 20000 in
set_option maxHeartbeats 1000000 in
theorem mov_5_16 (x f : Int) (k : Nat) (w : World) (x0 : 0 ≤ x) (x1 : x < 65536) (k1 : 1 ≤ k) (k2 : k ≤ 31) (f0 : 0 ≤ f) (f1 : f < 4294967296) :
    Calls Try.prog 23 #[.int .i64 5, .int .u64 x, .int .i64 16, .int .i64 (k : Int), .int .u32 f] w fun e w' =>
      e = .returned (.tuple #[.int .u64 (x / 2 ^ k), .int .u32 (byF 32768 (x / 2 ^ k) (setF (setF (setF f 16 false) 1 (tb x (k - 1))) 2048 (tb x 15)))]) ∧ w' = w := by
  have b1 := bd1 f0 f1 16 fl16 false
  have b2 := bd1 b1.1 b1.2 1 fl1 (tb x (k - 1))
  have b3 := bd1 b2.1 b2.2 2048 fl2048 (tb x 15)
  have B1 : Hid _ := b1
  have B2 : Hid _ := b2
  have B3 : Hid _ := b3
  clear b1 b2 b3
  have d := div_bd x0 x1 k
  have d0 : 0 ≤ x / 2 ^ k := by rw [pw_cast]; exact d.1
  have d1 : x / 2 ^ k < 65536 := by rw [pw_cast]; exact d.2
  clear d
  have hk : ((k : Int) - 1).toNat = k - 1 := by omega
  go_enter Try.func23, Try.ntmps23
  go_wp2_with fail
  refine (Set_any _ _ _ _ f0 f1 fl16).mono ?_; rintro e w' ⟨rfl, hw⟩; replace hw := hw.symm; subst hw
  go_wp2_with fail
  refine (bit_any _ _ _ x0 (by omega) (by omega) (by omega)).mono ?_; rintro e w' ⟨rfl, hw⟩; replace hw := hw.symm; subst hw
  go_wp2_with fail
  refine (Set_any _ _ _ _ B1.out.1 B1.out.2 fl1).mono ?_; rintro e w' ⟨rfl, hw⟩; replace hw := hw.symm; subst hw
  go_wp2_with fail
  refine (bit_any _ _ _ x0 (by omega) (by omega) (by omega)).mono ?_; rintro e w' ⟨rfl, hw⟩; replace hw := hw.symm; subst hw
  go_wp2_with fail
  refine (Set_any _ _ _ _ B2.out.1 B2.out.2 fl2048).mono ?_; rintro e w' ⟨rfl, hw⟩; replace hw := hw.symm; subst hw
  go_wp2_with fail
  refine (By_any sz2 _ _ _ d0 d1 B3.out.1 B3.out.2).mono ?_; rintro e w' ⟨rfl, hw⟩; replace hw := hw.symm; subst hw
  go_wp2
  go_ret2
  exact ⟨rfl, rfl⟩

set_option maxRecDepth 20000 in
set_option maxHeartbeats 1000000 in
theorem mov_4a_16 (x f : Int) (k : Nat) (w : World) (x0 : 0 ≤ x) (x1 : x < 65536) (k1 : 1 ≤ k) (k2 : k ≤ 31) (f0 : 0 ≤ f) (f1 : f < 4294967296) (kw : k ≤ 16) :
    Calls Try.prog 23 #[.int .i64 4, .int .u64 x, .int .i64 16, .int .i64 (k : Int), .int .u32 f] w fun e w' =>
      e = .returned (.tuple #[.int .u64 (x * 2 ^ k % 65536), .int .u32 (byF 32768 (x * 2 ^ k % 65536) (setF (setF (setF f 16 false) 1 (tb x (16 - k))) 2048 ((tb x (16 - k)) != tb (x * 2 ^ k % 65536) 15)))]) ∧ w' = w := by
  have b1 := bd1 f0 f1 16 fl16 false
  have b2 := bd1 b1.1 b1.2 1 fl1 (tb x (16 - k))
  have b3 := bd1 b2.1 b2.2 2048 fl2048 ((tb x (16 - k)) != tb (x * 2 ^ k % 65536) 15)
  have B1 : Hid _ := b1
  have B2 : Hid _ := b2
  have B3 : Hid _ := b3
  clear b1 b2 b3
  have hn : 0 ≤ x * ((2 ^ k : Nat) : Int) ∧ x * ((2 ^ k : Nat) : Int) < 18446744073709551616 := by
    have h31 : (2 : Nat) ^ k ≤ 2 ^ 31 := Nat.pow_le_pow_right (by decide) k2
    have e31 : (2 : Nat) ^ 31 = 2147483648 := by decide
    have hp := Nat.two_pow_pos k
    refine ⟨Int.mul_nonneg x0 (by omega), ?_⟩
    have h1 : x * ((2 ^ k : Nat) : Int) ≤ x * 2147483648 := Int.mul_le_mul_of_nonneg_left (by omega) x0
    omega
  rw [← pw_cast] at hn
  have hw : IntKind.u64.wrap (x * 2 ^ k) = x * 2 ^ k := by rw [wrap_u64']; omega
  obtain ⟨n0, n1⟩ := hn
  have r0 : 0 ≤ x * 2 ^ k % 65536 := by omega
  have r1 : x * 2 ^ k % 65536 < 65536 := by omega
  have hk : ((16 : Int) - (k : Int)).toNat = 16 - k := by omega
  go_enter Try.func23, Try.ntmps23
  go_wp2_with fail
  refine (Set_any _ _ _ _ f0 f1 fl16).mono ?_; rintro e w' ⟨rfl, hw⟩; replace hw := hw.symm; subst hw
  go_wp2_with fail
  refine (Cut_any sz2 _ _ n0 n1).mono ?_; rintro e w' ⟨rfl, hw⟩; replace hw := hw.symm; subst hw
  go_wp2_with fail
  refine (bit_any _ _ _ x0 (by omega) (by omega) (by omega)).mono ?_; rintro e w' ⟨rfl, hw⟩; replace hw := hw.symm; subst hw
  go_wp2_with fail
  refine (Set_any _ _ _ _ B1.out.1 B1.out.2 fl1).mono ?_; rintro e w' ⟨rfl, hw⟩; replace hw := hw.symm; subst hw
  go_wp2_with fail
  refine (bit_any _ _ _ r0 (by omega) (by decide) (by decide)).mono ?_; rintro e w' ⟨rfl, hw⟩; replace hw := hw.symm; subst hw
  go_wp2_with fail
  refine (Set_any _ _ _ _ B2.out.1 B2.out.2 fl2048).mono ?_; rintro e w' ⟨rfl, hw⟩; replace hw := hw.symm; subst hw
  go_wp2_with fail
  refine (By_any sz2 _ _ _ r0 r1 B3.out.1 B3.out.2).mono ?_; rintro e w' ⟨rfl, hw⟩; replace hw := hw.symm; subst hw
  go_wp2
  go_ret2
  exact ⟨rfl, rfl⟩

set_option maxRecDepth 20000 in
set_option maxHeartbeats 1000000 in
theorem mov_6a_16 (x f : Int) (k : Nat) (w : World) (x0 : 0 ≤ x) (x1 : x < 65536) (k1 : 1 ≤ k) (k2 : k ≤ 31) (f0 : 0 ≤ f) (f1 : f < 4294967296) (kw : k ≤ 16) :
    Calls Try.prog 23 #[.int .i64 6, .int .u64 x, .int .i64 16, .int .i64 (k : Int), .int .u32 f] w fun e w' =>
      e = .returned (.tuple #[.int .u64 (x * 2 ^ k % 65536), .int .u32 (byF 32768 (x * 2 ^ k % 65536) (setF (setF (setF f 16 false) 1 (tb x (16 - k))) 2048 ((tb x (16 - k)) != tb (x * 2 ^ k % 65536) 15)))]) ∧ w' = w := by
  have b1 := bd1 f0 f1 16 fl16 false
  have b2 := bd1 b1.1 b1.2 1 fl1 (tb x (16 - k))
  have b3 := bd1 b2.1 b2.2 2048 fl2048 ((tb x (16 - k)) != tb (x * 2 ^ k % 65536) 15)
  have B1 : Hid _ := b1
  have B2 : Hid _ := b2
  have B3 : Hid _ := b3
  clear b1 b2 b3
  have hn : 0 ≤ x * ((2 ^ k : Nat) : Int) ∧ x * ((2 ^ k : Nat) : Int) < 18446744073709551616 := by
    have h31 : (2 : Nat) ^ k ≤ 2 ^ 31 := Nat.pow_le_pow_right (by decide) k2
    have e31 : (2 : Nat) ^ 31 = 2147483648 := by decide
    have hp := Nat.two_pow_pos k
    refine ⟨Int.mul_nonneg x0 (by omega), ?_⟩
    have h1 : x * ((2 ^ k : Nat) : Int) ≤ x * 2147483648 := Int.mul_le_mul_of_nonneg_left (by omega) x0
    omega
  rw [← pw_cast] at hn
  have hw : IntKind.u64.wrap (x * 2 ^ k) = x * 2 ^ k := by rw [wrap_u64']; omega
  obtain ⟨n0, n1⟩ := hn
  have r0 : 0 ≤ x * 2 ^ k % 65536 := by omega
  have r1 : x * 2 ^ k % 65536 < 65536 := by omega
  have hk : ((16 : Int) - (k : Int)).toNat = 16 - k := by omega
  go_enter Try.func23, Try.ntmps23
  go_wp2_with fail
  refine (Set_any _ _ _ _ f0 f1 fl16).mono ?_; rintro e w' ⟨rfl, hw⟩; replace hw := hw.symm; subst hw
  go_wp2_with fail
  refine (Cut_any sz2 _ _ n0 n1).mono ?_; rintro e w' ⟨rfl, hw⟩; replace hw := hw.symm; subst hw
  go_wp2_with fail
  refine (bit_any _ _ _ x0 (by omega) (by omega) (by omega)).mono ?_; rintro e w' ⟨rfl, hw⟩; replace hw := hw.symm; subst hw
  go_wp2_with fail
  refine (Set_any _ _ _ _ B1.out.1 B1.out.2 fl1).mono ?_; rintro e w' ⟨rfl, hw⟩; replace hw := hw.symm; subst hw
  go_wp2_with fail
  refine (bit_any _ _ _ r0 (by omega) (by decide) (by decide)).mono ?_; rintro e w' ⟨rfl, hw⟩; replace hw := hw.symm; subst hw
  go_wp2_with fail
  refine (Set_any _ _ _ _ B2.out.1 B2.out.2 fl2048).mono ?_; rintro e w' ⟨rfl, hw⟩; replace hw := hw.symm; subst hw
  go_wp2_with fail
  refine (By_any sz2 _ _ _ r0 r1 B3.out.1 B3.out.2).mono ?_; rintro e w' ⟨rfl, hw⟩; replace hw := hw.symm; subst hw
  go_wp2
  go_ret2
  exact ⟨rfl, rfl⟩

set_option maxRecDepth 20000 in
set_option maxHeartbeats 1000000 in
theorem mov_4b_16 (x f : Int) (k : Nat) (w : World) (x0 : 0 ≤ x) (x1 : x < 65536) (k1 : 1 ≤ k) (k2 : k ≤ 31) (f0 : 0 ≤ f) (f1 : f < 4294967296) (kw : 16 < k) :
    Calls Try.prog 23 #[.int .i64 4, .int .u64 x, .int .i64 16, .int .i64 (k : Int), .int .u32 f] w fun e w' =>
      e = .returned (.tuple #[.int .u64 (x * 2 ^ k % 65536), .int .u32 (byF 32768 (x * 2 ^ k % 65536) (setF (setF (setF f 16 false) 1 false) 2048 (tb (x * 2 ^ k % 65536) 15)))]) ∧ w' = w := by
  have b1 := bd1 f0 f1 16 fl16 false
  have b2 := bd1 b1.1 b1.2 1 fl1 false
  have b3 := bd1 b2.1 b2.2 2048 fl2048 (tb (x * 2 ^ k % 65536) 15)
  have B1 : Hid _ := b1
  have B2 : Hid _ := b2
  have B3 : Hid _ := b3
  clear b1 b2 b3
  have hn : 0 ≤ x * ((2 ^ k : Nat) : Int) ∧ x * ((2 ^ k : Nat) : Int) < 18446744073709551616 := by
    have h31 : (2 : Nat) ^ k ≤ 2 ^ 31 := Nat.pow_le_pow_right (by decide) k2
    have e31 : (2 : Nat) ^ 31 = 2147483648 := by decide
    have hp := Nat.two_pow_pos k
    refine ⟨Int.mul_nonneg x0 (by omega), ?_⟩
    have h1 : x * ((2 ^ k : Nat) : Int) ≤ x * 2147483648 := Int.mul_le_mul_of_nonneg_left (by omega) x0
    omega
  rw [← pw_cast] at hn
  have hw : IntKind.u64.wrap (x * 2 ^ k) = x * 2 ^ k := by rw [wrap_u64']; omega
  obtain ⟨n0, n1⟩ := hn
  have r0 : 0 ≤ x * 2 ^ k % 65536 := by omega
  have r1 : x * 2 ^ k % 65536 < 65536 := by omega
  go_enter Try.func23, Try.ntmps23
  go_wp2_with fail
  refine (Set_any _ _ _ _ f0 f1 fl16).mono ?_; rintro e w' ⟨rfl, hw⟩; replace hw := hw.symm; subst hw
  go_wp2_with fail
  refine (Cut_any sz2 _ _ n0 n1).mono ?_; rintro e w' ⟨rfl, hw⟩; replace hw := hw.symm; subst hw
  go_wp2_with fail
  refine (bit_neg _ _ _ (by omega)).mono ?_; rintro e w' ⟨rfl, hw⟩; replace hw := hw.symm; subst hw
  go_wp2_with fail
  refine (Set_any _ _ _ _ B1.out.1 B1.out.2 fl1).mono ?_; rintro e w' ⟨rfl, hw⟩; replace hw := hw.symm; subst hw
  go_wp2_with fail
  refine (bit_any _ _ _ r0 (by omega) (by decide) (by decide)).mono ?_; rintro e w' ⟨rfl, hw⟩; replace hw := hw.symm; subst hw
  go_wp2_with fail
  refine (Set_any _ _ _ _ B2.out.1 B2.out.2 fl2048).mono ?_; rintro e w' ⟨rfl, hw⟩; replace hw := hw.symm; subst hw
  go_wp2_with fail
  refine (By_any sz2 _ _ _ r0 r1 B3.out.1 B3.out.2).mono ?_; rintro e w' ⟨rfl, hw⟩; replace hw := hw.symm; subst hw
  go_wp2
  go_ret2
  exact ⟨rfl, rfl⟩

set_option maxRecDepth 20000 in
set_option maxHeartbeats 1000000 in
theorem mov_6b_16 (x f : Int) (k : Nat) (w : World) (x0 : 0 ≤ x) (x1 : x < 65536) (k1 : 1 ≤ k) (k2 : k ≤ 31) (f0 : 0 ≤ f) (f1 : f < 4294967296) (kw : 16 < k) :
    Calls Try.prog 23 #[.int .i64 6, .int .u64 x, .int .i64 16, .int .i64 (k : Int), .int .u32 f] w fun e w' =>
      e = .returned (.tuple #[.int .u64 (x * 2 ^ k % 65536), .int .u32 (byF 32768 (x * 2 ^ k % 65536) (setF (setF (setF f 16 false) 1 false) 2048 (tb (x * 2 ^ k % 65536) 15)))]) ∧ w' = w := by
  have b1 := bd1 f0 f1 16 fl16 false
  have b2 := bd1 b1.1 b1.2 1 fl1 false
  have b3 := bd1 b2.1 b2.2 2048 fl2048 (tb (x * 2 ^ k % 65536) 15)
  have B1 : Hid _ := b1
  have B2 : Hid _ := b2
  have B3 : Hid _ := b3
  clear b1 b2 b3
  have hn : 0 ≤ x * ((2 ^ k : Nat) : Int) ∧ x * ((2 ^ k : Nat) : Int) < 18446744073709551616 := by
    have h31 : (2 : Nat) ^ k ≤ 2 ^ 31 := Nat.pow_le_pow_right (by decide) k2
    have e31 : (2 : Nat) ^ 31 = 2147483648 := by decide
    have hp := Nat.two_pow_pos k
    refine ⟨Int.mul_nonneg x0 (by omega), ?_⟩
    have h1 : x * ((2 ^ k : Nat) : Int) ≤ x * 2147483648 := Int.mul_le_mul_of_nonneg_left (by omega) x0
    omega
  rw [← pw_cast] at hn
  have hw : IntKind.u64.wrap (x * 2 ^ k) = x * 2 ^ k := by rw [wrap_u64']; omega
  obtain ⟨n0, n1⟩ := hn
  have r0 : 0 ≤ x * 2 ^ k % 65536 := by omega
  have r1 : x * 2 ^ k % 65536 < 65536 := by omega
  go_enter Try.func23, Try.ntmps23
  go_wp2_with fail
  refine (Set_any _ _ _ _ f0 f1 fl16).mono ?_; rintro e w' ⟨rfl, hw⟩; replace hw := hw.symm; subst hw
  go_wp2_with fail
  refine (Cut_any sz2 _ _ n0 n1).mono ?_; rintro e w' ⟨rfl, hw⟩; replace hw := hw.symm; subst hw
  go_wp2_with fail
  refine (bit_neg _ _ _ (by omega)).mono ?_; rintro e w' ⟨rfl, hw⟩; replace hw := hw.symm; subst hw
  go_wp2_with fail
  refine (Set_any _ _ _ _ B1.out.1 B1.out.2 fl1).mono ?_; rintro e w' ⟨rfl, hw⟩; replace hw := hw.symm; subst hw
  go_wp2_with fail
  refine (bit_any _ _ _ r0 (by omega) (by decide) (by decide)).mono ?_; rintro e w' ⟨rfl, hw⟩; replace hw := hw.symm; subst hw
  go_wp2_with fail
  refine (Set_any _ _ _ _ B2.out.1 B2.out.2 fl2048).mono ?_; rintro e w' ⟨rfl, hw⟩; replace hw := hw.symm; subst hw
  go_wp2_with fail
  refine (By_any sz2 _ _ _ r0 r1 B3.out.1 B3.out.2).mono ?_; rintro e w' ⟨rfl, hw⟩; replace hw := hw.symm; subst hw
  go_wp2
  go_ret2
  exact ⟨rfl, rfl⟩

set_option maxRecDepth 20000 in
set_option maxHeartbeats 1000000 in
theorem mov_7a_16 (x f : Int) (k : Nat) (w : World) (x0 : 0 ≤ x) (x1 : x < 65536) (k1 : 1 ≤ k) (k2 : k ≤ 31) (f0 : 0 ≤ f) (f1 : f < 4294967296) (ht : tb x 15 = false) :
    Calls Try.prog 23 #[.int .i64 7, .int .u64 x, .int .i64 16, .int .i64 (k : Int), .int .u32 f] w fun e w' =>
      e = .returned (.tuple #[.int .u64 (x / 2 ^ k % 65536), .int .u32 (byF 32768 (x / 2 ^ k % 65536) (setF (setF (setF f 16 false) 1 (tb x (k - 1))) 2048 false))]) ∧ w' = w := by
  have b1 := bd1 f0 f1 16 fl16 false
  have b2 := bd1 b1.1 b1.2 1 fl1 (tb x (k - 1))
  have b3 := bd1 b2.1 b2.2 2048 fl2048 false
  have B1 : Hid _ := b1
  have B2 : Hid _ := b2
  have B3 : Hid _ := b3
  clear b1 b2 b3
  have d := div_bd x0 x1 k
  have d0 : 0 ≤ x / 2 ^ k := by rw [pw_cast]; exact d.1
  have d1 : x / 2 ^ k < 65536 := by rw [pw_cast]; exact d.2
  clear d
  have r0 : 0 ≤ x / 2 ^ k % 65536 := by omega
  have r1 : x / 2 ^ k % 65536 < 65536 := by omega
  have hk : ((k : Int) - 1).toNat = k - 1 := by omega
  go_enter Try.func23, Try.ntmps23
  go_wp2_with fail
  refine (Set_any _ _ _ _ f0 f1 fl16).mono ?_; rintro e w' ⟨rfl, hw⟩; replace hw := hw.symm; subst hw
  go_wp2_with fail
  refine (bit_any _ _ _ x0 (by omega) (by omega) (by omega)).mono ?_; rintro e w' ⟨rfl, hw⟩; replace hw := hw.symm; subst hw
  go_wp2_with fail
  refine (Cut_any sz2 _ _ d0 (by omega)).mono ?_; rintro e w' ⟨rfl, hw⟩; replace hw := hw.symm; subst hw
  go_wp2_with fail
  refine (bit_any _ _ _ x0 (by omega) (by omega) (by omega)).mono ?_; rintro e w' ⟨rfl, hw⟩; replace hw := hw.symm; subst hw
  go_wp2_with fail
  refine (Set_any _ _ _ _ B1.out.1 B1.out.2 fl1).mono ?_; rintro e w' ⟨rfl, hw⟩; replace hw := hw.symm; subst hw
  go_wp2_with fail
  refine (Set_any _ _ _ _ B2.out.1 B2.out.2 fl2048).mono ?_; rintro e w' ⟨rfl, hw⟩; replace hw := hw.symm; subst hw
  go_wp2_with fail
  refine (By_any sz2 _ _ _ r0 r1 B3.out.1 B3.out.2).mono ?_; rintro e w' ⟨rfl, hw⟩; replace hw := hw.symm; subst hw
  go_wp2
  go_ret2
  exact ⟨rfl, rfl⟩

set_option maxRecDepth 20000 in
set_option maxHeartbeats 1000000 in
theorem mov_7b_16 (x f : Int) (k : Nat) (w : World) (x0 : 0 ≤ x) (x1 : x < 65536) (k1 : 1 ≤ k) (k2 : k ≤ 31) (f0 : 0 ≤ f) (f1 : f < 4294967296) (ht : tb x 15 = true) :
    Calls Try.prog 23 #[.int .i64 7, .int .u64 x, .int .i64 16, .int .i64 (k : Int), .int .u32 f] w fun e w' =>
      e = .returned (.tuple #[.int .u64 ((wideAt x 65536 64) / 2 ^ k % 65536), .int .u32 (byF 32768 ((wideAt x 65536 64) / 2 ^ k % 65536) (setF (setF (setF f 16 false) 1 (tb (wideAt x 65536 64) (k - 1))) 2048 false))]) ∧ w' = w := by
  have b1 := bd1 f0 f1 16 fl16 false
  have b2 := bd1 b1.1 b1.2 1 fl1 (tb (wideAt x 65536 64) (k - 1))
  have b3 := bd1 b2.1 b2.2 2048 fl2048 false
  have B1 : Hid _ := b1
  have B2 : Hid _ := b2
  have B3 : Hid _ := b3
  clear b1 b2 b3
  have hu : (wideAt x 65536 64) = x + 18446744073709551616 - 65536 := rfl
  have n0 : 0 ≤ (wideAt x 65536 64) := by rw [hu]; omega
  have n1 : (wideAt x 65536 64) < 18446744073709551616 := by rw [hu]; omega
  clear hu
  have d := div_bd n0 n1 k
  have d0 : 0 ≤ (wideAt x 65536 64) / 2 ^ k := by rw [pw_cast]; exact d.1
  have d1 : (wideAt x 65536 64) / 2 ^ k < 18446744073709551616 := by rw [pw_cast]; exact d.2
  have rb := mod_bd (M := 65536) (by decide) ((wideAt x 65536 64) / 2 ^ k)
  have r0 := rb.1
  have r1 := rb.2
  clear d rb
  have hk : ((k : Int) - 1).toNat = k - 1 := by omega
  go_enter Try.func23, Try.ntmps23
  go_wp2_with fail
  refine (Set_any _ _ _ _ f0 f1 fl16).mono ?_; rintro e w' ⟨rfl, hw⟩; replace hw := hw.symm; subst hw
  go_wp2_with fail
  refine (bit_any _ _ _ x0 (by omega) (by decide) (by decide)).mono ?_; rintro e w' ⟨rfl, hw⟩; replace hw := hw.symm; subst hw
  go_wp2
  go_loop [13, 14] (fun v i => ∃ j : Nat, 16 ≤ j ∧ j ≤ 64 ∧ i = .int .i64 j ∧ v = .int .u64 (wideAt x 65536 j)) (fun _ i => 64 - (intOf i).toNat)
  case atStart => exact ⟨16, by omega, by omega, rfl, by rw [wide_start x 65536 16 rfl]⟩
  case round =>
    obtain ⟨j, hj0, hj, rfl, rfl⟩ := hrel
    by_cases hlt : j < 64
    · have HJ : Hid (wideAt x 65536 (j + 1) = wideAt x 65536 j + 2 ^ j) := wide_step x 65536 j
      have W0 : Hid (0 ≤ wideAt x 65536 j) := (wide_pos x0 hj0 rfl : 0 ≤ wideAt x 65536 j)
      have W1 : Hid (wideAt x 65536 j + 2 ^ j < 18446744073709551616) := (wide_lt x1 hlt : wideAt x 65536 j + 2 ^ j < 18446744073709551616)
      have P0 : Hid ((0 : Int) < 2 ^ j) := (Int.pow_pos (by decide) : (0 : Int) < 2 ^ j)
      go_wp2
      refine ⟨⟨j + 1, by omega, by omega, by go_num, ?_⟩, by simp [intOf]; omega⟩
      rw [HJ.out, wide_wrap W0.out P0.out W1.out]
    · have : j = 64 := by omega
      subst this
      go_wp2_with fail
      refine (Cut_any sz2 _ _ d0 d1).mono ?_; rintro e w' ⟨rfl, hw⟩; replace hw := hw.symm; subst hw
      go_wp2_with fail
      refine (bit_any _ _ _ n0 n1 (by omega) (by omega)).mono ?_; rintro e w' ⟨rfl, hw⟩; replace hw := hw.symm; subst hw
      go_wp2_with fail
      refine (Set_any _ _ _ _ B1.out.1 B1.out.2 fl1).mono ?_; rintro e w' ⟨rfl, hw⟩; replace hw := hw.symm; subst hw
      go_wp2_with fail
      refine (Set_any _ _ _ _ B2.out.1 B2.out.2 fl2048).mono ?_; rintro e w' ⟨rfl, hw⟩; replace hw := hw.symm; subst hw
      go_wp2_with fail
      refine (By_any sz2 _ _ _ r0 r1 B3.out.1 B3.out.2).mono ?_; rintro e w' ⟨rfl, hw⟩; replace hw := hw.symm; subst hw
      go_wp2
      go_ret2
      exact ⟨rfl, rfl⟩

set_option maxRecDepth 20000 in
set_option maxHeartbeats 1000000 in
theorem mov_5_32 (x f : Int) (k : Nat) (w : World) (x0 : 0 ≤ x) (x1 : x < 4294967296) (k1 : 1 ≤ k) (k2 : k ≤ 31) (f0 : 0 ≤ f) (f1 : f < 4294967296) :
    Calls Try.prog 23 #[.int .i64 5, .int .u64 x, .int .i64 32, .int .i64 (k : Int), .int .u32 f] w fun e w' =>
      e = .returned (.tuple #[.int .u64 (x / 2 ^ k), .int .u32 (byF 2147483648 (x / 2 ^ k) (setF (setF (setF f 16 false) 1 (tb x (k - 1))) 2048 (tb x 31)))]) ∧ w' = w := by
  have b1 := bd1 f0 f1 16 fl16 false
  have b2 := bd1 b1.1 b1.2 1 fl1 (tb x (k - 1))
  have b3 := bd1 b2.1 b2.2 2048 fl2048 (tb x 31)
  have B1 : Hid _ := b1
  have B2 : Hid _ := b2
  have B3 : Hid _ := b3
  clear b1 b2 b3
  have d := div_bd x0 x1 k
  have d0 : 0 ≤ x / 2 ^ k := by rw [pw_cast]; exact d.1
  have d1 : x / 2 ^ k < 4294967296 := by rw [pw_cast]; exact d.2
  clear d
  have hk : ((k : Int) - 1).toNat = k - 1 := by omega
  go_enter Try.func23, Try.ntmps23
  go_wp2_with fail
  refine (Set_any _ _ _ _ f0 f1 fl16).mono ?_; rintro e w' ⟨rfl, hw⟩; replace hw := hw.symm; subst hw
  go_wp2_with fail
  refine (bit_any _ _ _ x0 (by omega) (by omega) (by omega)).mono ?_; rintro e w' ⟨rfl, hw⟩; replace hw := hw.symm; subst hw
  go_wp2_with fail
  refine (Set_any _ _ _ _ B1.out.1 B1.out.2 fl1).mono ?_; rintro e w' ⟨rfl, hw⟩; replace hw := hw.symm; subst hw
  go_wp2_with fail
  refine (bit_any _ _ _ x0 (by omega) (by omega) (by omega)).mono ?_; rintro e w' ⟨rfl, hw⟩; replace hw := hw.symm; subst hw
  go_wp2_with fail
  refine (Set_any _ _ _ _ B2.out.1 B2.out.2 fl2048).mono ?_; rintro e w' ⟨rfl, hw⟩; replace hw := hw.symm; subst hw
  go_wp2_with fail
  refine (By_any sz4 _ _ _ d0 d1 B3.out.1 B3.out.2).mono ?_; rintro e w' ⟨rfl, hw⟩; replace hw := hw.symm; subst hw
  go_wp2
  go_ret2
  exact ⟨rfl, rfl⟩

set_option maxRecDepth 20000 in
set_option maxHeartbeats 1000000 in
theorem mov_4a_32 (x f : Int) (k : Nat) (w : World) (x0 : 0 ≤ x) (x1 : x < 4294967296) (k1 : 1 ≤ k) (k2 : k ≤ 31) (f0 : 0 ≤ f) (f1 : f < 4294967296) (kw : k ≤ 32) :
    Calls Try.prog 23 #[.int .i64 4, .int .u64 x, .int .i64 32, .int .i64 (k : Int), .int .u32 f] w fun e w' =>
      e = .returned (.tuple #[.int .u64 (x * 2 ^ k % 4294967296), .int .u32 (byF 2147483648 (x * 2 ^ k % 4294967296) (setF (setF (setF f 16 false) 1 (tb x (32 - k))) 2048 ((tb x (32 - k)) != tb (x * 2 ^ k % 4294967296) 31)))]) ∧ w' = w := by
  have b1 := bd1 f0 f1 16 fl16 false
  have b2 := bd1 b1.1 b1.2 1 fl1 (tb x (32 - k))
  have b3 := bd1 b2.1 b2.2 2048 fl2048 ((tb x (32 - k)) != tb (x * 2 ^ k % 4294967296) 31)
  have B1 : Hid _ := b1
  have B2 : Hid _ := b2
  have B3 : Hid _ := b3
  clear b1 b2 b3
  have hn : 0 ≤ x * ((2 ^ k : Nat) : Int) ∧ x * ((2 ^ k : Nat) : Int) < 18446744073709551616 := by
    have h31 : (2 : Nat) ^ k ≤ 2 ^ 31 := Nat.pow_le_pow_right (by decide) k2
    have e31 : (2 : Nat) ^ 31 = 2147483648 := by decide
    have hp := Nat.two_pow_pos k
    refine ⟨Int.mul_nonneg x0 (by omega), ?_⟩
    have h1 : x * ((2 ^ k : Nat) : Int) ≤ x * 2147483648 := Int.mul_le_mul_of_nonneg_left (by omega) x0
    omega
  rw [← pw_cast] at hn
  have hw : IntKind.u64.wrap (x * 2 ^ k) = x * 2 ^ k := by rw [wrap_u64']; omega
  obtain ⟨n0, n1⟩ := hn
  have r0 : 0 ≤ x * 2 ^ k % 4294967296 := by omega
  have r1 : x * 2 ^ k % 4294967296 < 4294967296 := by omega
  have hk : ((32 : Int) - (k : Int)).toNat = 32 - k := by omega
  go_enter Try.func23, Try.ntmps23
  go_wp2_with fail
  refine (Set_any _ _ _ _ f0 f1 fl16).mono ?_; rintro e w' ⟨rfl, hw⟩; replace hw := hw.symm; subst hw
  go_wp2_with fail
  refine (Cut_any sz4 _ _ n0 n1).mono ?_; rintro e w' ⟨rfl, hw⟩; replace hw := hw.symm; subst hw
  go_wp2_with fail
  refine (bit_any _ _ _ x0 (by omega) (by omega) (by omega)).mono ?_; rintro e w' ⟨rfl, hw⟩; replace hw := hw.symm; subst hw
  go_wp2_with fail
  refine (Set_any _ _ _ _ B1.out.1 B1.out.2 fl1).mono ?_; rintro e w' ⟨rfl, hw⟩; replace hw := hw.symm; subst hw
  go_wp2_with fail
  refine (bit_any _ _ _ r0 (by omega) (by decide) (by decide)).mono ?_; rintro e w' ⟨rfl, hw⟩; replace hw := hw.symm; subst hw
  go_wp2_with fail
  refine (Set_any _ _ _ _ B2.out.1 B2.out.2 fl2048).mono ?_; rintro e w' ⟨rfl, hw⟩; replace hw := hw.symm; subst hw
  go_wp2_with fail
  refine (By_any sz4 _ _ _ r0 r1 B3.out.1 B3.out.2).mono ?_; rintro e w' ⟨rfl, hw⟩; replace hw := hw.symm; subst hw
  go_wp2
  go_ret2
  exact ⟨rfl, rfl⟩

set_option maxRecDepth 20000 in
set_option maxHeartbeats 1000000 in
theorem mov_6a_32 (x f : Int) (k : Nat) (w : World) (x0 : 0 ≤ x) (x1 : x < 4294967296) (k1 : 1 ≤ k) (k2 : k ≤ 31) (f0 : 0 ≤ f) (f1 : f < 4294967296) (kw : k ≤ 32) :
    Calls Try.prog 23 #[.int .i64 6, .int .u64 x, .int .i64 32, .int .i64 (k : Int), .int .u32 f] w fun e w' =>
      e = .returned (.tuple #[.int .u64 (x * 2 ^ k % 4294967296), .int .u32 (byF 2147483648 (x * 2 ^ k % 4294967296) (setF (setF (setF f 16 false) 1 (tb x (32 - k))) 2048 ((tb x (32 - k)) != tb (x * 2 ^ k % 4294967296) 31)))]) ∧ w' = w := by
  have b1 := bd1 f0 f1 16 fl16 false
  have b2 := bd1 b1.1 b1.2 1 fl1 (tb x (32 - k))
  have b3 := bd1 b2.1 b2.2 2048 fl2048 ((tb x (32 - k)) != tb (x * 2 ^ k % 4294967296) 31)
  have B1 : Hid _ := b1
  have B2 : Hid _ := b2
  have B3 : Hid _ := b3
  clear b1 b2 b3
  have hn : 0 ≤ x * ((2 ^ k : Nat) : Int) ∧ x * ((2 ^ k : Nat) : Int) < 18446744073709551616 := by
    have h31 : (2 : Nat) ^ k ≤ 2 ^ 31 := Nat.pow_le_pow_right (by decide) k2
    have e31 : (2 : Nat) ^ 31 = 2147483648 := by decide
    have hp := Nat.two_pow_pos k
    refine ⟨Int.mul_nonneg x0 (by omega), ?_⟩
    have h1 : x * ((2 ^ k : Nat) : Int) ≤ x * 2147483648 := Int.mul_le_mul_of_nonneg_left (by omega) x0
    omega
  rw [← pw_cast] at hn
  have hw : IntKind.u64.wrap (x * 2 ^ k) = x * 2 ^ k := by rw [wrap_u64']; omega
  obtain ⟨n0, n1⟩ := hn
  have r0 : 0 ≤ x * 2 ^ k % 4294967296 := by omega
  have r1 : x * 2 ^ k % 4294967296 < 4294967296 := by omega
  have hk : ((32 : Int) - (k : Int)).toNat = 32 - k := by omega
  go_enter Try.func23, Try.ntmps23
  go_wp2_with fail
  refine (Set_any _ _ _ _ f0 f1 fl16).mono ?_; rintro e w' ⟨rfl, hw⟩; replace hw := hw.symm; subst hw
  go_wp2_with fail
  refine (Cut_any sz4 _ _ n0 n1).mono ?_; rintro e w' ⟨rfl, hw⟩; replace hw := hw.symm; subst hw
  go_wp2_with fail
  refine (bit_any _ _ _ x0 (by omega) (by omega) (by omega)).mono ?_; rintro e w' ⟨rfl, hw⟩; replace hw := hw.symm; subst hw
  go_wp2_with fail
  refine (Set_any _ _ _ _ B1.out.1 B1.out.2 fl1).mono ?_; rintro e w' ⟨rfl, hw⟩; replace hw := hw.symm; subst hw
  go_wp2_with fail
  refine (bit_any _ _ _ r0 (by omega) (by decide) (by decide)).mono ?_; rintro e w' ⟨rfl, hw⟩; replace hw := hw.symm; subst hw
  go_wp2_with fail
  refine (Set_any _ _ _ _ B2.out.1 B2.out.2 fl2048).mono ?_; rintro e w' ⟨rfl, hw⟩; replace hw := hw.symm; subst hw
  go_wp2_with fail
  refine (By_any sz4 _ _ _ r0 r1 B3.out.1 B3.out.2).mono ?_; rintro e w' ⟨rfl, hw⟩; replace hw := hw.symm; subst hw
  go_wp2
  go_ret2
  exact ⟨rfl, rfl⟩

set_option maxRecDepth 20000 in
set_option maxHeartbeats 1000000 in
theorem mov_7a_32 (x f : Int) (k : Nat) (w : World) (x0 : 0 ≤ x) (x1 : x < 4294967296) (k1 : 1 ≤ k) (k2 : k ≤ 31) (f0 : 0 ≤ f) (f1 : f < 4294967296) (ht : tb x 31 = false) :
    Calls Try.prog 23 #[.int .i64 7, .int .u64 x, .int .i64 32, .int .i64 (k : Int), .int .u32 f] w fun e w' =>
      e = .returned (.tuple #[.int .u64 (x / 2 ^ k % 4294967296), .int .u32 (byF 2147483648 (x / 2 ^ k % 4294967296) (setF (setF (setF f 16 false) 1 (tb x (k - 1))) 2048 false))]) ∧ w' = w := by
  have b1 := bd1 f0 f1 16 fl16 false
  have b2 := bd1 b1.1 b1.2 1 fl1 (tb x (k - 1))
  have b3 := bd1 b2.1 b2.2 2048 fl2048 false
  have B1 : Hid _ := b1
  have B2 : Hid _ := b2
  have B3 : Hid _ := b3
  clear b1 b2 b3
  have d := div_bd x0 x1 k
  have d0 : 0 ≤ x / 2 ^ k := by rw [pw_cast]; exact d.1
  have d1 : x / 2 ^ k < 4294967296 := by rw [pw_cast]; exact d.2
  clear d
  have r0 : 0 ≤ x / 2 ^ k % 4294967296 := by omega
  have r1 : x / 2 ^ k % 4294967296 < 4294967296 := by omega
  have hk : ((k : Int) - 1).toNat = k - 1 := by omega
  go_enter Try.func23, Try.ntmps23
  go_wp2_with fail
  refine (Set_any _ _ _ _ f0 f1 fl16).mono ?_; rintro e w' ⟨rfl, hw⟩; replace hw := hw.symm; subst hw
  go_wp2_with fail
  refine (bit_any _ _ _ x0 (by omega) (by omega) (by omega)).mono ?_; rintro e w' ⟨rfl, hw⟩; replace hw := hw.symm; subst hw
  go_wp2_with fail
  refine (Cut_any sz4 _ _ d0 (by omega)).mono ?_; rintro e w' ⟨rfl, hw⟩; replace hw := hw.symm; subst hw
  go_wp2_with fail
  refine (bit_any _ _ _ x0 (by omega) (by omega) (by omega)).mono ?_; rintro e w' ⟨rfl, hw⟩; replace hw := hw.symm; subst hw
  go_wp2_with fail
  refine (Set_any _ _ _ _ B1.out.1 B1.out.2 fl1).mono ?_; rintro e w' ⟨rfl, hw⟩; replace hw := hw.symm; subst hw
  go_wp2_with fail
  refine (Set_any _ _ _ _ B2.out.1 B2.out.2 fl2048).mono ?_; rintro e w' ⟨rfl, hw⟩; replace hw := hw.symm; subst hw
  go_wp2_with fail
  refine (By_any sz4 _ _ _ r0 r1 B3.out.1 B3.out.2).mono ?_; rintro e w' ⟨rfl, hw⟩; replace hw := hw.symm; subst hw
  go_wp2
  go_ret2
  exact ⟨rfl, rfl⟩

set_option maxRecDepth 20000 in
set_option maxHeartbeats 1000000 in
theorem mov_7b_32 (x f : Int) (k : Nat) (w : World) (x0 : 0 ≤ x) (x1 : x < 4294967296) (k1 : 1 ≤ k) (k2 : k ≤ 31) (f0 : 0 ≤ f) (f1 : f < 4294967296) (ht : tb x 31 = true) :
    Calls Try.prog 23 #[.int .i64 7, .int .u64 x, .int .i64 32, .int .i64 (k : Int), .int .u32 f] w fun e w' =>
      e = .returned (.tuple #[.int .u64 ((wideAt x 4294967296 64) / 2 ^ k % 4294967296), .int .u32 (byF 2147483648 ((wideAt x 4294967296 64) / 2 ^ k % 4294967296) (setF (setF (setF f 16 false) 1 (tb (wideAt x 4294967296 64) (k - 1))) 2048 false))]) ∧ w' = w := by
  have b1 := bd1 f0 f1 16 fl16 false
  have b2 := bd1 b1.1 b1.2 1 fl1 (tb (wideAt x 4294967296 64) (k - 1))
  have b3 := bd1 b2.1 b2.2 2048 fl2048 false
  have B1 : Hid _ := b1
  have B2 : Hid _ := b2
  have B3 : Hid _ := b3
  clear b1 b2 b3
  have hu : (wideAt x 4294967296 64) = x + 18446744073709551616 - 4294967296 := rfl
  have n0 : 0 ≤ (wideAt x 4294967296 64) := by rw [hu]; omega
  have n1 : (wideAt x 4294967296 64) < 18446744073709551616 := by rw [hu]; omega
  clear hu
  have d := div_bd n0 n1 k
  have d0 : 0 ≤ (wideAt x 4294967296 64) / 2 ^ k := by rw [pw_cast]; exact d.1
  have d1 : (wideAt x 4294967296 64) / 2 ^ k < 18446744073709551616 := by rw [pw_cast]; exact d.2
  have rb := mod_bd (M := 4294967296) (by decide) ((wideAt x 4294967296 64) / 2 ^ k)
  have r0 := rb.1
  have r1 := rb.2
  clear d rb
  have hk : ((k : Int) - 1).toNat = k - 1 := by omega
  go_enter Try.func23, Try.ntmps23
  go_wp2_with fail
  refine (Set_any _ _ _ _ f0 f1 fl16).mono ?_; rintro e w' ⟨rfl, hw⟩; replace hw := hw.symm; subst hw
  go_wp2_with fail
  refine (bit_any _ _ _ x0 (by omega) (by decide) (by decide)).mono ?_; rintro e w' ⟨rfl, hw⟩; replace hw := hw.symm; subst hw
  go_wp2
  go_loop [13, 14] (fun v i => ∃ j : Nat, 32 ≤ j ∧ j ≤ 64 ∧ i = .int .i64 j ∧ v = .int .u64 (wideAt x 4294967296 j)) (fun _ i => 64 - (intOf i).toNat)
  case atStart => exact ⟨32, by omega, by omega, rfl, by rw [wide_start x 4294967296 32 rfl]⟩
  case round =>
    obtain ⟨j, hj0, hj, rfl, rfl⟩ := hrel
    by_cases hlt : j < 64
    · have HJ : Hid (wideAt x 4294967296 (j + 1) = wideAt x 4294967296 j + 2 ^ j) := wide_step x 4294967296 j
      have W0 : Hid (0 ≤ wideAt x 4294967296 j) := (wide_pos x0 hj0 rfl : 0 ≤ wideAt x 4294967296 j)
      have W1 : Hid (wideAt x 4294967296 j + 2 ^ j < 18446744073709551616) := (wide_lt x1 hlt : wideAt x 4294967296 j + 2 ^ j < 18446744073709551616)
      have P0 : Hid ((0 : Int) < 2 ^ j) := (Int.pow_pos (by decide) : (0 : Int) < 2 ^ j)
      go_wp2
      refine ⟨⟨j + 1, by omega, by omega, by go_num, ?_⟩, by simp [intOf]; omega⟩
      rw [HJ.out, wide_wrap W0.out P0.out W1.out]
    · have : j = 64 := by omega
      subst this
      go_wp2_with fail
      refine (Cut_any sz4 _ _ d0 d1).mono ?_; rintro e w' ⟨rfl, hw⟩; replace hw := hw.symm; subst hw
      go_wp2_with fail
      refine (bit_any _ _ _ n0 n1 (by omega) (by omega)).mono ?_; rintro e w' ⟨rfl, hw⟩; replace hw := hw.symm; subst hw
      go_wp2_with fail
      refine (Set_any _ _ _ _ B1.out.1 B1.out.2 fl1).mono ?_; rintro e w' ⟨rfl, hw⟩; replace hw := hw.symm; subst hw
      go_wp2_with fail
      refine (Set_any _ _ _ _ B2.out.1 B2.out.2 fl2048).mono ?_; rintro e w' ⟨rfl, hw⟩; replace hw := hw.symm; subst hw
      go_wp2_with fail
      refine (By_any sz4 _ _ _ r0 r1 B3.out.1 B3.out.2).mono ?_; rintro e w' ⟨rfl, hw⟩; replace hw := hw.symm; subst hw
      go_wp2
      go_ret2
      exact ⟨rfl, rfl⟩

end Go.Proofs.Ytnfbflbghlmdjaa
