/- The contract of the document's answer to signed quotients (drawloomref03.Div): for every input within its kinds it returns what is named, and the world stays. -/
import Derived.Test.YtecfkgnffhiemaaMulRefDiv
namespace Go.Proofs.Ytecfkgnffhiemaa
open Go.ChangeShapes Go.WideShapes Go.ChangeAt Go.RowKit
set_option linter.unusedVariables false

/-- what is less than 0, cut -/
def ng (M x : Int) : Int := (M - x) % M

def mN (M H lo hi : Int) : Int := mag (M * M) (H * M) (divN M lo hi)
def mD (M H b : Int) : Int := mag M H (b % M)

theorem mN_bd {s H M : Int} {W : Nat} (hS : Sw s H M W) (lo hi : Int) : 0 ≤ mN M H lo hi ∧ mN M H lo hi < 18446744073709551616 := by
  have b := divN_bd hS lo hi
  unfold mN
  rcases hS with ⟨rfl, rfl, rfl, rfl⟩ | ⟨rfl, rfl, rfl, rfl⟩ | ⟨rfl, rfl, rfl, rfl⟩
  · have h := mag_bd (M := 256 * 256) (H := 128 * 256) (by decide) b.1 b.2.1
    omega
  · have h := mag_bd (M := 65536 * 65536) (H := 32768 * 65536) (by decide) b.1 b.2.1
    omega
  · have h := mag_bd (M := 4294967296 * 4294967296) (H := 2147483648 * 4294967296) (by decide) b.1 b.2.1
    omega

theorem mD_bd {s H M : Int} {W : Nat} (hS : Sw s H M W) (b : Int) (hz : b % M ≠ 0) : 0 < mD M H b ∧ mD M H b ≤ H := by
  have p := hS.pow
  have c := mod_bd p.2.2.2.2.2.1 b
  have h := mag_bd p.2.2.2.2.2.2 c.1 c.2
  refine ⟨?_, h.2⟩
  unfold mD mag
  split <;> omega

set_option maxHeartbeats 1000000 in
theorem rDivS_nff {s H M : Int} {W : Nat} (hS : Sw s H M W) (lo hi b : Int) (w : World) (l0 : 0 ≤ lo) (l1 : lo < 4294967296) (h0 : 0 ≤ hi) (h1 : hi < 4294967296) (b0 : 0 ≤ b) (b1 : b < 4294967296) (hz : b % M ≠ 0) (hs : sgn (H * M) (divN M lo hi) = false) (ht : sgn H (b % M) = false) (gq : H - 1 < mN M H lo hi / mD M H b) :
    Calls Try.prog 13 #[.bool true, .int .i64 s, .int .u32 lo, .int .u32 hi, .int .u32 b] w fun e w' => e = .returned (.tuple #[.int .u32 0, .int .u32 0, .bool false, .int .i64 0]) ∧ Grown w w' := by
  have hk := hS.ok
  obtain ⟨sp, hZ⟩ := hS.sz
  have mt := hS.pow.2.2.2.2.1
  have mp := hS.pow.2.2.2.2.2.1
  have w8 : ((W : Int) == 0) = false := by have := hS.pow.2.2.1; simp; omega
  have ww : IntKind.u64.wrap (W : Int) = (W : Int) := by have := hS.pow.2.2.2.1; rw [wrap_u64']; omega
  have mw : min W 64 = W := by have := hS.pow.2.2.2.1; omega
  have mw1 : min (W - 1) 64 = W - 1 := by have := hS.pow.2.2.2.1; omega
  have wh : IntKind.u64.wrap hi = hi := by rw [wrap_u64']; omega
  have wl : IntKind.u64.wrap lo = lo := by rw [wrap_u64']; omega
  have wb : IntKind.u64.wrap b = b := by rw [wrap_u64']; omega
  have l2 : lo < 18446744073709551616 := by omega
  have h2 : hi < 18446744073709551616 := by omega
  have b2 : b < 18446744073709551616 := by omega
  have hn := divN_bd hS lo hi
  have wn : IntKind.u64.wrap (hi % M * M + lo % M) = divN M lo hi := by rw [wrap_u64']; exact Int.emod_eq_of_lt hn.1 hn.2.2
  have c1 := mod_bd mp hi
  have c2 := mod_bd mp lo
  have c3 := mod_bd mp b
  have ws : IntKind.u64.wrap (hi % M * 2 ^ W) = hi % M * M := by
    rw [pw_cast, ← hS.pow.1, wrap_u64']
    have hm := mul_nn (A := 4294967295) (B := 4294967296) c1.1 (by omega) (Int.le_of_lt mp) mt
    omega
  have d0 := c3.1
  have d1 := c3.2
  have wm : IntKind.u64.wrap (2 ^ W) = M := by rw [pw_cast, ← hS.pow.1, wrap_u64']; omega
  have wm' : IntKind.u64.wrap (M - 1) = M - 1 := by rw [wrap_u64']; omega
  have hz' : (b % M == 0) = false := by simp; omega
  have hH : 0 < H ∧ M = 2 * H := ⟨by have := hS.pow.2.2.2.2.2.2; omega, hS.pow.2.2.2.2.2.2⟩
  have w2 : IntKind.i64.wrap (2 * (W : Int)) = 2 * (W : Int) := by have := hS.pow.2.2.2.1; rw [wrap_i64']; omega
  have v1 : IntKind.i64.wrap ((W : Int) - 1) = ((W - 1 : Nat) : Int) := by have := hS.pow.2.2.1; have := hS.pow.2.2.2.1; rw [wrap_i64']; omega
  have v2 : IntKind.u64.wrap ((W - 1 : Nat) : Int) = ((W - 1 : Nat) : Int) := by have := hS.pow.2.2.2.1; rw [wrap_u64']; omega
  have v3 : IntKind.u64.wrap (2 ^ (W - 1)) = H := by rw [pw_cast, ← hS.pow.2.1, wrap_u64']; omega
  have v4 : IntKind.u64.wrap (H - 1) = H - 1 := by rw [wrap_u64']; omega
  have n0 := (mN_bd hS lo hi).1
  have n1 := (mN_bd hS lo hi).2
  have y0 := (mD_bd hS b hz).1
  have y1 := (mD_bd hS b hz).2
  have y2 : 0 ≤ mD M H b := by omega
  have y3 : mD M H b ≠ 0 := by omega
  have y4 : (mD M H b == 0) = false := by simp; omega
  have q0 : 0 ≤ mN M H lo hi / mD M H b := Int.ediv_nonneg n0 y2
  have q1 : mN M H lo hi / mD M H b < 18446744073709551616 := Int.lt_of_le_of_lt (Int.ediv_le_self _ n0) n1
  have r0 := (mod_bd y0 (mN M H lo hi)).1
  have r1 := (mod_bd y0 (mN M H lo hi)).2
  have HX : Hid (∀ w : World, Calls Try.prog 25 #[.int .u64 (divN M lo hi), .int .i64 (2 * (W : Int))] w fun e w' => e = .returned (.tuple #[.int .u64 (mN M H lo hi), .bool false]) ∧ w' = w) := fun w => magnitude_is hS.sb2 _ _ hs w hn.1 hn.2.1
  have HY : Hid (∀ w : World, Calls Try.prog 25 #[.int .u64 (b % M), .int .i64 (W : Int)] w fun e w' => e = .returned (.tuple #[.int .u64 (mD M H b), .bool false]) ∧ w' = w) := fun w => magnitude_is hS.sb _ _ ht w c3.1 c3.2
  clear c1 c2 c3 hn hs ht hH
  go_enter Try.func13, Try.ntmps13
  go_wp2_with fail
  refine (Bits_ok hZ _).mono ?_; rintro e w1 ⟨rfl, hw⟩; replace hw := hw.symm; subst hw
  go_wp2_with fail
  refine (Cut_any hZ _ _ h0 h2).mono ?_; rintro e w1 ⟨rfl, hw⟩; replace hw := hw.symm; subst hw
  go_wp2_with fail
  refine (Cut_any hZ _ _ l0 l2).mono ?_; rintro e w1 ⟨rfl, hw⟩; replace hw := hw.symm; subst hw
  go_wp2_with fail
  refine (Cut_any hZ _ _ b0 b2).mono ?_; rintro e w1 ⟨rfl, hw⟩; replace hw := hw.symm; subst hw
  go_wp2_with fail
  refine (HX.out _).mono ?_; rintro e w1 ⟨rfl, hw⟩; replace hw := hw.symm; subst hw
  go_wp2_with fail
  refine (HY.out _).mono ?_; rintro e w1 ⟨rfl, hw⟩; replace hw := hw.symm; subst hw
  go_wp2
  exact bodyPost_ret (v := .tuple #[.int .u32 0, .int .u32 0, .bool false, .int .i64 0]) (by simp [results, Try.results13, go_sem]) rfl ⟨rfl, Grown.refl _⟩

set_option maxHeartbeats 1000000 in
theorem rDivS_yff {s H M : Int} {W : Nat} (hS : Sw s H M W) (lo hi b : Int) (w : World) (l0 : 0 ≤ lo) (l1 : lo < 4294967296) (h0 : 0 ≤ hi) (h1 : hi < 4294967296) (b0 : 0 ≤ b) (b1 : b < 4294967296) (hz : b % M ≠ 0) (hs : sgn (H * M) (divN M lo hi) = false) (ht : sgn H (b % M) = false) (gq : ¬ H - 1 < mN M H lo hi / mD M H b) :
    Calls Try.prog 13 #[.bool true, .int .i64 s, .int .u32 lo, .int .u32 hi, .int .u32 b] w fun e w' => e = .returned (.tuple #[.int .u32 (mN M H lo hi / mD M H b), .int .u32 (mN M H lo hi % mD M H b), .bool true, .int .i64 0]) ∧ Grown w w' := by
  have hk := hS.ok
  obtain ⟨sp, hZ⟩ := hS.sz
  have mt := hS.pow.2.2.2.2.1
  have mp := hS.pow.2.2.2.2.2.1
  have w8 : ((W : Int) == 0) = false := by have := hS.pow.2.2.1; simp; omega
  have ww : IntKind.u64.wrap (W : Int) = (W : Int) := by have := hS.pow.2.2.2.1; rw [wrap_u64']; omega
  have mw : min W 64 = W := by have := hS.pow.2.2.2.1; omega
  have mw1 : min (W - 1) 64 = W - 1 := by have := hS.pow.2.2.2.1; omega
  have wh : IntKind.u64.wrap hi = hi := by rw [wrap_u64']; omega
  have wl : IntKind.u64.wrap lo = lo := by rw [wrap_u64']; omega
  have wb : IntKind.u64.wrap b = b := by rw [wrap_u64']; omega
  have l2 : lo < 18446744073709551616 := by omega
  have h2 : hi < 18446744073709551616 := by omega
  have b2 : b < 18446744073709551616 := by omega
  have hn := divN_bd hS lo hi
  have wn : IntKind.u64.wrap (hi % M * M + lo % M) = divN M lo hi := by rw [wrap_u64']; exact Int.emod_eq_of_lt hn.1 hn.2.2
  have c1 := mod_bd mp hi
  have c2 := mod_bd mp lo
  have c3 := mod_bd mp b
  have ws : IntKind.u64.wrap (hi % M * 2 ^ W) = hi % M * M := by
    rw [pw_cast, ← hS.pow.1, wrap_u64']
    have hm := mul_nn (A := 4294967295) (B := 4294967296) c1.1 (by omega) (Int.le_of_lt mp) mt
    omega
  have d0 := c3.1
  have d1 := c3.2
  have wm : IntKind.u64.wrap (2 ^ W) = M := by rw [pw_cast, ← hS.pow.1, wrap_u64']; omega
  have wm' : IntKind.u64.wrap (M - 1) = M - 1 := by rw [wrap_u64']; omega
  have hz' : (b % M == 0) = false := by simp; omega
  have hH : 0 < H ∧ M = 2 * H := ⟨by have := hS.pow.2.2.2.2.2.2; omega, hS.pow.2.2.2.2.2.2⟩
  have w2 : IntKind.i64.wrap (2 * (W : Int)) = 2 * (W : Int) := by have := hS.pow.2.2.2.1; rw [wrap_i64']; omega
  have v1 : IntKind.i64.wrap ((W : Int) - 1) = ((W - 1 : Nat) : Int) := by have := hS.pow.2.2.1; have := hS.pow.2.2.2.1; rw [wrap_i64']; omega
  have v2 : IntKind.u64.wrap ((W - 1 : Nat) : Int) = ((W - 1 : Nat) : Int) := by have := hS.pow.2.2.2.1; rw [wrap_u64']; omega
  have v3 : IntKind.u64.wrap (2 ^ (W - 1)) = H := by rw [pw_cast, ← hS.pow.2.1, wrap_u64']; omega
  have v4 : IntKind.u64.wrap (H - 1) = H - 1 := by rw [wrap_u64']; omega
  have n0 := (mN_bd hS lo hi).1
  have n1 := (mN_bd hS lo hi).2
  have y0 := (mD_bd hS b hz).1
  have y1 := (mD_bd hS b hz).2
  have y2 : 0 ≤ mD M H b := by omega
  have y3 : mD M H b ≠ 0 := by omega
  have y4 : (mD M H b == 0) = false := by simp; omega
  have q0 : 0 ≤ mN M H lo hi / mD M H b := Int.ediv_nonneg n0 y2
  have q1 : mN M H lo hi / mD M H b < 18446744073709551616 := Int.lt_of_le_of_lt (Int.ediv_le_self _ n0) n1
  have r0 := (mod_bd y0 (mN M H lo hi)).1
  have r1 := (mod_bd y0 (mN M H lo hi)).2
  have HX : Hid (∀ w : World, Calls Try.prog 25 #[.int .u64 (divN M lo hi), .int .i64 (2 * (W : Int))] w fun e w' => e = .returned (.tuple #[.int .u64 (mN M H lo hi), .bool false]) ∧ w' = w) := fun w => magnitude_is hS.sb2 _ _ hs w hn.1 hn.2.1
  have HY : Hid (∀ w : World, Calls Try.prog 25 #[.int .u64 (b % M), .int .i64 (W : Int)] w fun e w' => e = .returned (.tuple #[.int .u64 (mD M H b), .bool false]) ∧ w' = w) := fun w => magnitude_is hS.sb _ _ ht w c3.1 c3.2
  have HNQ : Hid (∀ w : World, Calls Try.prog 26 #[.int .u64 (mN M H lo hi / mD M H b), .int .i64 (W : Int)] w fun e w' => e = .returned (.int .u64 (ng M (mN M H lo hi / mD M H b))) ∧ w' = w) := fun w => negated_any hS.sb _ w q0 (by omega)
  have HNR : Hid (∀ w : World, Calls Try.prog 26 #[.int .u64 (mN M H lo hi % mD M H b), .int .i64 (W : Int)] w fun e w' => e = .returned (.int .u64 (ng M (mN M H lo hi % mD M H b))) ∧ w' = w) := fun w => negated_any hS.sb _ w r0 (by omega)
  have m1 : 0 ≤ ng M (mN M H lo hi / mD M H b) ∧ ng M (mN M H lo hi / mD M H b) < M := mod_bd mp _
  have m2 : 0 ≤ ng M (mN M H lo hi % mD M H b) ∧ ng M (mN M H lo hi % mD M H b) < M := mod_bd mp _
  have q2 : mN M H lo hi / mD M H b < 4294967296 := by omega
  have r2 : mN M H lo hi % mD M H b < 4294967296 := by omega
  have m3 : ng M (mN M H lo hi / mD M H b) < 4294967296 := by omega
  have m4 : ng M (mN M H lo hi % mD M H b) < 4294967296 := by omega
  have wq : IntKind.u32.wrap (mN M H lo hi / mD M H b) = mN M H lo hi / mD M H b := Int.emod_eq_of_lt q0 q2
  have wr : IntKind.u32.wrap (mN M H lo hi % mD M H b) = mN M H lo hi % mD M H b := Int.emod_eq_of_lt r0 r2
  have wq' : IntKind.u32.wrap (ng M (mN M H lo hi / mD M H b)) = ng M (mN M H lo hi / mD M H b) := Int.emod_eq_of_lt m1.1 m3
  have wr' : IntKind.u32.wrap (ng M (mN M H lo hi % mD M H b)) = ng M (mN M H lo hi % mD M H b) := Int.emod_eq_of_lt m2.1 m4
  clear c1 c2 c3 hn hs ht hH m1 m2 m3 m4
  go_enter Try.func13, Try.ntmps13
  go_wp2_with fail
  refine (Bits_ok hZ _).mono ?_; rintro e w1 ⟨rfl, hw⟩; replace hw := hw.symm; subst hw
  go_wp2_with fail
  refine (Cut_any hZ _ _ h0 h2).mono ?_; rintro e w1 ⟨rfl, hw⟩; replace hw := hw.symm; subst hw
  go_wp2_with fail
  refine (Cut_any hZ _ _ l0 l2).mono ?_; rintro e w1 ⟨rfl, hw⟩; replace hw := hw.symm; subst hw
  go_wp2_with fail
  refine (Cut_any hZ _ _ b0 b2).mono ?_; rintro e w1 ⟨rfl, hw⟩; replace hw := hw.symm; subst hw
  go_wp2_with fail
  refine (HX.out _).mono ?_; rintro e w1 ⟨rfl, hw⟩; replace hw := hw.symm; subst hw
  go_wp2_with fail
  refine (HY.out _).mono ?_; rintro e w1 ⟨rfl, hw⟩; replace hw := hw.symm; subst hw
  go_wp2
  exact bodyPost_ret (v := .tuple #[.int .u32 (mN M H lo hi / mD M H b), .int .u32 (mN M H lo hi % mD M H b), .bool true, .int .i64 0]) (by simp [results, Try.results13, go_sem]) rfl
    ⟨rfl, Grown.refl _⟩

set_option maxHeartbeats 1000000 in
theorem rDivS_nft {s H M : Int} {W : Nat} (hS : Sw s H M W) (lo hi b : Int) (w : World) (l0 : 0 ≤ lo) (l1 : lo < 4294967296) (h0 : 0 ≤ hi) (h1 : hi < 4294967296) (b0 : 0 ≤ b) (b1 : b < 4294967296) (hz : b % M ≠ 0) (hs : sgn (H * M) (divN M lo hi) = false) (ht : sgn H (b % M) = true) (gq : H < mN M H lo hi / mD M H b) :
    Calls Try.prog 13 #[.bool true, .int .i64 s, .int .u32 lo, .int .u32 hi, .int .u32 b] w fun e w' => e = .returned (.tuple #[.int .u32 0, .int .u32 0, .bool false, .int .i64 0]) ∧ Grown w w' := by
  have hk := hS.ok
  obtain ⟨sp, hZ⟩ := hS.sz
  have mt := hS.pow.2.2.2.2.1
  have mp := hS.pow.2.2.2.2.2.1
  have w8 : ((W : Int) == 0) = false := by have := hS.pow.2.2.1; simp; omega
  have ww : IntKind.u64.wrap (W : Int) = (W : Int) := by have := hS.pow.2.2.2.1; rw [wrap_u64']; omega
  have mw : min W 64 = W := by have := hS.pow.2.2.2.1; omega
  have mw1 : min (W - 1) 64 = W - 1 := by have := hS.pow.2.2.2.1; omega
  have wh : IntKind.u64.wrap hi = hi := by rw [wrap_u64']; omega
  have wl : IntKind.u64.wrap lo = lo := by rw [wrap_u64']; omega
  have wb : IntKind.u64.wrap b = b := by rw [wrap_u64']; omega
  have l2 : lo < 18446744073709551616 := by omega
  have h2 : hi < 18446744073709551616 := by omega
  have b2 : b < 18446744073709551616 := by omega
  have hn := divN_bd hS lo hi
  have wn : IntKind.u64.wrap (hi % M * M + lo % M) = divN M lo hi := by rw [wrap_u64']; exact Int.emod_eq_of_lt hn.1 hn.2.2
  have c1 := mod_bd mp hi
  have c2 := mod_bd mp lo
  have c3 := mod_bd mp b
  have ws : IntKind.u64.wrap (hi % M * 2 ^ W) = hi % M * M := by
    rw [pw_cast, ← hS.pow.1, wrap_u64']
    have hm := mul_nn (A := 4294967295) (B := 4294967296) c1.1 (by omega) (Int.le_of_lt mp) mt
    omega
  have d0 := c3.1
  have d1 := c3.2
  have wm : IntKind.u64.wrap (2 ^ W) = M := by rw [pw_cast, ← hS.pow.1, wrap_u64']; omega
  have wm' : IntKind.u64.wrap (M - 1) = M - 1 := by rw [wrap_u64']; omega
  have hz' : (b % M == 0) = false := by simp; omega
  have hH : 0 < H ∧ M = 2 * H := ⟨by have := hS.pow.2.2.2.2.2.2; omega, hS.pow.2.2.2.2.2.2⟩
  have w2 : IntKind.i64.wrap (2 * (W : Int)) = 2 * (W : Int) := by have := hS.pow.2.2.2.1; rw [wrap_i64']; omega
  have v1 : IntKind.i64.wrap ((W : Int) - 1) = ((W - 1 : Nat) : Int) := by have := hS.pow.2.2.1; have := hS.pow.2.2.2.1; rw [wrap_i64']; omega
  have v2 : IntKind.u64.wrap ((W - 1 : Nat) : Int) = ((W - 1 : Nat) : Int) := by have := hS.pow.2.2.2.1; rw [wrap_u64']; omega
  have v3 : IntKind.u64.wrap (2 ^ (W - 1)) = H := by rw [pw_cast, ← hS.pow.2.1, wrap_u64']; omega
  have v4 : IntKind.u64.wrap (H - 1) = H - 1 := by rw [wrap_u64']; omega
  have n0 := (mN_bd hS lo hi).1
  have n1 := (mN_bd hS lo hi).2
  have y0 := (mD_bd hS b hz).1
  have y1 := (mD_bd hS b hz).2
  have y2 : 0 ≤ mD M H b := by omega
  have y3 : mD M H b ≠ 0 := by omega
  have y4 : (mD M H b == 0) = false := by simp; omega
  have q0 : 0 ≤ mN M H lo hi / mD M H b := Int.ediv_nonneg n0 y2
  have q1 : mN M H lo hi / mD M H b < 18446744073709551616 := Int.lt_of_le_of_lt (Int.ediv_le_self _ n0) n1
  have r0 := (mod_bd y0 (mN M H lo hi)).1
  have r1 := (mod_bd y0 (mN M H lo hi)).2
  have HX : Hid (∀ w : World, Calls Try.prog 25 #[.int .u64 (divN M lo hi), .int .i64 (2 * (W : Int))] w fun e w' => e = .returned (.tuple #[.int .u64 (mN M H lo hi), .bool false]) ∧ w' = w) := fun w => magnitude_is hS.sb2 _ _ hs w hn.1 hn.2.1
  have HY : Hid (∀ w : World, Calls Try.prog 25 #[.int .u64 (b % M), .int .i64 (W : Int)] w fun e w' => e = .returned (.tuple #[.int .u64 (mD M H b), .bool true]) ∧ w' = w) := fun w => magnitude_is hS.sb _ _ ht w c3.1 c3.2
  clear c1 c2 c3 hn hs ht hH
  go_enter Try.func13, Try.ntmps13
  go_wp2_with fail
  refine (Bits_ok hZ _).mono ?_; rintro e w1 ⟨rfl, hw⟩; replace hw := hw.symm; subst hw
  go_wp2_with fail
  refine (Cut_any hZ _ _ h0 h2).mono ?_; rintro e w1 ⟨rfl, hw⟩; replace hw := hw.symm; subst hw
  go_wp2_with fail
  refine (Cut_any hZ _ _ l0 l2).mono ?_; rintro e w1 ⟨rfl, hw⟩; replace hw := hw.symm; subst hw
  go_wp2_with fail
  refine (Cut_any hZ _ _ b0 b2).mono ?_; rintro e w1 ⟨rfl, hw⟩; replace hw := hw.symm; subst hw
  go_wp2_with fail
  refine (HX.out _).mono ?_; rintro e w1 ⟨rfl, hw⟩; replace hw := hw.symm; subst hw
  go_wp2_with fail
  refine (HY.out _).mono ?_; rintro e w1 ⟨rfl, hw⟩; replace hw := hw.symm; subst hw
  go_wp2
  exact bodyPost_ret (v := .tuple #[.int .u32 0, .int .u32 0, .bool false, .int .i64 0]) (by simp [results, Try.results13, go_sem]) rfl ⟨rfl, Grown.refl _⟩

set_option maxHeartbeats 1000000 in
theorem rDivS_yft {s H M : Int} {W : Nat} (hS : Sw s H M W) (lo hi b : Int) (w : World) (l0 : 0 ≤ lo) (l1 : lo < 4294967296) (h0 : 0 ≤ hi) (h1 : hi < 4294967296) (b0 : 0 ≤ b) (b1 : b < 4294967296) (hz : b % M ≠ 0) (hs : sgn (H * M) (divN M lo hi) = false) (ht : sgn H (b % M) = true) (gq : ¬ H < mN M H lo hi / mD M H b) :
    Calls Try.prog 13 #[.bool true, .int .i64 s, .int .u32 lo, .int .u32 hi, .int .u32 b] w fun e w' => e = .returned (.tuple #[.int .u32 (ng M (mN M H lo hi / mD M H b)), .int .u32 (mN M H lo hi % mD M H b), .bool true, .int .i64 0]) ∧ Grown w w' := by
  have hk := hS.ok
  obtain ⟨sp, hZ⟩ := hS.sz
  have mt := hS.pow.2.2.2.2.1
  have mp := hS.pow.2.2.2.2.2.1
  have w8 : ((W : Int) == 0) = false := by have := hS.pow.2.2.1; simp; omega
  have ww : IntKind.u64.wrap (W : Int) = (W : Int) := by have := hS.pow.2.2.2.1; rw [wrap_u64']; omega
  have mw : min W 64 = W := by have := hS.pow.2.2.2.1; omega
  have mw1 : min (W - 1) 64 = W - 1 := by have := hS.pow.2.2.2.1; omega
  have wh : IntKind.u64.wrap hi = hi := by rw [wrap_u64']; omega
  have wl : IntKind.u64.wrap lo = lo := by rw [wrap_u64']; omega
  have wb : IntKind.u64.wrap b = b := by rw [wrap_u64']; omega
  have l2 : lo < 18446744073709551616 := by omega
  have h2 : hi < 18446744073709551616 := by omega
  have b2 : b < 18446744073709551616 := by omega
  have hn := divN_bd hS lo hi
  have wn : IntKind.u64.wrap (hi % M * M + lo % M) = divN M lo hi := by rw [wrap_u64']; exact Int.emod_eq_of_lt hn.1 hn.2.2
  have c1 := mod_bd mp hi
  have c2 := mod_bd mp lo
  have c3 := mod_bd mp b
  have ws : IntKind.u64.wrap (hi % M * 2 ^ W) = hi % M * M := by
    rw [pw_cast, ← hS.pow.1, wrap_u64']
    have hm := mul_nn (A := 4294967295) (B := 4294967296) c1.1 (by omega) (Int.le_of_lt mp) mt
    omega
  have d0 := c3.1
  have d1 := c3.2
  have wm : IntKind.u64.wrap (2 ^ W) = M := by rw [pw_cast, ← hS.pow.1, wrap_u64']; omega
  have wm' : IntKind.u64.wrap (M - 1) = M - 1 := by rw [wrap_u64']; omega
  have hz' : (b % M == 0) = false := by simp; omega
  have hH : 0 < H ∧ M = 2 * H := ⟨by have := hS.pow.2.2.2.2.2.2; omega, hS.pow.2.2.2.2.2.2⟩
  have w2 : IntKind.i64.wrap (2 * (W : Int)) = 2 * (W : Int) := by have := hS.pow.2.2.2.1; rw [wrap_i64']; omega
  have v1 : IntKind.i64.wrap ((W : Int) - 1) = ((W - 1 : Nat) : Int) := by have := hS.pow.2.2.1; have := hS.pow.2.2.2.1; rw [wrap_i64']; omega
  have v2 : IntKind.u64.wrap ((W - 1 : Nat) : Int) = ((W - 1 : Nat) : Int) := by have := hS.pow.2.2.2.1; rw [wrap_u64']; omega
  have v3 : IntKind.u64.wrap (2 ^ (W - 1)) = H := by rw [pw_cast, ← hS.pow.2.1, wrap_u64']; omega
  have v4 : IntKind.u64.wrap (H - 1) = H - 1 := by rw [wrap_u64']; omega
  have n0 := (mN_bd hS lo hi).1
  have n1 := (mN_bd hS lo hi).2
  have y0 := (mD_bd hS b hz).1
  have y1 := (mD_bd hS b hz).2
  have y2 : 0 ≤ mD M H b := by omega
  have y3 : mD M H b ≠ 0 := by omega
  have y4 : (mD M H b == 0) = false := by simp; omega
  have q0 : 0 ≤ mN M H lo hi / mD M H b := Int.ediv_nonneg n0 y2
  have q1 : mN M H lo hi / mD M H b < 18446744073709551616 := Int.lt_of_le_of_lt (Int.ediv_le_self _ n0) n1
  have r0 := (mod_bd y0 (mN M H lo hi)).1
  have r1 := (mod_bd y0 (mN M H lo hi)).2
  have HX : Hid (∀ w : World, Calls Try.prog 25 #[.int .u64 (divN M lo hi), .int .i64 (2 * (W : Int))] w fun e w' => e = .returned (.tuple #[.int .u64 (mN M H lo hi), .bool false]) ∧ w' = w) := fun w => magnitude_is hS.sb2 _ _ hs w hn.1 hn.2.1
  have HY : Hid (∀ w : World, Calls Try.prog 25 #[.int .u64 (b % M), .int .i64 (W : Int)] w fun e w' => e = .returned (.tuple #[.int .u64 (mD M H b), .bool true]) ∧ w' = w) := fun w => magnitude_is hS.sb _ _ ht w c3.1 c3.2
  have HNQ : Hid (∀ w : World, Calls Try.prog 26 #[.int .u64 (mN M H lo hi / mD M H b), .int .i64 (W : Int)] w fun e w' => e = .returned (.int .u64 (ng M (mN M H lo hi / mD M H b))) ∧ w' = w) := fun w => negated_any hS.sb _ w q0 (by omega)
  have HNR : Hid (∀ w : World, Calls Try.prog 26 #[.int .u64 (mN M H lo hi % mD M H b), .int .i64 (W : Int)] w fun e w' => e = .returned (.int .u64 (ng M (mN M H lo hi % mD M H b))) ∧ w' = w) := fun w => negated_any hS.sb _ w r0 (by omega)
  have m1 : 0 ≤ ng M (mN M H lo hi / mD M H b) ∧ ng M (mN M H lo hi / mD M H b) < M := mod_bd mp _
  have m2 : 0 ≤ ng M (mN M H lo hi % mD M H b) ∧ ng M (mN M H lo hi % mD M H b) < M := mod_bd mp _
  have q2 : mN M H lo hi / mD M H b < 4294967296 := by omega
  have r2 : mN M H lo hi % mD M H b < 4294967296 := by omega
  have m3 : ng M (mN M H lo hi / mD M H b) < 4294967296 := by omega
  have m4 : ng M (mN M H lo hi % mD M H b) < 4294967296 := by omega
  have wq : IntKind.u32.wrap (mN M H lo hi / mD M H b) = mN M H lo hi / mD M H b := Int.emod_eq_of_lt q0 q2
  have wr : IntKind.u32.wrap (mN M H lo hi % mD M H b) = mN M H lo hi % mD M H b := Int.emod_eq_of_lt r0 r2
  have wq' : IntKind.u32.wrap (ng M (mN M H lo hi / mD M H b)) = ng M (mN M H lo hi / mD M H b) := Int.emod_eq_of_lt m1.1 m3
  have wr' : IntKind.u32.wrap (ng M (mN M H lo hi % mD M H b)) = ng M (mN M H lo hi % mD M H b) := Int.emod_eq_of_lt m2.1 m4
  clear c1 c2 c3 hn hs ht hH m1 m2 m3 m4
  go_enter Try.func13, Try.ntmps13
  go_wp2_with fail
  refine (Bits_ok hZ _).mono ?_; rintro e w1 ⟨rfl, hw⟩; replace hw := hw.symm; subst hw
  go_wp2_with fail
  refine (Cut_any hZ _ _ h0 h2).mono ?_; rintro e w1 ⟨rfl, hw⟩; replace hw := hw.symm; subst hw
  go_wp2_with fail
  refine (Cut_any hZ _ _ l0 l2).mono ?_; rintro e w1 ⟨rfl, hw⟩; replace hw := hw.symm; subst hw
  go_wp2_with fail
  refine (Cut_any hZ _ _ b0 b2).mono ?_; rintro e w1 ⟨rfl, hw⟩; replace hw := hw.symm; subst hw
  go_wp2_with fail
  refine (HX.out _).mono ?_; rintro e w1 ⟨rfl, hw⟩; replace hw := hw.symm; subst hw
  go_wp2_with fail
  refine (HY.out _).mono ?_; rintro e w1 ⟨rfl, hw⟩; replace hw := hw.symm; subst hw
  go_wp2_with fail
  refine (HNQ.out _).mono ?_; rintro e w1 ⟨rfl, hw⟩; replace hw := hw.symm; subst hw
  go_wp2
  exact bodyPost_ret (v := .tuple #[.int .u32 (ng M (mN M H lo hi / mD M H b)), .int .u32 (mN M H lo hi % mD M H b), .bool true, .int .i64 0]) (by simp [results, Try.results13, go_sem]) rfl
    ⟨rfl, Grown.refl _⟩

set_option maxHeartbeats 1000000 in
theorem rDivS_ntf {s H M : Int} {W : Nat} (hS : Sw s H M W) (lo hi b : Int) (w : World) (l0 : 0 ≤ lo) (l1 : lo < 4294967296) (h0 : 0 ≤ hi) (h1 : hi < 4294967296) (b0 : 0 ≤ b) (b1 : b < 4294967296) (hz : b % M ≠ 0) (hs : sgn (H * M) (divN M lo hi) = true) (ht : sgn H (b % M) = false) (gq : H < mN M H lo hi / mD M H b) :
    Calls Try.prog 13 #[.bool true, .int .i64 s, .int .u32 lo, .int .u32 hi, .int .u32 b] w fun e w' => e = .returned (.tuple #[.int .u32 0, .int .u32 0, .bool false, .int .i64 0]) ∧ Grown w w' := by
  have hk := hS.ok
  obtain ⟨sp, hZ⟩ := hS.sz
  have mt := hS.pow.2.2.2.2.1
  have mp := hS.pow.2.2.2.2.2.1
  have w8 : ((W : Int) == 0) = false := by have := hS.pow.2.2.1; simp; omega
  have ww : IntKind.u64.wrap (W : Int) = (W : Int) := by have := hS.pow.2.2.2.1; rw [wrap_u64']; omega
  have mw : min W 64 = W := by have := hS.pow.2.2.2.1; omega
  have mw1 : min (W - 1) 64 = W - 1 := by have := hS.pow.2.2.2.1; omega
  have wh : IntKind.u64.wrap hi = hi := by rw [wrap_u64']; omega
  have wl : IntKind.u64.wrap lo = lo := by rw [wrap_u64']; omega
  have wb : IntKind.u64.wrap b = b := by rw [wrap_u64']; omega
  have l2 : lo < 18446744073709551616 := by omega
  have h2 : hi < 18446744073709551616 := by omega
  have b2 : b < 18446744073709551616 := by omega
  have hn := divN_bd hS lo hi
  have wn : IntKind.u64.wrap (hi % M * M + lo % M) = divN M lo hi := by rw [wrap_u64']; exact Int.emod_eq_of_lt hn.1 hn.2.2
  have c1 := mod_bd mp hi
  have c2 := mod_bd mp lo
  have c3 := mod_bd mp b
  have ws : IntKind.u64.wrap (hi % M * 2 ^ W) = hi % M * M := by
    rw [pw_cast, ← hS.pow.1, wrap_u64']
    have hm := mul_nn (A := 4294967295) (B := 4294967296) c1.1 (by omega) (Int.le_of_lt mp) mt
    omega
  have d0 := c3.1
  have d1 := c3.2
  have wm : IntKind.u64.wrap (2 ^ W) = M := by rw [pw_cast, ← hS.pow.1, wrap_u64']; omega
  have wm' : IntKind.u64.wrap (M - 1) = M - 1 := by rw [wrap_u64']; omega
  have hz' : (b % M == 0) = false := by simp; omega
  have hH : 0 < H ∧ M = 2 * H := ⟨by have := hS.pow.2.2.2.2.2.2; omega, hS.pow.2.2.2.2.2.2⟩
  have w2 : IntKind.i64.wrap (2 * (W : Int)) = 2 * (W : Int) := by have := hS.pow.2.2.2.1; rw [wrap_i64']; omega
  have v1 : IntKind.i64.wrap ((W : Int) - 1) = ((W - 1 : Nat) : Int) := by have := hS.pow.2.2.1; have := hS.pow.2.2.2.1; rw [wrap_i64']; omega
  have v2 : IntKind.u64.wrap ((W - 1 : Nat) : Int) = ((W - 1 : Nat) : Int) := by have := hS.pow.2.2.2.1; rw [wrap_u64']; omega
  have v3 : IntKind.u64.wrap (2 ^ (W - 1)) = H := by rw [pw_cast, ← hS.pow.2.1, wrap_u64']; omega
  have v4 : IntKind.u64.wrap (H - 1) = H - 1 := by rw [wrap_u64']; omega
  have n0 := (mN_bd hS lo hi).1
  have n1 := (mN_bd hS lo hi).2
  have y0 := (mD_bd hS b hz).1
  have y1 := (mD_bd hS b hz).2
  have y2 : 0 ≤ mD M H b := by omega
  have y3 : mD M H b ≠ 0 := by omega
  have y4 : (mD M H b == 0) = false := by simp; omega
  have q0 : 0 ≤ mN M H lo hi / mD M H b := Int.ediv_nonneg n0 y2
  have q1 : mN M H lo hi / mD M H b < 18446744073709551616 := Int.lt_of_le_of_lt (Int.ediv_le_self _ n0) n1
  have r0 := (mod_bd y0 (mN M H lo hi)).1
  have r1 := (mod_bd y0 (mN M H lo hi)).2
  have HX : Hid (∀ w : World, Calls Try.prog 25 #[.int .u64 (divN M lo hi), .int .i64 (2 * (W : Int))] w fun e w' => e = .returned (.tuple #[.int .u64 (mN M H lo hi), .bool true]) ∧ w' = w) := fun w => magnitude_is hS.sb2 _ _ hs w hn.1 hn.2.1
  have HY : Hid (∀ w : World, Calls Try.prog 25 #[.int .u64 (b % M), .int .i64 (W : Int)] w fun e w' => e = .returned (.tuple #[.int .u64 (mD M H b), .bool false]) ∧ w' = w) := fun w => magnitude_is hS.sb _ _ ht w c3.1 c3.2
  clear c1 c2 c3 hn hs ht hH
  go_enter Try.func13, Try.ntmps13
  go_wp2_with fail
  refine (Bits_ok hZ _).mono ?_; rintro e w1 ⟨rfl, hw⟩; replace hw := hw.symm; subst hw
  go_wp2_with fail
  refine (Cut_any hZ _ _ h0 h2).mono ?_; rintro e w1 ⟨rfl, hw⟩; replace hw := hw.symm; subst hw
  go_wp2_with fail
  refine (Cut_any hZ _ _ l0 l2).mono ?_; rintro e w1 ⟨rfl, hw⟩; replace hw := hw.symm; subst hw
  go_wp2_with fail
  refine (Cut_any hZ _ _ b0 b2).mono ?_; rintro e w1 ⟨rfl, hw⟩; replace hw := hw.symm; subst hw
  go_wp2_with fail
  refine (HX.out _).mono ?_; rintro e w1 ⟨rfl, hw⟩; replace hw := hw.symm; subst hw
  go_wp2_with fail
  refine (HY.out _).mono ?_; rintro e w1 ⟨rfl, hw⟩; replace hw := hw.symm; subst hw
  go_wp2
  exact bodyPost_ret (v := .tuple #[.int .u32 0, .int .u32 0, .bool false, .int .i64 0]) (by simp [results, Try.results13, go_sem]) rfl ⟨rfl, Grown.refl _⟩

set_option maxHeartbeats 1000000 in
theorem rDivS_ytf {s H M : Int} {W : Nat} (hS : Sw s H M W) (lo hi b : Int) (w : World) (l0 : 0 ≤ lo) (l1 : lo < 4294967296) (h0 : 0 ≤ hi) (h1 : hi < 4294967296) (b0 : 0 ≤ b) (b1 : b < 4294967296) (hz : b % M ≠ 0) (hs : sgn (H * M) (divN M lo hi) = true) (ht : sgn H (b % M) = false) (gq : ¬ H < mN M H lo hi / mD M H b) :
    Calls Try.prog 13 #[.bool true, .int .i64 s, .int .u32 lo, .int .u32 hi, .int .u32 b] w fun e w' => e = .returned (.tuple #[.int .u32 (ng M (mN M H lo hi / mD M H b)), .int .u32 (ng M (mN M H lo hi % mD M H b)), .bool true, .int .i64 0]) ∧ Grown w w' := by
  have hk := hS.ok
  obtain ⟨sp, hZ⟩ := hS.sz
  have mt := hS.pow.2.2.2.2.1
  have mp := hS.pow.2.2.2.2.2.1
  have w8 : ((W : Int) == 0) = false := by have := hS.pow.2.2.1; simp; omega
  have ww : IntKind.u64.wrap (W : Int) = (W : Int) := by have := hS.pow.2.2.2.1; rw [wrap_u64']; omega
  have mw : min W 64 = W := by have := hS.pow.2.2.2.1; omega
  have mw1 : min (W - 1) 64 = W - 1 := by have := hS.pow.2.2.2.1; omega
  have wh : IntKind.u64.wrap hi = hi := by rw [wrap_u64']; omega
  have wl : IntKind.u64.wrap lo = lo := by rw [wrap_u64']; omega
  have wb : IntKind.u64.wrap b = b := by rw [wrap_u64']; omega
  have l2 : lo < 18446744073709551616 := by omega
  have h2 : hi < 18446744073709551616 := by omega
  have b2 : b < 18446744073709551616 := by omega
  have hn := divN_bd hS lo hi
  have wn : IntKind.u64.wrap (hi % M * M + lo % M) = divN M lo hi := by rw [wrap_u64']; exact Int.emod_eq_of_lt hn.1 hn.2.2
  have c1 := mod_bd mp hi
  have c2 := mod_bd mp lo
  have c3 := mod_bd mp b
  have ws : IntKind.u64.wrap (hi % M * 2 ^ W) = hi % M * M := by
    rw [pw_cast, ← hS.pow.1, wrap_u64']
    have hm := mul_nn (A := 4294967295) (B := 4294967296) c1.1 (by omega) (Int.le_of_lt mp) mt
    omega
  have d0 := c3.1
  have d1 := c3.2
  have wm : IntKind.u64.wrap (2 ^ W) = M := by rw [pw_cast, ← hS.pow.1, wrap_u64']; omega
  have wm' : IntKind.u64.wrap (M - 1) = M - 1 := by rw [wrap_u64']; omega
  have hz' : (b % M == 0) = false := by simp; omega
  have hH : 0 < H ∧ M = 2 * H := ⟨by have := hS.pow.2.2.2.2.2.2; omega, hS.pow.2.2.2.2.2.2⟩
  have w2 : IntKind.i64.wrap (2 * (W : Int)) = 2 * (W : Int) := by have := hS.pow.2.2.2.1; rw [wrap_i64']; omega
  have v1 : IntKind.i64.wrap ((W : Int) - 1) = ((W - 1 : Nat) : Int) := by have := hS.pow.2.2.1; have := hS.pow.2.2.2.1; rw [wrap_i64']; omega
  have v2 : IntKind.u64.wrap ((W - 1 : Nat) : Int) = ((W - 1 : Nat) : Int) := by have := hS.pow.2.2.2.1; rw [wrap_u64']; omega
  have v3 : IntKind.u64.wrap (2 ^ (W - 1)) = H := by rw [pw_cast, ← hS.pow.2.1, wrap_u64']; omega
  have v4 : IntKind.u64.wrap (H - 1) = H - 1 := by rw [wrap_u64']; omega
  have n0 := (mN_bd hS lo hi).1
  have n1 := (mN_bd hS lo hi).2
  have y0 := (mD_bd hS b hz).1
  have y1 := (mD_bd hS b hz).2
  have y2 : 0 ≤ mD M H b := by omega
  have y3 : mD M H b ≠ 0 := by omega
  have y4 : (mD M H b == 0) = false := by simp; omega
  have q0 : 0 ≤ mN M H lo hi / mD M H b := Int.ediv_nonneg n0 y2
  have q1 : mN M H lo hi / mD M H b < 18446744073709551616 := Int.lt_of_le_of_lt (Int.ediv_le_self _ n0) n1
  have r0 := (mod_bd y0 (mN M H lo hi)).1
  have r1 := (mod_bd y0 (mN M H lo hi)).2
  have HX : Hid (∀ w : World, Calls Try.prog 25 #[.int .u64 (divN M lo hi), .int .i64 (2 * (W : Int))] w fun e w' => e = .returned (.tuple #[.int .u64 (mN M H lo hi), .bool true]) ∧ w' = w) := fun w => magnitude_is hS.sb2 _ _ hs w hn.1 hn.2.1
  have HY : Hid (∀ w : World, Calls Try.prog 25 #[.int .u64 (b % M), .int .i64 (W : Int)] w fun e w' => e = .returned (.tuple #[.int .u64 (mD M H b), .bool false]) ∧ w' = w) := fun w => magnitude_is hS.sb _ _ ht w c3.1 c3.2
  have HNQ : Hid (∀ w : World, Calls Try.prog 26 #[.int .u64 (mN M H lo hi / mD M H b), .int .i64 (W : Int)] w fun e w' => e = .returned (.int .u64 (ng M (mN M H lo hi / mD M H b))) ∧ w' = w) := fun w => negated_any hS.sb _ w q0 (by omega)
  have HNR : Hid (∀ w : World, Calls Try.prog 26 #[.int .u64 (mN M H lo hi % mD M H b), .int .i64 (W : Int)] w fun e w' => e = .returned (.int .u64 (ng M (mN M H lo hi % mD M H b))) ∧ w' = w) := fun w => negated_any hS.sb _ w r0 (by omega)
  have m1 : 0 ≤ ng M (mN M H lo hi / mD M H b) ∧ ng M (mN M H lo hi / mD M H b) < M := mod_bd mp _
  have m2 : 0 ≤ ng M (mN M H lo hi % mD M H b) ∧ ng M (mN M H lo hi % mD M H b) < M := mod_bd mp _
  have q2 : mN M H lo hi / mD M H b < 4294967296 := by omega
  have r2 : mN M H lo hi % mD M H b < 4294967296 := by omega
  have m3 : ng M (mN M H lo hi / mD M H b) < 4294967296 := by omega
  have m4 : ng M (mN M H lo hi % mD M H b) < 4294967296 := by omega
  have wq : IntKind.u32.wrap (mN M H lo hi / mD M H b) = mN M H lo hi / mD M H b := Int.emod_eq_of_lt q0 q2
  have wr : IntKind.u32.wrap (mN M H lo hi % mD M H b) = mN M H lo hi % mD M H b := Int.emod_eq_of_lt r0 r2
  have wq' : IntKind.u32.wrap (ng M (mN M H lo hi / mD M H b)) = ng M (mN M H lo hi / mD M H b) := Int.emod_eq_of_lt m1.1 m3
  have wr' : IntKind.u32.wrap (ng M (mN M H lo hi % mD M H b)) = ng M (mN M H lo hi % mD M H b) := Int.emod_eq_of_lt m2.1 m4
  clear c1 c2 c3 hn hs ht hH m1 m2 m3 m4
  go_enter Try.func13, Try.ntmps13
  go_wp2_with fail
  refine (Bits_ok hZ _).mono ?_; rintro e w1 ⟨rfl, hw⟩; replace hw := hw.symm; subst hw
  go_wp2_with fail
  refine (Cut_any hZ _ _ h0 h2).mono ?_; rintro e w1 ⟨rfl, hw⟩; replace hw := hw.symm; subst hw
  go_wp2_with fail
  refine (Cut_any hZ _ _ l0 l2).mono ?_; rintro e w1 ⟨rfl, hw⟩; replace hw := hw.symm; subst hw
  go_wp2_with fail
  refine (Cut_any hZ _ _ b0 b2).mono ?_; rintro e w1 ⟨rfl, hw⟩; replace hw := hw.symm; subst hw
  go_wp2_with fail
  refine (HX.out _).mono ?_; rintro e w1 ⟨rfl, hw⟩; replace hw := hw.symm; subst hw
  go_wp2_with fail
  refine (HY.out _).mono ?_; rintro e w1 ⟨rfl, hw⟩; replace hw := hw.symm; subst hw
  go_wp2_with fail
  refine (HNQ.out _).mono ?_; rintro e w1 ⟨rfl, hw⟩; replace hw := hw.symm; subst hw
  go_wp2_with fail
  refine (HNR.out _).mono ?_; rintro e w1 ⟨rfl, hw⟩; replace hw := hw.symm; subst hw
  go_wp2
  exact bodyPost_ret (v := .tuple #[.int .u32 (ng M (mN M H lo hi / mD M H b)), .int .u32 (ng M (mN M H lo hi % mD M H b)), .bool true, .int .i64 0]) (by simp [results, Try.results13, go_sem]) rfl
    ⟨rfl, Grown.refl _⟩

set_option maxHeartbeats 1000000 in
theorem rDivS_ntt {s H M : Int} {W : Nat} (hS : Sw s H M W) (lo hi b : Int) (w : World) (l0 : 0 ≤ lo) (l1 : lo < 4294967296) (h0 : 0 ≤ hi) (h1 : hi < 4294967296) (b0 : 0 ≤ b) (b1 : b < 4294967296) (hz : b % M ≠ 0) (hs : sgn (H * M) (divN M lo hi) = true) (ht : sgn H (b % M) = true) (gq : H - 1 < mN M H lo hi / mD M H b) :
    Calls Try.prog 13 #[.bool true, .int .i64 s, .int .u32 lo, .int .u32 hi, .int .u32 b] w fun e w' => e = .returned (.tuple #[.int .u32 0, .int .u32 0, .bool false, .int .i64 0]) ∧ Grown w w' := by
  have hk := hS.ok
  obtain ⟨sp, hZ⟩ := hS.sz
  have mt := hS.pow.2.2.2.2.1
  have mp := hS.pow.2.2.2.2.2.1
  have w8 : ((W : Int) == 0) = false := by have := hS.pow.2.2.1; simp; omega
  have ww : IntKind.u64.wrap (W : Int) = (W : Int) := by have := hS.pow.2.2.2.1; rw [wrap_u64']; omega
  have mw : min W 64 = W := by have := hS.pow.2.2.2.1; omega
  have mw1 : min (W - 1) 64 = W - 1 := by have := hS.pow.2.2.2.1; omega
  have wh : IntKind.u64.wrap hi = hi := by rw [wrap_u64']; omega
  have wl : IntKind.u64.wrap lo = lo := by rw [wrap_u64']; omega
  have wb : IntKind.u64.wrap b = b := by rw [wrap_u64']; omega
  have l2 : lo < 18446744073709551616 := by omega
  have h2 : hi < 18446744073709551616 := by omega
  have b2 : b < 18446744073709551616 := by omega
  have hn := divN_bd hS lo hi
  have wn : IntKind.u64.wrap (hi % M * M + lo % M) = divN M lo hi := by rw [wrap_u64']; exact Int.emod_eq_of_lt hn.1 hn.2.2
  have c1 := mod_bd mp hi
  have c2 := mod_bd mp lo
  have c3 := mod_bd mp b
  have ws : IntKind.u64.wrap (hi % M * 2 ^ W) = hi % M * M := by
    rw [pw_cast, ← hS.pow.1, wrap_u64']
    have hm := mul_nn (A := 4294967295) (B := 4294967296) c1.1 (by omega) (Int.le_of_lt mp) mt
    omega
  have d0 := c3.1
  have d1 := c3.2
  have wm : IntKind.u64.wrap (2 ^ W) = M := by rw [pw_cast, ← hS.pow.1, wrap_u64']; omega
  have wm' : IntKind.u64.wrap (M - 1) = M - 1 := by rw [wrap_u64']; omega
  have hz' : (b % M == 0) = false := by simp; omega
  have hH : 0 < H ∧ M = 2 * H := ⟨by have := hS.pow.2.2.2.2.2.2; omega, hS.pow.2.2.2.2.2.2⟩
  have w2 : IntKind.i64.wrap (2 * (W : Int)) = 2 * (W : Int) := by have := hS.pow.2.2.2.1; rw [wrap_i64']; omega
  have v1 : IntKind.i64.wrap ((W : Int) - 1) = ((W - 1 : Nat) : Int) := by have := hS.pow.2.2.1; have := hS.pow.2.2.2.1; rw [wrap_i64']; omega
  have v2 : IntKind.u64.wrap ((W - 1 : Nat) : Int) = ((W - 1 : Nat) : Int) := by have := hS.pow.2.2.2.1; rw [wrap_u64']; omega
  have v3 : IntKind.u64.wrap (2 ^ (W - 1)) = H := by rw [pw_cast, ← hS.pow.2.1, wrap_u64']; omega
  have v4 : IntKind.u64.wrap (H - 1) = H - 1 := by rw [wrap_u64']; omega
  have n0 := (mN_bd hS lo hi).1
  have n1 := (mN_bd hS lo hi).2
  have y0 := (mD_bd hS b hz).1
  have y1 := (mD_bd hS b hz).2
  have y2 : 0 ≤ mD M H b := by omega
  have y3 : mD M H b ≠ 0 := by omega
  have y4 : (mD M H b == 0) = false := by simp; omega
  have q0 : 0 ≤ mN M H lo hi / mD M H b := Int.ediv_nonneg n0 y2
  have q1 : mN M H lo hi / mD M H b < 18446744073709551616 := Int.lt_of_le_of_lt (Int.ediv_le_self _ n0) n1
  have r0 := (mod_bd y0 (mN M H lo hi)).1
  have r1 := (mod_bd y0 (mN M H lo hi)).2
  have HX : Hid (∀ w : World, Calls Try.prog 25 #[.int .u64 (divN M lo hi), .int .i64 (2 * (W : Int))] w fun e w' => e = .returned (.tuple #[.int .u64 (mN M H lo hi), .bool true]) ∧ w' = w) := fun w => magnitude_is hS.sb2 _ _ hs w hn.1 hn.2.1
  have HY : Hid (∀ w : World, Calls Try.prog 25 #[.int .u64 (b % M), .int .i64 (W : Int)] w fun e w' => e = .returned (.tuple #[.int .u64 (mD M H b), .bool true]) ∧ w' = w) := fun w => magnitude_is hS.sb _ _ ht w c3.1 c3.2
  clear c1 c2 c3 hn hs ht hH
  go_enter Try.func13, Try.ntmps13
  go_wp2_with fail
  refine (Bits_ok hZ _).mono ?_; rintro e w1 ⟨rfl, hw⟩; replace hw := hw.symm; subst hw
  go_wp2_with fail
  refine (Cut_any hZ _ _ h0 h2).mono ?_; rintro e w1 ⟨rfl, hw⟩; replace hw := hw.symm; subst hw
  go_wp2_with fail
  refine (Cut_any hZ _ _ l0 l2).mono ?_; rintro e w1 ⟨rfl, hw⟩; replace hw := hw.symm; subst hw
  go_wp2_with fail
  refine (Cut_any hZ _ _ b0 b2).mono ?_; rintro e w1 ⟨rfl, hw⟩; replace hw := hw.symm; subst hw
  go_wp2_with fail
  refine (HX.out _).mono ?_; rintro e w1 ⟨rfl, hw⟩; replace hw := hw.symm; subst hw
  go_wp2_with fail
  refine (HY.out _).mono ?_; rintro e w1 ⟨rfl, hw⟩; replace hw := hw.symm; subst hw
  go_wp2
  exact bodyPost_ret (v := .tuple #[.int .u32 0, .int .u32 0, .bool false, .int .i64 0]) (by simp [results, Try.results13, go_sem]) rfl ⟨rfl, Grown.refl _⟩

set_option maxHeartbeats 1000000 in
theorem rDivS_ytt {s H M : Int} {W : Nat} (hS : Sw s H M W) (lo hi b : Int) (w : World) (l0 : 0 ≤ lo) (l1 : lo < 4294967296) (h0 : 0 ≤ hi) (h1 : hi < 4294967296) (b0 : 0 ≤ b) (b1 : b < 4294967296) (hz : b % M ≠ 0) (hs : sgn (H * M) (divN M lo hi) = true) (ht : sgn H (b % M) = true) (gq : ¬ H - 1 < mN M H lo hi / mD M H b) :
    Calls Try.prog 13 #[.bool true, .int .i64 s, .int .u32 lo, .int .u32 hi, .int .u32 b] w fun e w' => e = .returned (.tuple #[.int .u32 (mN M H lo hi / mD M H b), .int .u32 (ng M (mN M H lo hi % mD M H b)), .bool true, .int .i64 0]) ∧ Grown w w' := by
  have hk := hS.ok
  obtain ⟨sp, hZ⟩ := hS.sz
  have mt := hS.pow.2.2.2.2.1
  have mp := hS.pow.2.2.2.2.2.1
  have w8 : ((W : Int) == 0) = false := by have := hS.pow.2.2.1; simp; omega
  have ww : IntKind.u64.wrap (W : Int) = (W : Int) := by have := hS.pow.2.2.2.1; rw [wrap_u64']; omega
  have mw : min W 64 = W := by have := hS.pow.2.2.2.1; omega
  have mw1 : min (W - 1) 64 = W - 1 := by have := hS.pow.2.2.2.1; omega
  have wh : IntKind.u64.wrap hi = hi := by rw [wrap_u64']; omega
  have wl : IntKind.u64.wrap lo = lo := by rw [wrap_u64']; omega
  have wb : IntKind.u64.wrap b = b := by rw [wrap_u64']; omega
  have l2 : lo < 18446744073709551616 := by omega
  have h2 : hi < 18446744073709551616 := by omega
  have b2 : b < 18446744073709551616 := by omega
  have hn := divN_bd hS lo hi
  have wn : IntKind.u64.wrap (hi % M * M + lo % M) = divN M lo hi := by rw [wrap_u64']; exact Int.emod_eq_of_lt hn.1 hn.2.2
  have c1 := mod_bd mp hi
  have c2 := mod_bd mp lo
  have c3 := mod_bd mp b
  have ws : IntKind.u64.wrap (hi % M * 2 ^ W) = hi % M * M := by
    rw [pw_cast, ← hS.pow.1, wrap_u64']
    have hm := mul_nn (A := 4294967295) (B := 4294967296) c1.1 (by omega) (Int.le_of_lt mp) mt
    omega
  have d0 := c3.1
  have d1 := c3.2
  have wm : IntKind.u64.wrap (2 ^ W) = M := by rw [pw_cast, ← hS.pow.1, wrap_u64']; omega
  have wm' : IntKind.u64.wrap (M - 1) = M - 1 := by rw [wrap_u64']; omega
  have hz' : (b % M == 0) = false := by simp; omega
  have hH : 0 < H ∧ M = 2 * H := ⟨by have := hS.pow.2.2.2.2.2.2; omega, hS.pow.2.2.2.2.2.2⟩
  have w2 : IntKind.i64.wrap (2 * (W : Int)) = 2 * (W : Int) := by have := hS.pow.2.2.2.1; rw [wrap_i64']; omega
  have v1 : IntKind.i64.wrap ((W : Int) - 1) = ((W - 1 : Nat) : Int) := by have := hS.pow.2.2.1; have := hS.pow.2.2.2.1; rw [wrap_i64']; omega
  have v2 : IntKind.u64.wrap ((W - 1 : Nat) : Int) = ((W - 1 : Nat) : Int) := by have := hS.pow.2.2.2.1; rw [wrap_u64']; omega
  have v3 : IntKind.u64.wrap (2 ^ (W - 1)) = H := by rw [pw_cast, ← hS.pow.2.1, wrap_u64']; omega
  have v4 : IntKind.u64.wrap (H - 1) = H - 1 := by rw [wrap_u64']; omega
  have n0 := (mN_bd hS lo hi).1
  have n1 := (mN_bd hS lo hi).2
  have y0 := (mD_bd hS b hz).1
  have y1 := (mD_bd hS b hz).2
  have y2 : 0 ≤ mD M H b := by omega
  have y3 : mD M H b ≠ 0 := by omega
  have y4 : (mD M H b == 0) = false := by simp; omega
  have q0 : 0 ≤ mN M H lo hi / mD M H b := Int.ediv_nonneg n0 y2
  have q1 : mN M H lo hi / mD M H b < 18446744073709551616 := Int.lt_of_le_of_lt (Int.ediv_le_self _ n0) n1
  have r0 := (mod_bd y0 (mN M H lo hi)).1
  have r1 := (mod_bd y0 (mN M H lo hi)).2
  have HX : Hid (∀ w : World, Calls Try.prog 25 #[.int .u64 (divN M lo hi), .int .i64 (2 * (W : Int))] w fun e w' => e = .returned (.tuple #[.int .u64 (mN M H lo hi), .bool true]) ∧ w' = w) := fun w => magnitude_is hS.sb2 _ _ hs w hn.1 hn.2.1
  have HY : Hid (∀ w : World, Calls Try.prog 25 #[.int .u64 (b % M), .int .i64 (W : Int)] w fun e w' => e = .returned (.tuple #[.int .u64 (mD M H b), .bool true]) ∧ w' = w) := fun w => magnitude_is hS.sb _ _ ht w c3.1 c3.2
  have HNQ : Hid (∀ w : World, Calls Try.prog 26 #[.int .u64 (mN M H lo hi / mD M H b), .int .i64 (W : Int)] w fun e w' => e = .returned (.int .u64 (ng M (mN M H lo hi / mD M H b))) ∧ w' = w) := fun w => negated_any hS.sb _ w q0 (by omega)
  have HNR : Hid (∀ w : World, Calls Try.prog 26 #[.int .u64 (mN M H lo hi % mD M H b), .int .i64 (W : Int)] w fun e w' => e = .returned (.int .u64 (ng M (mN M H lo hi % mD M H b))) ∧ w' = w) := fun w => negated_any hS.sb _ w r0 (by omega)
  have m1 : 0 ≤ ng M (mN M H lo hi / mD M H b) ∧ ng M (mN M H lo hi / mD M H b) < M := mod_bd mp _
  have m2 : 0 ≤ ng M (mN M H lo hi % mD M H b) ∧ ng M (mN M H lo hi % mD M H b) < M := mod_bd mp _
  have q2 : mN M H lo hi / mD M H b < 4294967296 := by omega
  have r2 : mN M H lo hi % mD M H b < 4294967296 := by omega
  have m3 : ng M (mN M H lo hi / mD M H b) < 4294967296 := by omega
  have m4 : ng M (mN M H lo hi % mD M H b) < 4294967296 := by omega
  have wq : IntKind.u32.wrap (mN M H lo hi / mD M H b) = mN M H lo hi / mD M H b := Int.emod_eq_of_lt q0 q2
  have wr : IntKind.u32.wrap (mN M H lo hi % mD M H b) = mN M H lo hi % mD M H b := Int.emod_eq_of_lt r0 r2
  have wq' : IntKind.u32.wrap (ng M (mN M H lo hi / mD M H b)) = ng M (mN M H lo hi / mD M H b) := Int.emod_eq_of_lt m1.1 m3
  have wr' : IntKind.u32.wrap (ng M (mN M H lo hi % mD M H b)) = ng M (mN M H lo hi % mD M H b) := Int.emod_eq_of_lt m2.1 m4
  clear c1 c2 c3 hn hs ht hH m1 m2 m3 m4
  go_enter Try.func13, Try.ntmps13
  go_wp2_with fail
  refine (Bits_ok hZ _).mono ?_; rintro e w1 ⟨rfl, hw⟩; replace hw := hw.symm; subst hw
  go_wp2_with fail
  refine (Cut_any hZ _ _ h0 h2).mono ?_; rintro e w1 ⟨rfl, hw⟩; replace hw := hw.symm; subst hw
  go_wp2_with fail
  refine (Cut_any hZ _ _ l0 l2).mono ?_; rintro e w1 ⟨rfl, hw⟩; replace hw := hw.symm; subst hw
  go_wp2_with fail
  refine (Cut_any hZ _ _ b0 b2).mono ?_; rintro e w1 ⟨rfl, hw⟩; replace hw := hw.symm; subst hw
  go_wp2_with fail
  refine (HX.out _).mono ?_; rintro e w1 ⟨rfl, hw⟩; replace hw := hw.symm; subst hw
  go_wp2_with fail
  refine (HY.out _).mono ?_; rintro e w1 ⟨rfl, hw⟩; replace hw := hw.symm; subst hw
  go_wp2_with fail
  refine (HNR.out _).mono ?_; rintro e w1 ⟨rfl, hw⟩; replace hw := hw.symm; subst hw
  go_wp2
  exact bodyPost_ret (v := .tuple #[.int .u32 (mN M H lo hi / mD M H b), .int .u32 (ng M (mN M H lo hi % mD M H b)), .bool true, .int .i64 0]) (by simp [results, Try.results13, go_sem]) rfl
    ⟨rfl, Grown.refl _⟩
end Go.Proofs.Ytecfkgnffhiemaa
