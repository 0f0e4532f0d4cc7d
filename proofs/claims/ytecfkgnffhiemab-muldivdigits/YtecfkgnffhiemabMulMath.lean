/- Plain facts on products and quotients, with and without signs: no Go text in sight; each under the bounds that it names. -/
import Derived.Test.YtecfkgnffhiemabShiftMath
namespace Go.Proofs.Ytecfkgnffhiemab
open Go.RowKit
set_option linter.unusedVariables false

/-- what stands behind a value's sign -/
def mag (M H x : Int) : Int := if sgn H x = true then M - x else x

theorem sgv_mag (M H x : Int) : sgv M H x = if sgn H x = true then -(mag M H x) else mag M H x := by
  unfold mag sgv sgn
  by_cases h : x < H
  · rw [if_pos h, decide_eq_false (by omega)]; simp
  · rw [if_neg h, decide_eq_true (by omega), if_pos rfl, if_pos rfl]; omega

theorem mag_bd {M H x : Int} (hM : M = 2 * H) (x0 : 0 ≤ x) (x1 : x < M) : 0 ≤ mag M H x ∧ mag M H x ≤ H := by
  unfold mag sgn
  by_cases h : H ≤ x
  · rw [decide_eq_true h, if_pos rfl]; omega
  · rw [decide_eq_false h, if_neg (by decide)]; omega

theorem sgv_bds {M H x : Int} (hM : M = 2 * H) (x0 : 0 ≤ x) (x1 : x < M) : -H ≤ sgv M H x ∧ sgv M H x < H := by
  unfold sgv
  split <;> omega

theorem mul_bd {a b H : Int} (a0 : -H ≤ a) (a1 : a ≤ H) (b0 : -H ≤ b) (b1 : b ≤ H) : -(H * H) ≤ a * b ∧ a * b ≤ H * H := by
  have h0 : 0 ≤ H := by omega
  have h : (a * b).natAbs ≤ H.toNat * H.toNat := by
    rw [Int.natAbs_mul]
    exact Nat.mul_le_mul (by omega) (by omega)
  have e : (H.toNat : Int) = H := by omega
  have k : ((H.toNat * H.toNat : Nat) : Int) = H * H := by rw [Int.natCast_mul, e]
  omega

theorem mul_nn {a b A B : Int} (a0 : 0 ≤ a) (a1 : a ≤ A) (b0 : 0 ≤ b) (b1 : b ≤ B) : 0 ≤ a * b ∧ a * b ≤ A * B :=
  ⟨Int.mul_nonneg a0 b0, Int.le_trans (Int.mul_le_mul_of_nonneg_right a1 b0) (Int.mul_le_mul_of_nonneg_left b1 (by omega))⟩

/-- the product as a whole number -/
def mulP (sg : Bool) (M H a b : Int) : Int := if sg = true then sgv M H (a % M) * sgv M H (b % M) else a % M * (b % M)
def mulL (sg : Bool) (M H a b : Int) : Int := mulP sg M H a b % M
def mulU (sg : Bool) (M H a b : Int) : Int := mulP sg M H a b / M % M
/-- the upper half of a product that its lower half tells whole -/
def mulX (sg : Bool) (M H l : Int) : Int := if sg = true then (if sgn H l = true then M - 1 else 0) else 0
def mulC (sg : Bool) (M H a b : Int) : Bool := mulU sg M H a b != mulX sg M H (mulL sg M H a b)
def mulF (sg : Bool) (M H a b f : Int) : Int := byF H (mulL sg M H a b) (setF (setF (setF f 1 (mulC sg M H a b)) 2048 (mulC sg M H a b)) 16 false)

theorem mulP_bd {s H M : Int} {W : Nat} (hS : Sw s H M W) (sg : Bool) (a b : Int) : -4611686018427387904 ≤ mulP sg M H a b ∧ mulP sg M H a b ≤ 18446744065119617025 ∧ (sg = true → mulP sg M H a b ≤ 4611686018427387904) ∧ (sg = false → 0 ≤ mulP sg M H a b) := by
  have p := hS.pow
  have ha := mod_bd p.2.2.2.2.2.1 a
  have hb := mod_bd p.2.2.2.2.2.1 b
  have sa := sgv_bds p.2.2.2.2.2.2 ha.1 ha.2
  have sb := sgv_bds p.2.2.2.2.2.2 hb.1 hb.2
  cases sg
  · have h := mul_nn (A := 4294967295) (B := 4294967295) ha.1 (by omega) hb.1 (by omega)
    have e0 : mulP false M H a b = a % M * (b % M) := rfl
    rw [e0]
    have e : (4294967295 : Int) * 4294967295 = 18446744065119617025 := by decide
    exact ⟨by omega, by omega, fun k => (by cases k), fun _ => h.1⟩
  · have h := mul_bd (H := 2147483648) (a := sgv M H (a % M)) (b := sgv M H (b % M)) (by omega) (by omega) (by omega) (by omega)
    have e0 : mulP true M H a b = sgv M H (a % M) * sgv M H (b % M) := rfl
    rw [e0]
    have e : (2147483648 : Int) * 2147483648 = 4611686018427387904 := by decide
    exact ⟨by omega, by omega, fun _ => by omega, fun k => (by cases k)⟩

theorem mulL_bd {s H M : Int} {W : Nat} (hS : Sw s H M W) (sg : Bool) (a b : Int) : 0 ≤ mulL sg M H a b ∧ mulL sg M H a b < M := mod_bd hS.pow.2.2.2.2.2.1 _
theorem mulU_bd {s H M : Int} {W : Nat} (hS : Sw s H M W) (sg : Bool) (a b : Int) : 0 ≤ mulU sg M H a b ∧ mulU sg M H a b < M := mod_bd hS.pow.2.2.2.2.2.1 _

/-- halves of what the code makes of a product -/
theorem half_lo {s H M : Int} {W : Nat} (hS : Sw s H M W) (P : Int) : P % 18446744073709551616 % M = P % M := by
  rcases hS with ⟨rfl, rfl, rfl, rfl⟩ | ⟨rfl, rfl, rfl, rfl⟩ | ⟨rfl, rfl, rfl, rfl⟩ <;> omega

theorem half_hi {s H M : Int} {W : Nat} (hS : Sw s H M W) (P : Int) : P % 18446744073709551616 / M % M = P / M % M := by
  rcases hS with ⟨rfl, rfl, rfl, rfl⟩ | ⟨rfl, rfl, rfl, rfl⟩ | ⟨rfl, rfl, rfl, rfl⟩ <;> omega

theorem above_hi {s H M : Int} {W : Nat} (hS : Sw s H M W) (l : Int) (l0 : 0 ≤ l) (l1 : l < M) : sgv M H l % 18446744073709551616 / M % M = if sgn H l = true then M - 1 else 0 := by
  unfold sgv sgn
  by_cases h : l < H
  · rw [if_pos h, decide_eq_false (by omega), if_neg (by decide)]
    rcases hS with ⟨rfl, rfl, rfl, rfl⟩ | ⟨rfl, rfl, rfl, rfl⟩ | ⟨rfl, rfl, rfl, rfl⟩ <;> omega
  · rw [if_neg h, decide_eq_true (by omega), if_pos rfl]
    rcases hS with ⟨rfl, rfl, rfl, rfl⟩ | ⟨rfl, rfl, rfl, rfl⟩ | ⟨rfl, rfl, rfl, rfl⟩ <;> omega

/-- a value of 64 bits looked at as one of a size, signed -/
theorem sgv_i8 (n : Int) : (n + 128) % 256 - 128 = sgv 256 128 (n % 256) := by
  unfold sgv; split <;> omega
theorem sgv_i16 (n : Int) : (n + 32768) % 65536 - 32768 = sgv 65536 32768 (n % 65536) := by
  unfold sgv; split <;> omega
theorem sgv_i32 (n : Int) : (n + 2147483648) % 4294967296 - 2147483648 = sgv 4294967296 2147483648 (n % 4294967296) := by
  unfold sgv; split <;> omega
theorem sgv_i64 (n : Int) : (n + 9223372036854775808) % 18446744073709551616 - 9223372036854775808 = sgv 18446744073709551616 9223372036854775808 (n % 18446744073709551616) := by
  unfold sgv; split <;> omega

/-- what is divided: hi and lo as one value of two sizes -/
def divN (M lo hi : Int) : Int := hi % M * M + lo % M
def divA (M H lo hi : Int) : Int := sgv (M * M) (H * M) (divN M lo hi)
def divO (sg : Bool) (M H lo hi by' : Int) : Bool :=
  if by' % M = 0 then false
  else if sg = true then decide (-H ≤ (divA M H lo hi).tdiv (sgv M H (by' % M))) && decide ((divA M H lo hi).tdiv (sgv M H (by' % M)) < H)
  else decide (divN M lo hi / (by' % M) < M)
def divQ (sg : Bool) (M H lo hi by' : Int) : Int := if sg = true then (divA M H lo hi).tdiv (sgv M H (by' % M)) % M else divN M lo hi / (by' % M)
def divR (sg : Bool) (M H lo hi by' : Int) : Int := if sg = true then (divA M H lo hi).tmod (sgv M H (by' % M)) % M else divN M lo hi % (by' % M)

theorem divN_bd {s H M : Int} {W : Nat} (hS : Sw s H M W) (lo hi : Int) : 0 ≤ divN M lo hi ∧ divN M lo hi < M * M ∧ divN M lo hi < 18446744073709551616 := by
  have p := hS.pow
  have h1 := mod_bd p.2.2.2.2.2.1 lo
  have h2 := mod_bd p.2.2.2.2.2.1 hi
  unfold divN
  rcases hS with ⟨rfl, rfl, rfl, rfl⟩ | ⟨rfl, rfl, rfl, rfl⟩ | ⟨rfl, rfl, rfl, rfl⟩ <;> omega

theorem divA_bd {s H M : Int} {W : Nat} (hS : Sw s H M W) (lo hi : Int) : -9223372036854775808 ≤ divA M H lo hi ∧ divA M H lo hi < 9223372036854775808 := by
  have b := divN_bd hS lo hi
  unfold divA
  rcases hS with ⟨rfl, rfl, rfl, rfl⟩ | ⟨rfl, rfl, rfl, rfl⟩ | ⟨rfl, rfl, rfl, rfl⟩
  · have h := sgv_bds (M := 256 * 256) (H := 128 * 256) (by decide) b.1 b.2.1
    omega
  · have h := sgv_bds (M := 65536 * 65536) (H := 32768 * 65536) (by decide) b.1 b.2.1
    omega
  · have h := sgv_bds (M := 4294967296 * 4294967296) (H := 2147483648 * 4294967296) (by decide) b.1 b.2.1
    omega

/-- quotients by magnitudes -/
theorem tdiv_mag {x y : Int} (x0 : 0 ≤ x) (y0 : 0 ≤ y) (s t : Bool) :
    (if s = true then -x else x).tdiv (if t = true then -y else y) = (if s = t then x / y else -(x / y)) ∧ (if s = true then -x else x).tmod (if t = true then -y else y) = (if s = true then -(x % y) else x % y) := by
  have e1 : x.tdiv y = x / y := Int.tdiv_eq_ediv_of_nonneg x0
  have e2 : x.tmod y = x % y := Int.tmod_eq_emod_of_nonneg x0
  cases s <;> cases t <;> simp [Int.neg_tdiv, Int.tdiv_neg, Int.neg_tmod, Int.tmod_neg, e1, e2]

theorem sgv_zero {s H M : Int} {W : Nat} (hS : Sw s H M W) {d : Int} (d0 : 0 ≤ d) (d1 : d < M) (h : d ≠ 0) : sgv M H d ≠ 0 := by
  unfold sgv
  split <;> omega
end Go.Proofs.Ytecfkgnffhiemab
