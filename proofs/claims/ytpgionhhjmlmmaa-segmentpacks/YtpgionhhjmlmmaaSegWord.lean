/- Plain facts on the two words of a descriptor: no Go in sight. -/
import Derived.Test.YtpgionhhjmlmmaaSegMath
namespace Go.Proofs.Ytpgionhhjmlmmaa
open Go.RowKit
set_option linter.unusedVariables false

theorem nat_hi (n m k : Nat) : n &&& (2 ^ k * m) = 2 ^ k * (n / 2 ^ k &&& m) := by
  have h1 : (n &&& (2 ^ k * m)) / 2 ^ k = n / 2 ^ k &&& m := by
    rw [Nat.and_div_two_pow, Nat.mul_div_cancel_left _ (Nat.two_pow_pos k)]
  have h2 : (n &&& (2 ^ k * m)) % 2 ^ k = 0 := by
    rw [Nat.and_mod_two_pow, Nat.mul_mod_right]
    simp
  have := Nat.div_add_mod (n &&& (2 ^ k * m)) (2 ^ k)
  rw [h1, h2] at this
  omega

theorem nat_or_at (a b k : Nat) (h : a < 2 ^ k) : a ||| (2 ^ k * b) = a + 2 ^ k * b := by
  have := Nat.two_pow_add_eq_or_of_lt h b
  rw [Nat.or_comm, ← this]
  omega

theorem and_low {x : Int} (x0 : 0 ≤ x) (x1 : x < 4294967296) (m : Int) (k : Nat) (hm : m = ((2 ^ k - 1 : Nat) : Int)) (hm1 : m < 4294967296) : bits .and .u32 x m = x % ((2 ^ k : Nat) : Int) := by
  subst hm
  rw [u32_and x _ x0 x1 (by omega) hm1]
  have := Nat.and_two_pow_sub_one_eq_mod x.toNat k
  rw [Int.toNat_natCast, this]
  obtain ⟨n, rfl⟩ := Int.eq_ofNat_of_zero_le x0
  rfl

theorem and_hi {x : Int} (x0 : 0 ≤ x) (x1 : x < 4294967296) (c : Int) (k j : Nat) (hc : c = ((2 ^ k * (2 ^ j - 1) : Nat) : Int)) (hc1 : c < 4294967296) : bits .and .u32 x c = x / ((2 ^ k : Nat) : Int) % ((2 ^ j : Nat) : Int) * ((2 ^ k : Nat) : Int) := by
  subst hc
  rw [u32_and x _ x0 x1 (by omega) hc1, Int.toNat_natCast, nat_hi, Nat.and_two_pow_sub_one_eq_mod]
  obtain ⟨n, rfl⟩ := Int.eq_ofNat_of_zero_le x0
  rw [Int.toNat_natCast, Nat.mul_comm]
  rfl

theorem or_at {a b : Int} (a0 : 0 ≤ a) (b0 : 0 ≤ b) (P : Int) (k : Nat) (hP : P = ((2 ^ k : Nat) : Int)) (ha : a < P) (h1 : a + b * P < 4294967296) : bits .or .u32 a (b * P) = a + b * P := by
  obtain ⟨m, rfl⟩ := Int.eq_ofNat_of_zero_le a0
  obtain ⟨n, rfl⟩ := Int.eq_ofNat_of_zero_le b0
  subst hP
  have e : (n : Int) * ((2 ^ k : Nat) : Int) = ((2 ^ k * n : Nat) : Int) := by rw [Nat.mul_comm]; rfl
  rw [e] at h1 ⊢
  rw [u32_or _ _ (by omega) (by omega) (by omega) (by omega), Int.toNat_natCast, Int.toNat_natCast, nat_or_at m n k (by omega)]
  omega

def bitP (x P : Int) : Bool := decide (x / P % 2 = 1)
def baseB (lo hi : Int) : Int := lo / 65536 + hi % 256 * 65536 + hi / 16777216 * 16777216
def limS (lo hi : Int) : Int := lo % 65536 + hi / 65536 % 16 * 65536
def limB (lo hi : Int) : Int := if bitP hi 8388608 then limS lo hi * 4096 + 4095 else limS lo hi
def typB (hi : Int) : Int := hi / 256 % 16
def dplB (hi : Int) : Int := hi / 8192 % 4

theorem limS_bd (lo hi : Int) : 0 ≤ limS lo hi ∧ limS lo hi < 1048576 := by unfold limS; omega
theorem baseB_bd {lo hi : Int} (l0 : 0 ≤ lo) (l1 : lo < 4294967296) (h0 : 0 ≤ hi) (h1 : hi < 4294967296) : 0 ≤ baseB lo hi ∧ baseB lo hi < 4294967296 := by unfold baseB; omega

theorem word_page (lo hi : Int) : bits .or .u32 (limS lo hi * 4096) 4095 = limS lo hi * 4096 + 4095 := by
  have := limS_bd lo hi
  have h := or_at (a := 4095) (b := limS lo hi) (by omega) this.1 4096 12 (by decide) (by decide) (by omega)
  have c : bits .or .u32 (limS lo hi * 4096) 4095 = bits .or .u32 4095 (limS lo hi * 4096) := by
    rw [u32_or _ _ (by omega) (by omega) (by decide) (by decide), u32_or _ _ (by decide) (by decide) (by omega) (by omega), Nat.or_comm]
  rw [c, h]
  omega

section
variable {lo hi : Int} (l0 : 0 ≤ lo) (l1 : lo < 4294967296) (h0 : 0 ≤ hi) (h1 : hi < 4294967296)
include l0 l1 h0 h1

theorem word_lim : bits .or .u32 (bits .and .u32 lo 65535) (bits .and .u32 hi 983040) = limS lo hi := by
  have e1 : bits .and .u32 lo 65535 = lo % 65536 := and_low l0 l1 65535 16 (by decide) (by decide)
  have e2 : bits .and .u32 hi 983040 = hi / 65536 % 16 * 65536 := and_hi h0 h1 983040 16 4 (by decide) (by decide)
  rw [e1, e2]
  exact or_at (by omega) (by omega) 65536 16 (by decide) (by omega) (by omega)

theorem word_base : bits .or .u32 (bits .or .u32 (lo / 65536) (bits .and .u32 hi 255 * 65536 % 4294967296)) (bits .and .u32 hi 4278190080) = baseB lo hi := by
  have e1 : bits .and .u32 hi 255 = hi % 256 := and_low h0 h1 255 8 (by decide) (by decide)
  have e2 : bits .and .u32 hi 4278190080 = hi / 16777216 % 256 * 16777216 := and_hi h0 h1 4278190080 24 8 (by decide) (by decide)
  have e3 : hi / 16777216 % 256 = hi / 16777216 := by omega
  rw [e1, e2, e3]
  have e4 : hi % 256 * 65536 % 4294967296 = hi % 256 * 65536 := by omega
  rw [e4, or_at (a := lo / 65536) (b := hi % 256) (by omega) (by omega) 65536 16 (by decide) (by omega) (by omega), or_at (by omega) (by omega) 16777216 24 (by decide) (by omega) (by omega)]
  rfl

end

theorem word_typ {hi : Int} (h0 : 0 ≤ hi) (h1 : hi < 4294967296) : bits .and .u32 (hi / 256) 15 = typB hi := and_low (by omega) (by omega) 15 4 (by decide) (by decide)
theorem word_dpl {hi : Int} (h0 : 0 ≤ hi) (h1 : hi < 4294967296) : bits .and .u32 (hi / 8192) 3 = dplB hi := and_low (by omega) (by omega) 3 2 (by decide) (by decide)

theorem bit_and {x : Int} (x0 : 0 ≤ x) (x1 : x < 4294967296) (P : Int) (p0 : 0 < P) : (bits .and .u32 (x / P) 1 == 1) = bitP x P := by
  have b0 : 0 ≤ x / P := Int.ediv_nonneg x0 (by omega)
  have b1 : x / P ≤ x := Int.ediv_le_self _ x0
  rw [and_low b0 (by omega) 1 1 (by decide) (by decide)]
  unfold bitP
  rw [show ((2 ^ 1 : Nat) : Int) = 2 from rfl]
  by_cases h : x / P % 2 = 1 <;> simp [h]

theorem typB_bd (hi : Int) : 0 ≤ typB hi ∧ typB hi < 16 := by unfold typB; omega
theorem dplB_bd (hi : Int) : 0 ≤ dplB hi ∧ dplB hi < 4 := by unfold dplB; omega
theorem limB_bd (lo hi : Int) : 0 ≤ limB lo hi ∧ limB lo hi < 4294967296 := by
  have := limS_bd lo hi
  unfold limB
  split <;> omega
end Go.Proofs.Ytpgionhhjmlmmaa
