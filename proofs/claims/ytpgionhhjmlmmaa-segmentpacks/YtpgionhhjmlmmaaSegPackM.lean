/- What Pack's words are: each part is where Parse looks for it. -/
import Derived.Test.YtpgionhhjmlmmaaSegPack
namespace Go.Proofs.Ytpgionhhjmlmmaa
open Go.RowKit
set_option linter.unusedVariables false

/-- Nine parts of a word, each in its place. -/
def sumW (a0 a1 a2 a3 a4 a5 a6 a7 a8 : Int) : Int := a0 + a1 * 256 + a2 * 4096 + a3 * 8192 + a4 * 32768 + a5 * 65536 + a6 * 4194304 + a7 * 8388608 + a8 * 16777216

theorem nat_parts (a0 a1 a2 a3 a4 a5 a6 a7 a8 : Nat) (b0 : a0 < 256) (b1 : a1 < 16) (b2 : a2 < 2) (b3 : a3 < 4) (b4 : a4 < 2) (b5 : a5 < 16) (b6 : a6 < 2) (b7 : a7 < 2) :
    (((a0 ||| 2 ^ 24 * a8) ||| 2 ^ 16 * a5) ||| (2 ^ 8 * a1 ||| 2 ^ 13 * a3)) ||| (((2 ^ 12 * a2 ||| 2 ^ 15 * a4) ||| 2 ^ 22 * a6) ||| 2 ^ 23 * a7) = a0 + 2 ^ 8 * a1 + 2 ^ 12 * a2 + 2 ^ 13 * a3 + 2 ^ 15 * a4 + 2 ^ 16 * a5 + 2 ^ 22 * a6 + 2 ^ 23 * a7 + 2 ^ 24 * a8 := by
  have e : (((a0 ||| 2 ^ 24 * a8) ||| 2 ^ 16 * a5) ||| (2 ^ 8 * a1 ||| 2 ^ 13 * a3)) ||| (((2 ^ 12 * a2 ||| 2 ^ 15 * a4) ||| 2 ^ 22 * a6) ||| 2 ^ 23 * a7) = (((((((a0 ||| 2 ^ 8 * a1) ||| 2 ^ 12 * a2) ||| 2 ^ 13 * a3) ||| 2 ^ 15 * a4) ||| 2 ^ 16 * a5) ||| 2 ^ 22 * a6) ||| 2 ^ 23 * a7) ||| 2 ^ 24 * a8 := by ac_rfl
  rw [e, nat_or_at a0 a1 8 (by omega), nat_or_at _ a2 12 (by omega), nat_or_at _ a3 13 (by omega), nat_or_at _ a4 15 (by omega), nat_or_at _ a5 16 (by omega), nat_or_at _ a6 22 (by omega), nat_or_at _ a7 23 (by omega), nat_or_at _ a8 24 (by omega)]

theorem or_nat {a b : Nat} (ha : a < 4294967296) (hb : b < 4294967296) : bits .or .u32 (a : Int) (b : Int) = ((a ||| b : Nat) : Int) := by
  rw [u32_or _ _ (by omega) (by omega) (by omega) (by omega)]
  rfl

def bN (q : Bool) : Nat := if q then 1 else 0
theorem bN_lt (q : Bool) : bN q < 2 := by cases q <;> decide
theorem flg_bN (q : Bool) (k : Nat) : flg q ((2 ^ k : Nat) : Int) = ((2 ^ k * bN q : Nat) : Int) := by cases q <;> simp [flg, bN]

theorem hi_is {b m t d : Int} (s p g q : Bool) (b0 : 0 ≤ b) (b1 : b < 4294967296) (m0 : 0 ≤ m) (m1 : m < 1048576) (t0 : 0 ≤ t) (t1 : t < 16) (d0 : 0 ≤ d) (d1 : d < 4) :
    h3P (h2P (h1P b m) t d) s p g q = sumW (b / 65536 % 256) t (bN s) d (bN p) (m / 65536 % 16) (bN g) (bN q) (b / 16777216) := by
  obtain ⟨b, rfl⟩ := Int.eq_ofNat_of_zero_le b0
  obtain ⟨m, rfl⟩ := Int.eq_ofNat_of_zero_le m0
  obtain ⟨t, rfl⟩ := Int.eq_ofNat_of_zero_le t0
  obtain ⟨d, rfl⟩ := Int.eq_ofNat_of_zero_le d0
  change h3P (h2P (h1P (b : Int) (m : Int)) (t : Int) (d : Int)) s p g q = sumW ((b / 65536 % 256 : Nat) : Int) (t : Int) (bN s) (d : Int) (bN p) ((m / 65536 % 16 : Nat) : Int) (bN g) (bN q) ((b / 16777216 : Nat) : Int)
  have s1 := bN_lt s
  have s2 := bN_lt p
  have s3 := bN_lt g
  have s4 := bN_lt q
  have k1 : bits .and .u32 ((b : Int) / 65536) 255 = ((b / 65536 % 256 : Nat) : Int) := and_low (x := (b : Int) / 65536) (by omega) (by omega) 255 8 (by decide) (by decide)
  have k2 : bits .and .u32 (b : Int) 4278190080 = ((2 ^ 24 * (b / 16777216) : Nat) : Int) := by
    rw [and_hi (x := (b : Int)) (by omega) b1 4278190080 24 8 (by decide) (by decide)]
    omega
  have k3 : bits .and .u32 (m : Int) 983040 = ((2 ^ 16 * (m / 65536 % 16) : Nat) : Int) := by
    rw [and_hi (x := (m : Int)) (by omega) (by omega) 983040 16 4 (by decide) (by decide)]
    omega
  have k4 : (t : Int) * 256 = ((2 ^ 8 * t : Nat) : Int) := by omega
  have k5 : (d : Int) * 8192 = ((2 ^ 13 * d : Nat) : Int) := by omega
  have k6 : flg s 4096 = ((2 ^ 12 * bN s : Nat) : Int) := flg_bN s 12
  have k7 : flg p 32768 = ((2 ^ 15 * bN p : Nat) : Int) := flg_bN p 15
  have k8 : flg g 4194304 = ((2 ^ 22 * bN g : Nat) : Int) := flg_bN g 22
  have k9 : flg q 8388608 = ((2 ^ 23 * bN q : Nat) : Int) := flg_bN q 23
  unfold h3P h2P h1P
  rw [k1, k2, k3, k4, k5, k6, k7, k8, k9]
  have hb : b / 16777216 < 256 := by omega
  have hx0 : b / 65536 % 256 < 256 := by omega
  have hx5 : m / 65536 % 16 < 16 := by omega
  have ht : t < 16 := by omega
  have hd : d < 4 := by omega
  have hn := nat_parts (b / 65536 % 256) t (bN s) d (bN p) (m / 65536 % 16) (bN g) (bN q) (b / 16777216) hx0 ht s1 hd s2 hx5 s3 s4
  generalize b / 65536 % 256 = x0 at *
  generalize m / 65536 % 16 = x5 at *
  generalize b / 16777216 = x8 at *
  generalize bN s = x2 at *
  generalize bN p = x4 at *
  generalize bN g = x6 at *
  generalize bN q = x7 at *
  have lt : ∀ {u v : Nat}, u < 4294967296 → v < 4294967296 → u ||| v < 4294967296 := fun h g => lt32_or h g
  rw [or_nat (by omega) (by omega), or_nat (lt (by omega) (by omega)) (by omega), or_nat (by omega) (by omega), or_nat (lt (lt (by omega) (by omega)) (by omega)) (lt (by omega) (by omega)),
    or_nat (by omega) (by omega), or_nat (lt (by omega) (by omega)) (by omega), or_nat (lt (lt (by omega) (by omega)) (by omega)) (by omega),
    or_nat (lt (lt (lt (by omega) (by omega)) (by omega)) (lt (by omega) (by omega))) (lt (lt (lt (by omega) (by omega)) (by omega)) (by omega)), hn]
  unfold sumW
  omega

section
variable {a0 a1 a2 a3 a4 a5 a6 a7 a8 : Int} (b0 : 0 ≤ a0 ∧ a0 < 256) (b1 : 0 ≤ a1 ∧ a1 < 16) (b2 : 0 ≤ a2 ∧ a2 < 2) (b3 : 0 ≤ a3 ∧ a3 < 4) (b4 : 0 ≤ a4 ∧ a4 < 2) (b5 : 0 ≤ a5 ∧ a5 < 16) (b6 : 0 ≤ a6 ∧ a6 < 2) (b7 : 0 ≤ a7 ∧ a7 < 2) (b8 : 0 ≤ a8 ∧ a8 < 256)
include b0 b1 b2 b3 b4 b5 b6 b7 b8
theorem sumW_parts : sumW a0 a1 a2 a3 a4 a5 a6 a7 a8 % 256 = a0 ∧ sumW a0 a1 a2 a3 a4 a5 a6 a7 a8 / 256 % 16 = a1 ∧ sumW a0 a1 a2 a3 a4 a5 a6 a7 a8 / 4096 % 2 = a2 ∧ sumW a0 a1 a2 a3 a4 a5 a6 a7 a8 / 8192 % 4 = a3 ∧ sumW a0 a1 a2 a3 a4 a5 a6 a7 a8 / 32768 % 2 = a4 ∧
    sumW a0 a1 a2 a3 a4 a5 a6 a7 a8 / 65536 % 16 = a5 ∧ sumW a0 a1 a2 a3 a4 a5 a6 a7 a8 / 2097152 % 2 = 0 ∧ sumW a0 a1 a2 a3 a4 a5 a6 a7 a8 / 4194304 % 2 = a6 ∧ sumW a0 a1 a2 a3 a4 a5 a6 a7 a8 / 8388608 % 2 = a7 ∧ sumW a0 a1 a2 a3 a4 a5 a6 a7 a8 / 16777216 = a8 ∧ 0 ≤ sumW a0 a1 a2 a3 a4 a5 a6 a7 a8 ∧ sumW a0 a1 a2 a3 a4 a5 a6 a7 a8 < 4294967296 := by
  unfold sumW
  refine ⟨?_, ?_, ?_, ?_, ?_, ?_, ?_, ?_, ?_, ?_, ?_, ?_⟩ <;> omega
end

theorem lo_is {b m : Int} (b0 : 0 ≤ b) (b1 : b < 4294967296) (m0 : 0 ≤ m) (m1 : m < 1048576) : loP b m = m % 65536 + b % 65536 * 65536 := by
  unfold loP
  have e1 : bits .and .u32 m 65535 = m % 65536 := and_low m0 (by omega) 65535 16 (by decide) (by decide)
  have e2 : b * 65536 % 4294967296 = b % 65536 * 65536 := by omega
  rw [e1, e2]
  have h := or_at (a := m % 65536) (b := b % 65536) (by omega) (by omega) 65536 16 (by decide) (by omega) (by omega)
  rw [← h, u32_or _ _ (by omega) (by omega) (by omega) (by omega), u32_or _ _ (by omega) (by omega) (by omega) (by omega), Nat.or_comm]

theorem bN_eq (q : Bool) : (decide (((bN q : Nat) : Int) = 1)) = q := by cases q <;> rfl

/-- What is packed is read as it was; bits 21 and 23. -/
theorem words_back {b l t d : Int} (s p g : Bool) (b0 : 0 ≤ b) (b1 : b < 4294967296) (l0 : 0 ≤ l) (l1 : l < 4294967296) (h : okP l t d = true) {lo hi : Int} (hlo : lo = loP b (lmP l)) (hhi : hi = h3P (h2P (h1P b (lmP l)) t d) (!s) p g (pgs l)) :
    (0 ≤ lo ∧ lo < 4294967296 ∧ 0 ≤ hi ∧ hi < 4294967296) ∧ baseB lo hi = b ∧ limB lo hi = l ∧ typB hi = t ∧ (!bitP hi 4096) = s ∧ dplB hi = d ∧ bitP hi 32768 = p ∧ bitP hi 4194304 = g ∧ hi / 2097152 % 2 = 0 ∧ bitP hi 8388608 = pgs l := by
  simp only [okP, Bool.and_eq_true, Bool.or_eq_true, decide_eq_true_eq] at h
  obtain ⟨⟨⟨⟨h1, h2⟩, h3⟩, h4⟩, h5⟩ := h
  have hm : 0 ≤ lmP l ∧ lmP l < 1048576 := by unfold lmP; split <;> omega
  have s1 := bN_lt (!s)
  have s2 := bN_lt p
  have s3 := bN_lt g
  have s4 := bN_lt (pgs l)
  rw [lo_is b0 b1 hm.1 hm.2] at hlo
  rw [hi_is (!s) p g (pgs l) b0 b1 hm.1 hm.2 h1 h2 h3 h4] at hhi
  have k := sumW_parts (a0 := b / 65536 % 256) (a1 := t) (a2 := (bN (!s) : Nat)) (a3 := d) (a4 := (bN p : Nat)) (a5 := lmP l / 65536 % 16) (a6 := (bN g : Nat)) (a7 := (bN (pgs l) : Nat)) (a8 := b / 16777216) (by omega) (by omega) (by omega) (by omega) (by omega) (by omega) (by omega) (by omega) (by omega)
  rw [← hhi] at k
  obtain ⟨k0, k1, k2, k3, k4, k5, k21, k6, k7, k8, k9, k10⟩ := k
  have e7 : bitP hi 8388608 = pgs l := by unfold bitP; rw [k7]; exact bN_eq _
  have el : limS lo hi = lmP l := by unfold limS; rw [k5, hlo]; omega
  refine ⟨⟨by rw [hlo]; omega, by rw [hlo]; omega, k9, k10⟩, ?_, ?_, k1, ?_, k3, ?_, ?_, k21, e7⟩
  · unfold baseB
    rw [k0, k8, hlo]
    omega
  · unfold limB
    rw [e7, el]
    unfold pgs lmP
    by_cases hl : l ≤ 1048575
    · have : ¬ 1048575 < l := by omega
      simp [hl]
      omega
    · have : 1048575 < l := by omega
      simp [hl]
      omega
  · have : bitP hi 4096 = !s := by unfold bitP; rw [k2]; exact bN_eq _
    rw [this]
    simp
  · unfold bitP; rw [k4]; exact bN_eq _
  · unfold bitP; rw [k6]; exact bN_eq _

end Go.Proofs.Ytpgionhhjmlmmaa
