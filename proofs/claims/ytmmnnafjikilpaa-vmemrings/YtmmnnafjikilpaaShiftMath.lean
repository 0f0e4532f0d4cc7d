/- Plain facts on turning and shifting numbers, bit by bit: no Go text in sight; each under the bounds that it names. -/
import Derived.Test.YtmmnnafjikilpaaAluSpec
namespace Go.Proofs.Ytmmnnafjikilpaa
open Go.RowKit
set_option linter.unusedVariables false

def Sw (s H M : Int) (W : Nat) : Prop := (s = 1 ∧ H = 128 ∧ M = 256 ∧ W = 8) ∨ (s = 2 ∧ H = 32768 ∧ M = 65536 ∧ W = 16) ∨ (s = 4 ∧ H = 2147483648 ∧ M = 4294967296 ∧ W = 32)

theorem Sw.sz {s H M : Int} {W : Nat} (h : Sw s H M W) : ∃ sp, Sz s H M sp (W : Int) := by
  rcases h with ⟨rfl, rfl, rfl, rfl⟩ | ⟨rfl, rfl, rfl, rfl⟩ | ⟨rfl, rfl, rfl, rfl⟩
  · exact ⟨24, sz1⟩
  · exact ⟨16, sz2⟩
  · exact ⟨0, sz4⟩

theorem Sw_of {s : Int} (h : okSize s = true) : ∃ H M W, Sw s H M W := by
  unfold okSize at h
  simp only [Bool.or_eq_true, beq_iff_eq] at h
  rcases h with (rfl | rfl) | rfl
  · exact ⟨128, 256, 8, Or.inl ⟨rfl, rfl, rfl, rfl⟩⟩
  · exact ⟨32768, 65536, 16, Or.inr (Or.inl ⟨rfl, rfl, rfl, rfl⟩)⟩
  · exact ⟨2147483648, 4294967296, 32, Or.inr (Or.inr ⟨rfl, rfl, rfl, rfl⟩)⟩

theorem Sw.ok {s H M : Int} {W : Nat} (h : Sw s H M W) : okSize s = true := by
  obtain ⟨sp, hS⟩ := h.sz
  exact hS.ok

theorem Sw.pow {s H M : Int} {W : Nat} (h : Sw s H M W) : M = ((2 ^ W : Nat) : Int) ∧ H = ((2 ^ (W - 1) : Nat) : Int) ∧ 8 ≤ W ∧ W ≤ 32 ∧ M ≤ 4294967296 ∧ 0 < M ∧ M = 2 * H := by
  rcases h with ⟨rfl, rfl, rfl, rfl⟩ | ⟨rfl, rfl, rfl, rfl⟩ | ⟨rfl, rfl, rfl, rfl⟩ <;> decide

theorem Sw.sgn {s H M : Int} {W : Nat} (h : Sw s H M W) {x : Int} (x0 : 0 ≤ x) (x1 : x < M) : sgn H x = tb x (W - 1) := by
  have p := h.pow
  rw [tb_div x x0, ← p.2.1]
  rcases h with ⟨rfl, rfl, rfl, rfl⟩ | ⟨rfl, rfl, rfl, rfl⟩ | ⟨rfl, rfl, rfl, rfl⟩
  all_goals
    unfold Go.Proofs.Ytmmnnafjikilpaa.sgn
    rw [Bool.eq_iff_iff]; simp only [decide_eq_true_eq]; omega

theorem pw_pos (k : Nat) : 0 < ((2 ^ k : Nat) : Int) := by have := Nat.two_pow_pos k; omega

theorem tb_cast (n : Nat) (i : Nat) : tb (n : Int) i = n.testBit i := by unfold tb; rw [Int.toNat_natCast]

theorem tb_mod {x : Int} (x0 : 0 ≤ x) (W i : Nat) : tb (x % ((2 ^ W : Nat) : Int)) i = (decide (i < W) && tb x i) := by
  obtain ⟨n, rfl⟩ := Int.eq_ofNat_of_zero_le x0
  rw [show ((n : Int) % ((2 ^ W : Nat) : Int)) = ((n % 2 ^ W : Nat) : Int) from (Int.natCast_emod n (2 ^ W)).symm, tb_cast, tb_cast, Nat.testBit_mod_two_pow]

theorem tb_shr {x : Int} (x0 : 0 ≤ x) (k i : Nat) : tb (x / ((2 ^ k : Nat) : Int)) i = tb x (k + i) := by
  obtain ⟨n, rfl⟩ := Int.eq_ofNat_of_zero_le x0
  rw [show ((n : Int) / ((2 ^ k : Nat) : Int)) = ((n / 2 ^ k : Nat) : Int) from (Int.natCast_ediv n (2 ^ k)).symm, tb_cast, tb_cast, Nat.testBit_div_two_pow, Nat.add_comm]

theorem tb_shl {x : Int} (x0 : 0 ≤ x) (k i : Nat) : tb (x * ((2 ^ k : Nat) : Int)) i = (decide (k ≤ i) && tb x (i - k)) := by
  obtain ⟨n, rfl⟩ := Int.eq_ofNat_of_zero_le x0
  rw [show ((n : Int) * ((2 ^ k : Nat) : Int)) = ((n * 2 ^ k : Nat) : Int) from (Int.natCast_mul n (2 ^ k)).symm, tb_cast, tb_cast, Nat.testBit_mul_two_pow]

theorem tb_hi {x : Int} {W : Nat} (x1 : x < ((2 ^ W : Nat) : Int)) {i : Nat} (h : W ≤ i) : tb x i = false := by
  unfold tb
  apply Nat.testBit_lt_two_pow
  have : (2 : Nat) ^ W ≤ 2 ^ i := Nat.pow_le_pow_right (by decide) h
  have := Nat.two_pow_pos W
  omega

theorem flg_tb {x : Int} (x0 : 0 ≤ x) (j : Nat) : x / ((2 ^ j : Nat) : Int) % 2 = flg (tb x j) 1 := by
  rw [tb_div x x0 j]
  unfold flg
  by_cases h : x / ((2 ^ j : Nat) : Int) % 2 = 1
  · rw [h]; rfl
  · rw [decide_eq_false h, if_neg (by decide)]; omega

def rot (R n k : Nat) : Nat := (2 ^ k * n + n / 2 ^ (R - k)) % 2 ^ R

theorem rot_lt (R n k : Nat) : rot R n k < 2 ^ R := Nat.mod_lt _ (Nat.two_pow_pos R)

theorem rot_low (R n k : Nat) (hn : n < 2 ^ R) (hk : k ≤ R) : n / 2 ^ (R - k) < 2 ^ k := by
  rw [Nat.div_lt_iff_lt_mul (Nat.two_pow_pos _), ← Nat.pow_add, show k + (R - k) = R by omega]
  exact hn

theorem rot_bit (R n k i : Nat) (hn : n < 2 ^ R) (hk : k ≤ R) : (rot R n k).testBit i = (decide (i < R) && if i < k then n.testBit (i + (R - k)) else n.testBit (i - k)) := by
  unfold rot
  rw [Nat.testBit_mod_two_pow, Nat.testBit_two_pow_mul_add _ (rot_low R n k hn hk), Nat.testBit_div_two_pow]

def turn (R : Nat) (n : Int) (k : Nat) : Int := ((rot R n.toNat (k % R) : Nat) : Int)

theorem turn_bd (R : Nat) (n : Int) (k : Nat) : 0 ≤ turn R n k ∧ turn R n k < ((2 ^ R : Nat) : Int) := by
  unfold turn
  have := rot_lt R n.toNat (k % R)
  omega

theorem turn_bit {R : Nat} {n : Int} (r0 : 0 < R) (n0 : 0 ≤ n) (n1 : n < ((2 ^ R : Nat) : Int)) (k i : Nat) : tb (turn R n k) i = (decide (i < R) && if i < k % R then tb n (i + (R - k % R)) else tb n (i - k % R)) := by
  unfold turn
  rw [tb_cast, rot_bit R _ _ i (by omega) (Nat.le_of_lt (Nat.mod_lt _ r0))]
  rfl

theorem turn_mod (R : Nat) (n : Int) {k l : Nat} (h : k % R = l % R) : turn R n k = turn R n l := by unfold turn; rw [h]

theorem turn_zero {R : Nat} {n : Int} (n0 : 0 ≤ n) (n1 : n < ((2 ^ R : Nat) : Int)) {k : Nat} (h : k % R = 0) : turn R n k = n := by
  unfold turn rot
  rw [h, Nat.pow_zero, Nat.one_mul, Nat.sub_zero, Nat.div_eq_of_lt (by omega), Nat.add_zero, Nat.mod_eq_of_lt (by omega)]
  omega

def isR (R : Nat) : Prop := R = 8 ∨ R = 9 ∨ R = 16 ∨ R = 17 ∨ R = 32 ∨ R = 33

theorem turn_turn {R : Nat} (hR : isR R) {n : Int} (n0 : 0 ≤ n) (n1 : n < ((2 ^ R : Nat) : Int)) (k l : Nat) : turn R (turn R n k) l = turn R n (k + l) := by
  have r0 : 0 < R := by unfold isR at hR; omega
  have b := turn_bd R n k
  refine tb_ext (turn_bd R _ l).1 (turn_bd R n _).1 fun i => ?_
  rw [turn_bit r0 b.1 b.2 l i, turn_bit r0 n0 n1 (k + l) i, turn_bit r0 n0 n1 k, turn_bit r0 n0 n1 k]
  by_cases hi : i < R
  · simp only [hi, decide_true, Bool.true_and]
    have hl : l % R < R := Nat.mod_lt _ r0
    have hkk : k % R < R := Nat.mod_lt _ r0
    have hs : (k + l) % R = k % R + l % R ∨ (k + l) % R + R = k % R + l % R := by
      rw [Nat.add_mod]
      by_cases h : k % R + l % R < R
      · left; exact Nat.mod_eq_of_lt h
      · right
        rw [Nat.mod_eq_sub_mod (by omega), Nat.mod_eq_of_lt (by omega)]; omega
    have hm : (k + l) % R < R := Nat.mod_lt _ r0
    generalize (k + l) % R = S at *
    generalize k % R = K at *
    generalize l % R = L at *
    have same : ∀ a b : Nat, a = b → tb n a = tb n b := fun a b h => by rw [h]
    repeat' split
    all_goals first
      | omega
      | (rw [decide_eq_true (by omega)]; simp only [Bool.true_and]; exact same _ _ (by omega))
  · simp [hi]

/-- one turn to the left, as the document's answer has it -/
theorem turn_one {R : Nat} (hR : isR R) {n : Int} (n0 : 0 ≤ n) (n1 : n < ((2 ^ R : Nat) : Int)) : n * 2 % ((2 ^ R : Nat) : Int) + n / ((2 ^ (R - 1) : Nat) : Int) % 2 = turn R n 1 := by
  obtain ⟨m, rfl⟩ := Int.eq_ofNat_of_zero_le n0
  unfold turn rot
  rw [Int.toNat_natCast]
  rcases hR with rfl | rfl | rfl | rfl | rfl | rfl
  · have n2 : m < 256 := by omega
    have q : m / 128 = 0 ∨ m / 128 = 1 := by omega
    show (m : Int) * 2 % 256 + (m : Int) / 128 % 2 = (((2 * m + m / 128) % 256 : Nat) : Int)
    rcases q with q | q <;> rw [q] <;> omega
  · have n2 : m < 512 := by omega
    have q : m / 256 = 0 ∨ m / 256 = 1 := by omega
    show (m : Int) * 2 % 512 + (m : Int) / 256 % 2 = (((2 * m + m / 256) % 512 : Nat) : Int)
    rcases q with q | q <;> rw [q] <;> omega
  · have n2 : m < 65536 := by omega
    have q : m / 32768 = 0 ∨ m / 32768 = 1 := by omega
    show (m : Int) * 2 % 65536 + (m : Int) / 32768 % 2 = (((2 * m + m / 32768) % 65536 : Nat) : Int)
    rcases q with q | q <;> rw [q] <;> omega
  · have n2 : m < 131072 := by omega
    have q : m / 65536 = 0 ∨ m / 65536 = 1 := by omega
    show (m : Int) * 2 % 131072 + (m : Int) / 65536 % 2 = (((2 * m + m / 65536) % 131072 : Nat) : Int)
    rcases q with q | q <;> rw [q] <;> omega
  · have n2 : m < 4294967296 := by omega
    have q : m / 2147483648 = 0 ∨ m / 2147483648 = 1 := by omega
    show (m : Int) * 2 % 4294967296 + (m : Int) / 2147483648 % 2 = (((2 * m + m / 2147483648) % 4294967296 : Nat) : Int)
    rcases q with q | q <;> rw [q] <;> omega
  · have n2 : m < 8589934592 := by omega
    have q : m / 4294967296 = 0 ∨ m / 4294967296 = 1 := by omega
    show (m : Int) * 2 % 8589934592 + (m : Int) / 4294967296 % 2 = (((2 * m + m / 4294967296) % 8589934592 : Nat) : Int)
    rcases q with q | q <;> rw [q] <;> omega

/-- the turn of the code -/
theorem turn_code {R c : Nat} (r33 : R ≤ 33) (hc : c < R) {n : Int} (n0 : 0 ≤ n) (n1 : n < ((2 ^ R : Nat) : Int)) :
    bits .and .u64 (bits .or .u64 (IntKind.u64.wrap (n * 2 ^ c)) (n / 2 ^ (R - c))) (((2 ^ R - 1 : Nat)) : Int) = ((rot R n.toNat c : Nat) : Int) := by
  obtain ⟨m, rfl⟩ := Int.eq_ofNat_of_zero_le n0
  have hm : m < 2 ^ R := by omega
  have h33 : (2 : Nat) ^ R ≤ 2 ^ 33 := Nat.pow_le_pow_right (by decide) r33
  have hB := rot_low R m c hm (by omega)
  have hB2 : m / 2 ^ (R - c) ≤ m := Nat.div_le_self _ _
  have e64 : (18446744073709551616 : Nat) = 2 ^ 64 := by decide
  have e1 : IntKind.u64.wrap ((m : Int) * 2 ^ c) = ((2 ^ c * m % 18446744073709551616 : Nat) : Int) := by
    rw [wrap_u64', Int.mul_comm, show (2 : Int) ^ c * (m : Int) = ((2 ^ c * m : Nat) : Int) by push_cast; rfl]
    omega
  have e2 : (m : Int) / 2 ^ (R - c) = ((m / 2 ^ (R - c) : Nat) : Int) := by push_cast; rfl
  have hp := Nat.two_pow_pos R
  have e33 : (2 : Nat) ^ 33 = 8589934592 := by decide
  have hA : 2 ^ c * m % 18446744073709551616 < 18446744073709551616 := Nat.mod_lt _ (by decide)
  have hO : (2 ^ c * m % 18446744073709551616) ||| (m / 2 ^ (R - c)) < 18446744073709551616 := Nat.or_lt_two_pow (n := 64) hA (by omega)
  rw [e1, e2, u64_or_nat _ _ hA (by omega), u64_and_nat _ _ hO (by omega), Nat.and_two_pow_sub_one_eq_mod, Int.toNat_natCast]
  unfold rot
  rw [Nat.two_pow_add_eq_or_of_lt hB]
  congr 1
  apply Nat.eq_of_testBit_eq
  intro i
  rw [Nat.testBit_mod_two_pow, Nat.testBit_mod_two_pow, Nat.testBit_or, Nat.testBit_or, e64, Nat.testBit_mod_two_pow]
  by_cases hi : i < R
  · have : i < 64 := by omega
    simp [hi, this]
  · simp [hi]

theorem xor_flg (a b : Bool) : bits .xor .u32 (flg a 1) (flg b 1) = flg (a != b) 1 := by cases a <;> cases b <;> decide
end Go.Proofs.Ytmmnnafjikilpaa
