/- What the operations of layer 2 come to, result and flags, and plain facts on them: no Go text in sight; each under the bounds that it names. -/
import Derived.Test.YtecfkgnffhiemabShiftMath
namespace Go.Proofs.Ytecfkgnffhiemab
open Go.RowKit
set_option linter.unusedVariables false

def mvR (op H M : Int) (W : Nat) (x : Int) (k : Nat) (c : Bool) : Int :=
  if op = 0 then turn W x k else if op = 1 then turn W x (4 * W - k)
  else if op = 2 then turn (W + 1) (x + flg c M) k % M else if op = 3 then turn (W + 1) (x + flg c M) (4 * (W + 1) - k) % M
  else if op = 5 then x / ((2 ^ k : Nat) : Int) else if op = 7 then sgv M H x / ((2 ^ k : Nat) : Int) % M else x * ((2 ^ k : Nat) : Int) % M

def mvC (op H M : Int) (W : Nat) (x : Int) (k : Nat) (c : Bool) : Bool :=
  if op = 0 then tb (turn W x k) 0 else if op = 1 then tb (turn W x (4 * W - k)) (W - 1)
  else if op = 2 then tb (turn (W + 1) (x + flg c M) k) W else if op = 3 then tb (turn (W + 1) (x + flg c M) (4 * (W + 1) - k)) W
  else if op = 5 then tb x (k - 1) else if op = 7 then decide (sgv M H x / ((2 ^ (k - 1) : Nat) : Int) % 2 = 1) else tb (x * ((2 ^ k : Nat) : Int)) W

def mvV (op H M : Int) (W : Nat) (x : Int) (k : Nat) (c : Bool) : Bool :=
  if op = 1 then tb (mvR op H M W x k c) (W - 1) != tb (mvR op H M W x k c) (W - 2)
  else if op = 3 then tb (mvR op H M W x k c) (W - 1) != tb (mvR op H M W x k c) (W - 2)
  else if op = 5 then tb x (W - 1) else if op = 7 then false else mvC op H M W x k c != tb (mvR op H M W x k c) (W - 1)

def mvF (op H M : Int) (W : Nat) (x : Int) (k : Nat) (f : Int) : Int :=
  if op < 4 then setF (setF f 1 (mvC op H M W x k (tb f 0))) 2048 (mvV op H M W x k (tb f 0))
  else byF H (mvR op H M W x k (tb f 0)) (setF (setF (setF f 1 (mvC op H M W x k (tb f 0))) 2048 (mvV op H M W x k (tb f 0))) 16 false)

/-- what shift.Do answers -/
def shR (op H M : Int) (W : Nat) (a : Int) (k : Nat) (f : Int) : Int := if k = 0 then a % M else mvR op H M W (a % M) k (tb f 0)

def shF (op H M : Int) (W : Nat) (a : Int) (k : Nat) (f : Int) : Int := if k = 0 then f else mvF op H M W (a % M) k f

theorem pw_cast (k : Nat) : (2 : Int) ^ k = ((2 ^ k : Nat) : Int) := by push_cast; rfl

theorem div_bd {x M : Int} (x0 : 0 ≤ x) (x1 : x < M) (k : Nat) : 0 ≤ x / ((2 ^ k : Nat) : Int) ∧ x / ((2 ^ k : Nat) : Int) < M := by
  have p := pw_pos k
  refine ⟨Int.ediv_nonneg x0 (by omega), ?_⟩
  have : x / ((2 ^ k : Nat) : Int) ≤ x := Int.ediv_le_self _ x0
  omega

theorem mvR_bd {s H M : Int} {W : Nat} (hS : Sw s H M W) {x : Int} (x0 : 0 ≤ x) (x1 : x < M) (op : Int) (k : Nat) (c : Bool) : 0 ≤ mvR op H M W x k c ∧ mvR op H M W x k c < M := by
  have p := hS.pow
  have t1 := turn_bd W x k
  have t2 := turn_bd W x (4 * W - k)
  rw [← p.1] at t1 t2
  unfold mvR
  repeat' split
  all_goals first | exact t1 | exact t2 | exact mod_bd (by omega) _ | exact div_bd x0 x1 k

theorem mvF_bd {f : Int} (f0 : 0 ≤ f) (f1 : f < 4294967296) (op H M : Int) (W : Nat) (x : Int) (k : Nat) : 0 ≤ mvF op H M W x k f ∧ mvF op H M W x k f < 4294967296 := by
  have b2 := bd2 f0 f1 1 2048 fl1 fl2048 (mvC op H M W x k (tb f 0)) (mvV op H M W x k (tb f 0))
  unfold mvF
  split
  · exact b2
  · exact byF_bd (bd1 b2.1 b2.2 16 fl16 false).1 (bd1 b2.1 b2.2 16 fl16 false).2 _ _

theorem tb_2049 (i : Nat) : tb 2049 i = (decide (i = 0) || decide (i = 11)) := by
  have e : (2049 : Int).toNat = 2 ^ 0 ||| 2 ^ 11 := by decide
  unfold tb; rw [e]; simp only [Nat.testBit_or, Nat.testBit_two_pow]; simp [eq_comm]

theorem tb_212 (i : Nat) : tb 212 i = (decide (i = 2) || decide (i = 4) || decide (i = 6) || decide (i = 7)) := by
  have e : (212 : Int).toNat = 2 ^ 2 ||| 2 ^ 4 ||| 2 ^ 6 ||| 2 ^ 7 := by decide
  unfold tb; rw [e]; simp only [Nat.testBit_or, Nat.testBit_two_pow]; simp [eq_comm]

theorem mark_bits {f : Int} (f0 : 0 ≤ f) (f1 : f < 4294967296) (c v : Bool) :
    bits .or .u32 (bits .or .u32 (bits .andNot .u32 f 2049) (flg c 1)) (flg v 2048) = setF (setF f 1 c) 2048 v := by
  have a1 := andNot_bd f0 f1 (b := 2049) (by decide) (by decide)
  have a2 := flg_bd c 1 (by decide) (by decide)
  have a3 := or_bd a1.1 a1.2 a2.1 a2.2
  have a4 := flg_bd v 2048 (by decide) (by decide)
  have a5 := or_bd a3.1 a3.2 a4.1 a4.2
  have b1 := bd1 f0 f1 1 fl1 c
  have b2 := bd1 b1.1 b1.2 2048 fl2048 v
  refine tb_ext a5.1 b2.1 fun i => ?_
  rw [tb_or a3.1 a3.2 a4.1 a4.2, tb_or a1.1 a1.2 a2.1 a2.2, tb_andNot f0 f1 (by decide) (by decide), tb_2049, tb_flg1, tb_flg2048, tb_set2048 b1.1, tb_set1 f0]
  by_cases h0 : i = 0
  · subst h0; simp
  · by_cases h11 : i = 11
    · subst h11; simp
    · simp [h0, h11]

theorem by_bits212 {f : Int} (f0 : 0 ≤ f) (f1 : f < 4294967296) (z p s : Bool) :
    bits .or .u32 (bits .or .u32 (bits .or .u32 (bits .andNot .u32 f 212) (flg z 64)) (flg p 4)) (flg s 128) = setF (setF (setF (setF f 16 false) 64 z) 128 s) 4 p := by
  have a1 := andNot_bd f0 f1 (b := 212) (by decide) (by decide)
  have a2 := flg_bd z 64 (by decide) (by decide)
  have a3 := or_bd a1.1 a1.2 a2.1 a2.2
  have a4 := flg_bd p 4 (by decide) (by decide)
  have a5 := or_bd a3.1 a3.2 a4.1 a4.2
  have a6 := flg_bd s 128 (by decide) (by decide)
  have a7 := or_bd a5.1 a5.2 a6.1 a6.2
  have b0 := bd1 f0 f1 16 fl16 false
  have b1 := bd1 b0.1 b0.2 64 fl64 z
  have b2 := bd1 b1.1 b1.2 128 fl128 s
  have b3 := bd1 b2.1 b2.2 4 fl4 p
  refine tb_ext a7.1 b3.1 fun i => ?_
  rw [tb_or a5.1 a5.2 a6.1 a6.2, tb_or a3.1 a3.2 a4.1 a4.2, tb_or a1.1 a1.2 a2.1 a2.2, tb_andNot f0 f1 (by decide) (by decide), tb_212, tb_flg64, tb_flg128, tb_flg4, tb_set4 b2.1, tb_set128 b1.1, tb_set64 b0.1, tb_set16 f0]
  by_cases h2 : i = 2
  · subst h2; simp
  · by_cases h6 : i = 6
    · subst h6; simp
    · by_cases h7 : i = 7
      · subst h7; simp
      · by_cases h4 : i = 4
        · subst h4; simp
        · simp [h2, h6, h7, h4]

theorem or_zero' {a : Int} (a0 : 0 ≤ a) (a1 : a < 4294967296) : bits .or .u32 a 0 = a := by
  rw [u32_or a 0 a0 a1 (by decide) (by decide)]; simp; omega

theorem and_31 {c : Int} (c0 : 0 ≤ c) (c1 : c < 4294967296) : bits .and .u32 c 31 = c % 32 := by
  have h := Nat.and_two_pow_sub_one_eq_mod c.toNat 5
  have e : (31 : Int).toNat = 2 ^ 5 - 1 := by decide
  rw [u32_and c 31 c0 c1 (by decide) (by decide), e, h]
  omega

theorem and_1 {c : Int} (c0 : 0 ≤ c) (c1 : c < 4294967296) : bits .and .u32 c 1 = c % 2 := by
  have h := Nat.and_two_pow_sub_one_eq_mod c.toNat 1
  have e : (1 : Int).toNat = 2 ^ 1 - 1 := by decide
  rw [u32_and c 1 c0 c1 (by decide) (by decide), e, h]
  omega

theorem and64_1 {c : Int} (c0 : 0 ≤ c) (c1 : c < 18446744073709551616) : bits .and .u64 c 1 = c % 2 := by
  have h := Nat.and_two_pow_sub_one_eq_mod c.toNat 1
  have e : (1 : Int).toNat = 2 ^ 1 - 1 := by decide
  rw [u64_and c 1 c0 c1 (by decide) (by decide), e, h]
  omega

theorem i64_and1 (n : Int) : bits .and .i64 n 1 = n % 2 := by
  show IntKind.i64.wrap ((BitVec.ofInt 64 n &&& BitVec.ofInt 64 1).toNat : Int) = _
  have e1 : (BitVec.ofInt 64 (1 : Int)).toNat = 2 ^ 1 - 1 := by decide
  rw [BitVec.toNat_and, e1, Nat.and_two_pow_sub_one_eq_mod, BitVec.toNat_ofInt]
  have h : (n % ((2 ^ 64 : Nat) : Int)).toNat % 2 ^ 1 = (n % 2).toNat := by omega
  rw [h]
  have h2 : (n % 2).toNat = 0 ∨ (n % 2).toNat = 1 := by omega
  rcases h2 with h2 | h2 <;> rw [h2] <;> (have : n % 2 = 0 ∨ n % 2 = 1 := by omega) <;> rcases this with h3 | h3 <;> rw [h3] at h2 ⊢ <;> first | decide | (simp at h2)

theorem and_mask {n : Int} (n0 : 0 ≤ n) (n1 : n < 18446744073709551616) (W : Nat) (hW : W ≤ 32) : bits .and .u64 n ((2 ^ W - 1 : Nat) : Int) % 4294967296 = n % ((2 ^ W : Nat) : Int) := by
  obtain ⟨m, rfl⟩ := Int.eq_ofNat_of_zero_le n0
  have h33 : (2 : Nat) ^ W ≤ 2 ^ 32 := Nat.pow_le_pow_right (by decide) hW
  have e32 : (2 : Nat) ^ 32 = 4294967296 := by decide
  have hp := Nat.two_pow_pos W
  rw [u64_and_nat _ _ (by omega) (by omega), Nat.and_two_pow_sub_one_eq_mod, ← Int.natCast_emod]
  have := Nat.mod_lt m hp
  omega

theorem sgv_bd {s H M : Int} {W : Nat} (hS : Sw s H M W) {x : Int} (x0 : 0 ≤ x) (x1 : x < M) : -H ≤ sgv M H x ∧ sgv M H x < H := by
  have p := hS.pow
  unfold sgv
  split <;> omega

theorem sgv_mod {s H M : Int} {W : Nat} (hS : Sw s H M W) {y : Int} (y0 : -H ≤ y) (y1 : y < H) : sgv M H (y % M) = y := by
  have p := hS.pow
  unfold sgv
  by_cases h : 0 ≤ y
  · rw [Int.emod_eq_of_lt h (by omega), if_pos (by omega)]
  · have : y % M = y + M := by rw [← Int.add_emod_right, Int.emod_eq_of_lt (by omega) (by omega)]
    rw [this, if_neg (by omega)]; omega
end Go.Proofs.Ytecfkgnffhiemab
