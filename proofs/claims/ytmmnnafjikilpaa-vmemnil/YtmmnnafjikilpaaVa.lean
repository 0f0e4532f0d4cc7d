/- Texts on vmem, joined: AluMath, AluSpec, Grow, ShiftMath, RamBase, RamLeaf, RamNew2, RamNote, RamTell, RamLay, RamOps, RamOps2. -/
import Derived.WalkKit
import Derived.ProofKit
import Derived.Laws.BitsAllLaws
import Derived.Lib.BitFns
import Derived.Test.YtmmnnafjikilpaaRows
import Derived.OpenShut
import Derived.Laws.EntriesVeiled
import Derived.Deep.QuietTactic
import Derived.BigQuiet
import Derived.Lib.Tables
import Derived.Deep.RegionHeld3
import Derived.Maps.OwnSet
import Derived.Maps.Range
import Derived.Laws.CopyOwn
import Derived.LoopTactic
import Derived.Laws.MakeOwn
/- Plain facts on 32-bit words, their bits and flags: no Go in sight; each says what a number's bit or a flag is, under the bounds that it names. -/
namespace Go.Proofs.Ytmmnnafjikilpaa
set_option linter.unusedVariables false

def tb (f : Int) (i : Nat) : Bool := f.toNat.testBit i
def flg (b : Bool) (f : Int) : Int := if b then f else 0
def setF (f k : Int) (b : Bool) : Int := (if f / k % 2 = 1 then f - k else f) + flg b k
def hasF (f k : Int) : Bool := f / k % 2 == 1
def sgn (H x : Int) : Bool := decide (H ≤ x)
def ones (x : Int) : Int := Lib.onesCount (x % 256).toNat
def par (x : Int) : Bool := ones x % 2 == 0
def mkM (cf af vf : Bool) : Int := flg cf 1 + flg af 16 + flg vf 2048
def byF (H x f : Int) : Int := setF (setF (setF f 64 (x == 0)) 128 (sgn H x)) 4 (par x)
def Sz (s H M sp bt : Int) : Prop := (s = 1 ∧ H = 128 ∧ M = 256 ∧ sp = 24 ∧ bt = 8) ∨ (s = 2 ∧ H = 32768 ∧ M = 65536 ∧ sp = 16 ∧ bt = 16) ∨ (s = 4 ∧ H = 2147483648 ∧ M = 4294967296 ∧ sp = 0 ∧ bt = 32)

theorem tb_ext {a b : Int} (ha : 0 ≤ a) (hb : 0 ≤ b) (h : ∀ i, tb a i = tb b i) : a = b := by
  have e : a.toNat = b.toNat := Nat.eq_of_testBit_eq h
  omega

theorem tb_high {a : Int} (h : a < 4294967296) {i : Nat} (hi : 32 ≤ i) : tb a i = false := by
  unfold tb
  apply Nat.testBit_lt_two_pow
  have : (2 : Nat) ^ 32 ≤ 2 ^ i := Nat.pow_le_pow_right (by decide) hi
  have e : (2 : Nat) ^ 32 = 4294967296 := by decide
  omega

theorem lt32_or {a b : Nat} (ha : a < 4294967296) (hb : b < 4294967296) : a ||| b < 4294967296 := Nat.or_lt_two_pow (n := 32) ha hb
theorem lt32_xor {a b : Nat} (ha : a < 4294967296) (hb : b < 4294967296) : a ^^^ b < 4294967296 := Nat.xor_lt_two_pow (n := 32) ha hb
theorem lt32_and {a b : Nat} (hb : b < 4294967296) : a &&& b < 4294967296 := Nat.and_lt_two_pow (n := 32) a hb

theorem or_bd {a b : Int} (a0 : 0 ≤ a) (a1 : a < 4294967296) (b0 : 0 ≤ b) (b1 : b < 4294967296) : 0 ≤ bits .or .u32 a b ∧ bits .or .u32 a b < 4294967296 := by
  rw [u32_or a b a0 a1 b0 b1]
  have := lt32_or (a := a.toNat) (b := b.toNat) (by omega) (by omega)
  omega
theorem and_bd {a b : Int} (a0 : 0 ≤ a) (a1 : a < 4294967296) (b0 : 0 ≤ b) (b1 : b < 4294967296) : 0 ≤ bits .and .u32 a b ∧ bits .and .u32 a b < 4294967296 := by
  rw [u32_and a b a0 a1 b0 b1]
  have := lt32_and (a := a.toNat) (b := b.toNat) (by omega)
  omega
theorem xor_bd {a b : Int} (a0 : 0 ≤ a) (a1 : a < 4294967296) (b0 : 0 ≤ b) (b1 : b < 4294967296) : 0 ≤ bits .xor .u32 a b ∧ bits .xor .u32 a b < 4294967296 := by
  rw [u32_xor a b a0 a1 b0 b1]
  have := lt32_xor (a := a.toNat) (b := b.toNat) (by omega) (by omega)
  omega
theorem andNot_bd {a b : Int} (a0 : 0 ≤ a) (a1 : a < 4294967296) (b0 : 0 ≤ b) (b1 : b < 4294967296) : 0 ≤ bits .andNot .u32 a b ∧ bits .andNot .u32 a b < 4294967296 := by
  rw [u32_andNot a b a0 a1 b0 b1]
  have := lt32_and (a := a.toNat) (b := 4294967295 - b.toNat) (by omega)
  omega

theorem tb_or {a b : Int} (a0 : 0 ≤ a) (a1 : a < 4294967296) (b0 : 0 ≤ b) (b1 : b < 4294967296) (i : Nat) : tb (bits .or .u32 a b) i = (tb a i || tb b i) := by
  rw [u32_or a b a0 a1 b0 b1]; simp [tb]
theorem tb_and {a b : Int} (a0 : 0 ≤ a) (a1 : a < 4294967296) (b0 : 0 ≤ b) (b1 : b < 4294967296) (i : Nat) : tb (bits .and .u32 a b) i = (tb a i && tb b i) := by
  rw [u32_and a b a0 a1 b0 b1]; simp [tb]
theorem tb_xor {a b : Int} (a0 : 0 ≤ a) (a1 : a < 4294967296) (b0 : 0 ≤ b) (b1 : b < 4294967296) (i : Nat) : tb (bits .xor .u32 a b) i = (tb a i ^^ tb b i) := by
  rw [u32_xor a b a0 a1 b0 b1]; simp [tb]
theorem tb_not {b : Int} (b0 : 0 ≤ b) (b1 : b < 4294967296) {i : Nat} (hi : i < 32) : tb (4294967295 - b) i = !tb b i := by
  have e : (4294967295 - b).toNat = 2 ^ 32 - (b.toNat + 1) := by
    have : (2 : Nat) ^ 32 = 4294967296 := by decide
    omega
  unfold tb
  rw [e, Nat.testBit_two_pow_sub_succ (by have : (2 : Nat) ^ 32 = 4294967296 := by decide
                                          omega)]
  simp [hi]
theorem tb_andNot {a b : Int} (a0 : 0 ≤ a) (a1 : a < 4294967296) (b0 : 0 ≤ b) (b1 : b < 4294967296) (i : Nat) : tb (bits .andNot .u32 a b) i = (tb a i && !tb b i) := by
  rw [u32_andNot a b a0 a1 b0 b1]
  by_cases hi : i < 32
  · have h := tb_not b0 b1 hi
    have e : (4294967295 - b).toNat = 4294967295 - b.toNat := by omega
    unfold tb at h ⊢
    rw [e] at h
    simp [h]
  · have h := tb_high a1 (i := i) (by omega)
    unfold tb at h ⊢
    simp [h]

theorem tb_flg (b : Bool) (j : Nat) (i : Nat) : tb (flg b ((2 ^ j : Nat) : Int)) i = (b && decide (i = j)) := by
  cases b
  · simp [flg, tb]
  · simp only [flg, if_true, tb, Int.toNat_natCast, Nat.testBit_two_pow, Bool.true_and]
    simp [eq_comm]

/-- a number with its bit j laid anew -/
theorem lay_bit (m r j i : Nat) (c : Nat) (hr : r < 2 ^ j) (hc : c < 2) : (2 ^ j * (2 * m + c) + r).testBit i = if i = j then decide (c = 1) else if i < j then r.testBit i else m.testBit (i - j - 1) := by
  rw [Nat.testBit_two_pow_mul_add _ hr]
  by_cases h1 : i < j
  · simp [h1, Nat.ne_of_lt h1]
  · by_cases h2 : i = j
    · subst h2
      have : c = 0 ∨ c = 1 := by omega
      rcases this with rfl | rfl <;> simp [Nat.testBit_zero] <;> omega
    · obtain ⟨t, rfl⟩ : ∃ t, i = j + (t + 1) := ⟨i - j - 1, by omega⟩
      have e1 : j + (t + 1) - j = t + 1 := by omega
      have e2 : j + (t + 1) - j - 1 = t := by omega
      rw [if_neg h1, if_neg h2, if_neg h1, e2, e1, Nat.testBit_succ]
      congr 1
      omega

theorem setF_nat (f j : Nat) (b : Bool) : setF (f : Int) ((2 ^ j : Nat) : Int) b = ((2 ^ j * (2 * (f / 2 ^ j / 2) + b.toNat) + f % 2 ^ j : Nat) : Int) := by
  have hd := Nat.div_add_mod f (2 ^ j)
  have hq : f / 2 ^ j = 2 * (f / 2 ^ j / 2) + f / 2 ^ j % 2 := by omega
  have hc : f / 2 ^ j % 2 = 0 ∨ f / 2 ^ j % 2 = 1 := by omega
  have e1 : ((f : Int) / ((2 ^ j : Nat) : Int) % 2) = ((f / 2 ^ j % 2 : Nat) : Int) := by
    rw [Int.natCast_emod, Int.natCast_ediv]; rfl
  unfold setF
  rw [e1]
  generalize hm : f / 2 ^ j / 2 = m at *
  generalize hr : f % 2 ^ j = r at *
  generalize hp : 2 ^ j = p at *
  generalize hqq : f / p = q at *
  rcases hc with hc | hc
  · rw [hc] at hq ⊢
    have e2 : q = 2 * m := by omega
    rw [if_neg (by decide)]
    have e3 : f = p * (2 * m) + r := by rw [← e2]; exact hd.symm
    cases b
    · simp only [flg, Bool.toNat_false]; rw [e3]; push_cast; simp
    · simp only [flg, Bool.toNat_true, if_true]; rw [e3, Nat.mul_add]; push_cast; simp; omega
  · rw [hc] at hq ⊢
    have e3 : f = p * (2 * m) + p + r := by rw [← hd, hq, Nat.mul_add]; omega
    rw [if_pos (by decide)]
    cases b
    · simp only [flg, Bool.toNat_false]; rw [e3]; push_cast; simp; omega
    · simp only [flg, Bool.toNat_true, if_true]; rw [e3, Nat.mul_add]; push_cast; simp

theorem tb_setF (f : Int) (f0 : 0 ≤ f) (j : Nat) (b : Bool) (i : Nat) : tb (setF f ((2 ^ j : Nat) : Int) b) i = if i = j then b else tb f i := by
  obtain ⟨n, rfl⟩ := Int.eq_ofNat_of_zero_le f0
  rw [setF_nat]
  unfold tb
  rw [Int.toNat_natCast, Int.toNat_natCast, lay_bit _ _ _ _ _ (Nat.mod_lt _ (Nat.two_pow_pos j)) (by cases b <;> decide)]
  by_cases h : i = j
  · simp only [h, if_true]; cases b <;> rfl
  · rw [if_neg h, if_neg h]
    have e : n = 2 ^ j * (2 * (n / 2 ^ j / 2) + n / 2 ^ j % 2) + n % 2 ^ j := by
      have hd := Nat.div_add_mod n (2 ^ j)
      have hq : 2 * (n / 2 ^ j / 2) + n / 2 ^ j % 2 = n / 2 ^ j := by omega
      rw [hq]; exact hd.symm
    have := lay_bit (n / 2 ^ j / 2) (n % 2 ^ j) j i (n / 2 ^ j % 2) (Nat.mod_lt _ (Nat.two_pow_pos j)) (Nat.mod_lt _ (by decide))
    rw [← e, if_neg h] at this
    exact this.symm

theorem setF_bd {f : Int} (f0 : 0 ≤ f) (f1 : f < 4294967296) (k : Int) (hk : k = 1 ∨ k = 4 ∨ k = 16 ∨ k = 64 ∨ k = 128 ∨ k = 2048) (b : Bool) : 0 ≤ setF f k b ∧ setF f k b < 4294967296 := by
  unfold setF flg
  rcases hk with rfl | rfl | rfl | rfl | rfl | rfl <;> cases b <;> simp <;> split <;> omega

theorem tb_set1 {f : Int} (f0 : 0 ≤ f) (b : Bool) (i : Nat) : tb (setF f 1 b) i = if i = 0 then b else tb f i := tb_setF f f0 0 b i
theorem tb_set4 {f : Int} (f0 : 0 ≤ f) (b : Bool) (i : Nat) : tb (setF f 4 b) i = if i = 2 then b else tb f i := tb_setF f f0 2 b i
theorem tb_set16 {f : Int} (f0 : 0 ≤ f) (b : Bool) (i : Nat) : tb (setF f 16 b) i = if i = 4 then b else tb f i := tb_setF f f0 4 b i
theorem tb_set64 {f : Int} (f0 : 0 ≤ f) (b : Bool) (i : Nat) : tb (setF f 64 b) i = if i = 6 then b else tb f i := tb_setF f f0 6 b i
theorem tb_set128 {f : Int} (f0 : 0 ≤ f) (b : Bool) (i : Nat) : tb (setF f 128 b) i = if i = 7 then b else tb f i := tb_setF f f0 7 b i
theorem tb_set2048 {f : Int} (f0 : 0 ≤ f) (b : Bool) (i : Nat) : tb (setF f 2048 b) i = if i = 11 then b else tb f i := tb_setF f f0 11 b i
theorem tb_flg1 (b : Bool) (i : Nat) : tb (flg b 1) i = (b && decide (i = 0)) := tb_flg b 0 i
theorem tb_flg4 (b : Bool) (i : Nat) : tb (flg b 4) i = (b && decide (i = 2)) := tb_flg b 2 i
theorem tb_flg16 (b : Bool) (i : Nat) : tb (flg b 16) i = (b && decide (i = 4)) := tb_flg b 4 i
theorem tb_flg64 (b : Bool) (i : Nat) : tb (flg b 64) i = (b && decide (i = 6)) := tb_flg b 6 i
theorem tb_flg128 (b : Bool) (i : Nat) : tb (flg b 128) i = (b && decide (i = 7)) := tb_flg b 7 i
theorem tb_flg2048 (b : Bool) (i : Nat) : tb (flg b 2048) i = (b && decide (i = 11)) := tb_flg b 11 i
theorem flg_bd (b : Bool) (k : Int) (h0 : 0 ≤ k) (h1 : k < 4294967296) : 0 ≤ flg b k ∧ flg b k < 4294967296 := by cases b <;> simp [flg] <;> omega

theorem tb_196 (i : Nat) : tb 196 i = (decide (i = 2) || decide (i = 6) || decide (i = 7)) := by
  have e : (196 : Int).toNat = 2 ^ 2 ||| 2 ^ 6 ||| 2 ^ 7 := by decide
  unfold tb; rw [e]; simp only [Nat.testBit_or, Nat.testBit_two_pow]; simp [eq_comm]
theorem tb_2065 (i : Nat) : tb 2065 i = (decide (i = 0) || decide (i = 4) || decide (i = 11)) := by
  have e : (2065 : Int).toNat = 2 ^ 0 ||| 2 ^ 4 ||| 2 ^ 11 := by decide
  unfold tb; rw [e]; simp only [Nat.testBit_or, Nat.testBit_two_pow]; simp [eq_comm]
theorem tb_2064 (i : Nat) : tb 2064 i = (decide (i = 4) || decide (i = 11)) := by
  have e : (2064 : Int).toNat = 2 ^ 4 ||| 2 ^ 11 := by decide
  unfold tb; rw [e]; simp only [Nat.testBit_or, Nat.testBit_two_pow]; simp [eq_comm]
theorem tb_mkM (c a v : Bool) (i : Nat) : tb (mkM c a v) i = ((c && decide (i = 0)) || (a && decide (i = 4)) || (v && decide (i = 11))) := by
  have e : (mkM c a v).toNat = (bif c then 2 ^ 0 else 0) ||| (bif a then 2 ^ 4 else 0) ||| (bif v then 2 ^ 11 else 0) := by cases c <;> cases a <;> cases v <;> decide
  unfold tb; rw [e]
  cases c <;> cases a <;> cases v <;> simp only [cond_true, cond_false, Nat.testBit_or, Nat.testBit_two_pow, Nat.zero_testBit] <;> simp [eq_comm]
theorem mkM_bd (c a v : Bool) : 0 ≤ mkM c a v ∧ mkM c a v < 4294967296 := by cases c <;> cases a <;> cases v <;> decide

theorem hasF_1 {f : Int} (f0 : 0 ≤ f) : hasF f 1 = tb f 0 := by
  unfold hasF tb
  rw [Nat.testBit_zero, Bool.eq_iff_iff]; simp; omega

/-- the flags by a result, bit by bit -/
theorem by_bits {f : Int} (f0 : 0 ≤ f) (f1 : f < 4294967296) (z s p : Bool) :
    bits .or .u32 (bits .or .u32 (bits .or .u32 (bits .andNot .u32 f 196) (flg z 64)) (flg s 128)) (flg p 4) = setF (setF (setF f 64 z) 128 s) 4 p := by
  have a1 := andNot_bd f0 f1 (b := 196) (by decide) (by decide)
  have a2 := flg_bd z 64 (by decide) (by decide)
  have a3 := or_bd a1.1 a1.2 a2.1 a2.2
  have a4 := flg_bd s 128 (by decide) (by decide)
  have a5 := or_bd a3.1 a3.2 a4.1 a4.2
  have a6 := flg_bd p 4 (by decide) (by decide)
  have a7 := or_bd a5.1 a5.2 a6.1 a6.2
  have b1 := setF_bd f0 f1 64 (by simp) z
  have b2 := setF_bd b1.1 b1.2 128 (by simp) s
  have b3 := setF_bd b2.1 b2.2 4 (by simp) p
  refine tb_ext a7.1 b3.1 fun i => ?_
  rw [tb_or a5.1 a5.2 a6.1 a6.2, tb_or a3.1 a3.2 a4.1 a4.2, tb_or a1.1 a1.2 a2.1 a2.2, tb_andNot f0 f1 (by decide) (by decide), tb_196, tb_flg64, tb_flg128, tb_flg4, tb_set4 b2.1, tb_set128 b1.1, tb_set64 f0]
  by_cases h2 : i = 2
  · subst h2; simp
  · by_cases h6 : i = 6
    · subst h6; simp
    · by_cases h7 : i = 7
      · subst h7; simp
      · simp [h2, h6, h7]

theorem marks_bits {f : Int} (f0 : 0 ≤ f) (f1 : f < 4294967296) (c a v : Bool) :
    bits .or .u32 (bits .andNot .u32 f 2065) (bits .and .u32 (mkM c a v) 2065) = setF (setF (setF f 1 c) 16 a) 2048 v := by
  have a1 := andNot_bd f0 f1 (b := 2065) (by decide) (by decide)
  have m := mkM_bd c a v
  have a2 := and_bd m.1 m.2 (b := 2065) (by decide) (by decide)
  have a3 := or_bd a1.1 a1.2 a2.1 a2.2
  have b1 := setF_bd f0 f1 1 (by simp) c
  have b2 := setF_bd b1.1 b1.2 16 (by simp) a
  have b3 := setF_bd b2.1 b2.2 2048 (by simp) v
  refine tb_ext a3.1 b3.1 fun i => ?_
  rw [tb_or a1.1 a1.2 a2.1 a2.2, tb_andNot f0 f1 (by decide) (by decide), tb_and m.1 m.2 (by decide) (by decide), tb_2065, tb_mkM, tb_set2048 b2.1, tb_set16 b1.1, tb_set1 f0]
  by_cases h2 : i = 0
  · subst h2; simp
  · by_cases h6 : i = 4
    · subst h6; simp
    · by_cases h7 : i = 11
      · subst h7; simp
      · simp [h2, h6, h7]

theorem or_marks (c a v : Bool) : bits .or .u32 (bits .or .u32 (flg c 1) (flg v 2048)) (flg a 16) = mkM c a v := by
  cases c <;> cases a <;> cases v <;> decide

theorem and_two_pow' (n j : Nat) : n &&& 2 ^ j = if n.testBit j then 2 ^ j else 0 := by
  apply Nat.eq_of_testBit_eq
  intro i
  rw [Nat.testBit_and, Nat.testBit_two_pow]
  by_cases h : j = i
  · subst h
    cases hb : n.testBit j <;> simp
  · cases hb : n.testBit j <;> simp [h]

theorem and_pow {x : Int} (x0 : 0 ≤ x) (x1 : x < 4294967296) (j : Nat) (hj : j < 32) : (bits .and .u32 x ((2 ^ j : Nat) : Int) != 0) = tb x j := by
  have hp : (2 : Nat) ^ j < 2 ^ 32 := Nat.pow_lt_pow_right (by decide) hj
  have hq : (2 : Nat) ^ 32 = 4294967296 := by decide
  have h0 : 0 < (2 : Nat) ^ j := Nat.two_pow_pos j
  rw [u32_and x _ x0 x1 (by omega) (by omega), Int.toNat_natCast, and_two_pow']
  unfold tb
  cases x.toNat.testBit j
  · simp
  · simp only [if_true, bne_iff_ne, ne_eq]
    omega

theorem Sz.top {s H M sp bt : Int} (hS : Sz s H M sp bt) : M ≤ 4294967296 ∧ M = 2 * H ∧ 128 ≤ H ∧ M % 256 = 0 := by
  unfold Sz at hS; omega

theorem tb_div (x : Int) (x0 : 0 ≤ x) (j : Nat) : tb x j = decide (x / ((2 ^ j : Nat) : Int) % 2 = 1) := by
  obtain ⟨n, rfl⟩ := Int.eq_ofNat_of_zero_le x0
  unfold tb
  rw [Int.toNat_natCast, Nat.testBit_eq_decide_div_mod_eq]
  congr 1
  rw [← Int.natCast_ediv, show (2 : Int) = ((2 : Nat) : Int) from rfl, ← Int.natCast_emod]
  simp only [eq_iff_iff]
  omega

theorem Sz.sign {s H M sp bt : Int} (hS : Sz s H M sp bt) : ∃ j : Nat, j < 32 ∧ H = ((2 ^ j : Nat) : Int) ∧ ∀ x, 0 ≤ x → x < M → tb x j = sgn H x := by
  rcases hS with ⟨rfl, rfl, rfl, rfl, rfl⟩ | ⟨rfl, rfl, rfl, rfl, rfl⟩ | ⟨rfl, rfl, rfl, rfl, rfl⟩
  · refine ⟨7, by decide, rfl, fun x h0 h1 => ?_⟩
    rw [tb_div x h0 7]; unfold sgn
    have : ((2 ^ 7 : Nat) : Int) = 128 := rfl
    rw [this, Bool.eq_iff_iff]; simp only [decide_eq_true_eq]; omega
  · refine ⟨15, by decide, rfl, fun x h0 h1 => ?_⟩
    rw [tb_div x h0 15]; unfold sgn
    have : ((2 ^ 15 : Nat) : Int) = 32768 := rfl
    rw [this, Bool.eq_iff_iff]; simp only [decide_eq_true_eq]; omega
  · refine ⟨31, by decide, rfl, fun x h0 h1 => ?_⟩
    rw [tb_div x h0 31]; unfold sgn
    have : ((2 ^ 31 : Nat) : Int) = 2147483648 := by decide
    rw [this, Bool.eq_iff_iff]; simp only [decide_eq_true_eq]; omega

theorem and_sign {s H M sp bt : Int} (hS : Sz s H M sp bt) (x : Int) (h0 : 0 ≤ x) (h1 : x < M) : (bits .and .u32 x H != 0) = sgn H x := by
  have t := hS.top
  obtain ⟨j, hj, rfl, h⟩ := hS.sign
  rw [and_pow h0 (by omega) j hj, h x h0 h1]

def addR (M x y c : Int) : Int := (x + y + c) % M
def addC (M x y c : Int) : Bool := decide (M ≤ x + y + c)
def addA (x y c : Int) : Bool := decide (15 < x % 16 + y % 16 + c)
def addV (M H x y c : Int) : Bool := (sgn H x == sgn H y) && (sgn H (addR M x y c) != sgn H x)
def addM (M H x y c : Int) : Int := mkM (addC M x y c) (addA x y c) (addV M H x y c)
def subR (M x y c : Int) : Int := (x - y - c) % M
def subC (x y c : Int) : Bool := decide (x < y + c)
def subA (x y c : Int) : Bool := decide (x % 16 < y % 16 + c)
def subV (M H x y c : Int) : Bool := (sgn H x != sgn H y) && (sgn H (subR M x y c) == sgn H y)
def subM (M H x y c : Int) : Int := mkM (subC x y c) (subA x y c) (subV M H x y c)

theorem and_15 {x : Int} (x0 : 0 ≤ x) (x1 : x < 4294967296) : bits .and .u32 x 15 = x % 16 := by
  have h := Nat.and_two_pow_sub_one_eq_mod x.toNat 4
  have e : (15 : Int).toNat = 2 ^ 4 - 1 := by decide
  rw [u32_and x 15 x0 x1 (by decide) (by decide), e, h]
  omega

theorem not_bd {x : Int} (x0 : 0 ≤ x) (x1 : x < 4294967296) (i : Nat) (hi : i < 32) : tb (bits .xor .u32 4294967295 x) i = !tb x i := by
  rw [tb_xor (by decide) (by decide) x0 x1]
  have : tb 4294967295 i = true := by
    have h := tb_not (b := 0) (by decide) (by decide) hi
    rw [show (4294967295 : Int) - 0 = 4294967295 from rfl] at h
    rw [h]; simp [tb]
  rw [this]; simp

theorem add_over {s H M sp bt x y : Int} (hS : Sz s H M sp bt) (x0 : 0 ≤ x) (x1 : x < M) (y0 : 0 ≤ y) (y1 : y < M) (c : Int) :
    (bits .and .u32 (bits .and .u32 (bits .xor .u32 4294967295 (bits .xor .u32 x y)) (bits .xor .u32 x (addR M x y c))) H != 0) = addV M H x y c := by
  have t := hS.top
  have r0 : 0 ≤ addR M x y c := Int.emod_nonneg _ (by omega)
  have r1 : addR M x y c < M := Int.emod_lt_of_pos _ (by omega)
  unfold addV
  revert r0 r1
  generalize addR M x y c = r
  intro r0 r1
  obtain ⟨j, hj, rfl, h⟩ := hS.sign
  have a1 := xor_bd x0 (by omega) y0 (by omega : y < 4294967296)
  have a2 := xor_bd (by decide) (by decide) a1.1 a1.2 (a := 4294967295)
  have a3 := xor_bd x0 (by omega) r0 (by omega : r < 4294967296)
  have a4 := and_bd a2.1 a2.2 a3.1 a3.2
  rw [and_pow a4.1 a4.2 j hj, tb_and a2.1 a2.2 a3.1 a3.2, not_bd a1.1 a1.2 j hj, tb_xor x0 (by omega) y0 (by omega), tb_xor x0 (by omega) r0 (by omega), h x x0 x1, h y y0 y1, h r r0 r1]
  cases sgn ((2 ^ j : Nat) : Int) x <;> cases sgn ((2 ^ j : Nat) : Int) y <;> cases sgn ((2 ^ j : Nat) : Int) r <;> rfl

theorem sub_over {s H M sp bt x y : Int} (hS : Sz s H M sp bt) (x0 : 0 ≤ x) (x1 : x < M) (y0 : 0 ≤ y) (y1 : y < M) (c : Int) :
    (bits .and .u32 (bits .and .u32 (bits .xor .u32 x y) (bits .xor .u32 x (subR M x y c))) H != 0) = subV M H x y c := by
  have t := hS.top
  have r0 : 0 ≤ subR M x y c := Int.emod_nonneg _ (by omega)
  have r1 : subR M x y c < M := Int.emod_lt_of_pos _ (by omega)
  unfold subV
  revert r0 r1
  generalize subR M x y c = r
  intro r0 r1
  obtain ⟨j, hj, rfl, h⟩ := hS.sign
  have a1 := xor_bd x0 (by omega) y0 (by omega : y < 4294967296)
  have a3 := xor_bd x0 (by omega) r0 (by omega : r < 4294967296)
  have a4 := and_bd a1.1 a1.2 a3.1 a3.2
  rw [and_pow a4.1 a4.2 j hj, tb_and a1.1 a1.2 a3.1 a3.2, tb_xor x0 (by omega) y0 (by omega), tb_xor x0 (by omega) r0 (by omega), h x x0 x1, h y y0 y1, h r r0 r1]
  cases sgn ((2 ^ j : Nat) : Int) x <;> cases sgn ((2 ^ j : Nat) : Int) y <;> cases sgn ((2 ^ j : Nat) : Int) r <;> rfl

theorem add_carry {M x y c : Int} (x0 : 0 ≤ x) (x1 : x < M) (y0 : 0 ≤ y) (y1 : y < M) (c0 : 0 ≤ c) (c1 : c ≤ 1) : (x + y + c != (x + y + c) % M) = decide (M ≤ x + y + c) := by
  have r1 : (x + y + c) % M < M := Int.emod_lt_of_pos _ (by omega)
  by_cases h : M ≤ x + y + c
  · simp only [h, decide_true, bne_iff_ne, ne_eq]; omega
  · rw [Int.emod_eq_of_lt (by omega) (by omega)]; simp [h]
end Go.Proofs.Ytmmnnafjikilpaa

/- Plain facts on what the operations of layer 1 come to, result and flags: no Go text in sight; each under the bounds that it names. -/
namespace Go.Proofs.Ytmmnnafjikilpaa
open Go.RowKit
set_option linter.unusedVariables false

theorem wrap_u64' (n : Int) : IntKind.u64.wrap n = n % 18446744073709551616 := rfl

def okSize (s : Int) : Bool := s == 1 || s == 2 || s == 4

def namedF (op : Int) : Int := if op = 9 ∨ op = 10 then 2064 else 2065

def workR (op M x y c : Int) : Int :=
  if op = 9 then addR M x 1 0 else if op = 0 then addR M x y 0 else if op = 2 then addR M x y c else if op = 11 then subR M 0 x 0 else if op = 10 then subR M x 1 0
  else if op = 5 then subR M x y 0 else if op = 7 then subR M x y 0 else if op = 3 then subR M x y c else if op = 1 then bits .or .u32 x y else if op = 6 then bits .xor .u32 x y else bits .and .u32 x y

def workM (op M H x y c : Int) : Int :=
  if op = 9 then addM M H x 1 0 else if op = 0 then addM M H x y 0 else if op = 2 then addM M H x y c else if op = 11 then subM M H 0 x 0 else if op = 10 then subM M H x 1 0
  else if op = 5 then subM M H x y 0 else if op = 7 then subM M H x y 0 else if op = 3 then subM M H x y c else 0

theorem Sz_of {s : Int} (h : okSize s = true) : ∃ H M sp bt, Sz s H M sp bt := by
  unfold okSize at h
  simp only [Bool.or_eq_true, beq_iff_eq] at h
  rcases h with (rfl | rfl) | rfl
  · exact ⟨128, 256, 24, 8, Or.inl ⟨rfl, rfl, rfl, rfl, rfl⟩⟩
  · exact ⟨32768, 65536, 16, 16, Or.inr (Or.inl ⟨rfl, rfl, rfl, rfl, rfl⟩)⟩
  · exact ⟨2147483648, 4294967296, 0, 32, Or.inr (Or.inr ⟨rfl, rfl, rfl, rfl, rfl⟩)⟩

theorem Sz.ok {s H M sp bt : Int} (hS : Sz s H M sp bt) : okSize s = true := by
  rcases hS with ⟨rfl, rfl, rfl, rfl, rfl⟩ | ⟨rfl, rfl, rfl, rfl, rfl⟩ | ⟨rfl, rfl, rfl, rfl, rfl⟩ <;> rfl

theorem mod_bd {M : Int} (m : 0 < M) (a : Int) : 0 ≤ a % M ∧ a % M < M := ⟨Int.emod_nonneg _ (by omega), Int.emod_lt_of_pos _ m⟩

theorem bits_lt {s H M sp bt x y : Int} (hS : Sz s H M sp bt) (x0 : 0 ≤ x) (x1 : x < M) (y0 : 0 ≤ y) (y1 : y < M) :
    (0 ≤ bits .or .u32 x y ∧ bits .or .u32 x y < M) ∧ (0 ≤ bits .xor .u32 x y ∧ bits .xor .u32 x y < M) ∧ (0 ≤ bits .and .u32 x y ∧ bits .and .u32 x y < M) := by
  have mt := hS.top.1
  rw [u32_or x y x0 (by omega) y0 (by omega), u32_xor x y x0 (by omega) y0 (by omega), u32_and x y x0 (by omega) y0 (by omega)]
  rcases hS with ⟨rfl, rfl, rfl, rfl, rfl⟩ | ⟨rfl, rfl, rfl, rfl, rfl⟩ | ⟨rfl, rfl, rfl, rfl, rfl⟩
  · have a := Nat.or_lt_two_pow (n := 8) (x := x.toNat) (y := y.toNat) (by omega) (by omega)
    have b := Nat.xor_lt_two_pow (n := 8) (x := x.toNat) (y := y.toNat) (by omega) (by omega)
    have c := Nat.and_lt_two_pow (n := 8) x.toNat (y := y.toNat) (by omega)
    omega
  · have a := Nat.or_lt_two_pow (n := 16) (x := x.toNat) (y := y.toNat) (by omega) (by omega)
    have b := Nat.xor_lt_two_pow (n := 16) (x := x.toNat) (y := y.toNat) (by omega) (by omega)
    have c := Nat.and_lt_two_pow (n := 16) x.toNat (y := y.toNat) (by omega)
    omega
  · have a := lt32_or (a := x.toNat) (b := y.toNat) (by omega) (by omega)
    have b := lt32_xor (a := x.toNat) (b := y.toNat) (by omega) (by omega)
    have c := lt32_and (a := x.toNat) (b := y.toNat) (by omega)
    omega

theorem workR_bd {s H M sp bt x y : Int} (hS : Sz s H M sp bt) (x0 : 0 ≤ x) (x1 : x < M) (y0 : 0 ≤ y) (y1 : y < M) (op c : Int) : 0 ≤ workR op M x y c ∧ workR op M x y c < M := by
  have m0 : 0 < M := by have := hS.top; omega
  have b := bits_lt hS x0 x1 y0 y1
  unfold workR addR subR
  repeat' split
  all_goals first | exact mod_bd m0 _ | exact b.1 | exact b.2.1 | exact b.2.2

theorem workM_bd (op M H x y c : Int) : 0 ≤ workM op M H x y c ∧ workM op M H x y c < 4294967296 := by
  unfold workM addM subM
  repeat' split
  all_goals first | exact mkM_bd _ _ _ | decide

theorem namedF_bd (op : Int) : 0 ≤ namedF op ∧ namedF op < 4294967296 := by unfold namedF; split <;> decide

def layF (op M H x y f : Int) : Int := bits .or .u32 (bits .andNot .u32 f (namedF op)) (bits .and .u32 (workM op M H x y (f % 2)) (namedF op))

def doR (op M x y f : Int) : Int := if op = 12 then M - 1 - x else if op = 7 then x else if op = 8 then x else workR op M x y (f % 2)

def doF (op M H x y f : Int) : Int := if op = 12 then f else byF H (workR op M x y (f % 2)) (layF op M H x y f)

theorem lay_bd (op M H x y c : Int) {f : Int} (f0 : 0 ≤ f) (f1 : f < 4294967296) :
    0 ≤ bits .or .u32 (bits .andNot .u32 f (namedF op)) (bits .and .u32 (workM op M H x y c) (namedF op)) ∧ bits .or .u32 (bits .andNot .u32 f (namedF op)) (bits .and .u32 (workM op M H x y c) (namedF op)) < 4294967296 := by
  have hM := workM_bd op M H x y c
  have hN := namedF_bd op
  have hA1 := andNot_bd f0 f1 hN.1 hN.2
  have hA2 := and_bd hM.1 hM.2 hN.1 hN.2
  exact or_bd hA1.1 hA1.2 hA2.1 hA2.2

theorem xor_all {x : Int} (x0 : 0 ≤ x) (x1 : x < 4294967296) : bits .xor .u32 4294967295 x = 4294967295 - x := by
  have b := xor_bd (a := 4294967295) (by decide) (by decide) x0 x1
  refine tb_ext b.1 (by omega) fun i => ?_
  by_cases hi : i < 32
  · rw [not_bd x0 x1 i hi, tb_not x0 x1 hi]
  · rw [tb_high b.2 (by omega), tb_high (by omega) (by omega)]

theorem not_cut {s H M sp bt x : Int} (hS : Sz s H M sp bt) (x0 : 0 ≤ x) (x1 : x < M) : IntKind.u64.wrap (bits .xor .u32 4294967295 x) % M = M - 1 - x := by
  have mt := hS.top.1
  rw [xor_all x0 (by omega), wrap_u64']
  rcases hS with ⟨rfl, rfl, rfl, rfl, rfl⟩ | ⟨rfl, rfl, rfl, rfl, rfl⟩ | ⟨rfl, rfl, rfl, rfl, rfl⟩ <;> omega

def isFlag (k : Int) : Prop := k = 1 ∨ k = 4 ∨ k = 16 ∨ k = 64 ∨ k = 128 ∨ k = 2048

theorem bd1 {f : Int} (f0 : 0 ≤ f) (f1 : f < 4294967296) (k : Int) (hk : isFlag k) (b : Bool) : 0 ≤ setF f k b ∧ setF f k b < 4294967296 := setF_bd f0 f1 k hk b

theorem bd2 {f : Int} (f0 : 0 ≤ f) (f1 : f < 4294967296) (k l : Int) (hk : isFlag k) (hl : isFlag l) (b c : Bool) : 0 ≤ setF (setF f k b) l c ∧ setF (setF f k b) l c < 4294967296 :=
  setF_bd (bd1 f0 f1 k hk b).1 (bd1 f0 f1 k hk b).2 l hl c

theorem bd3 {f : Int} (f0 : 0 ≤ f) (f1 : f < 4294967296) (k l m : Int) (hk : isFlag k) (hl : isFlag l) (hm : isFlag m) (b c d : Bool) : 0 ≤ setF (setF (setF f k b) l c) m d ∧ setF (setF (setF f k b) l c) m d < 4294967296 :=
  setF_bd (bd2 f0 f1 k l hk hl b c).1 (bd2 f0 f1 k l hk hl b c).2 m hm d

theorem byF_bd {f : Int} (f0 : 0 ≤ f) (f1 : f < 4294967296) (H n : Int) : 0 ≤ byF H n f ∧ byF H n f < 4294967296 :=
  bd3 f0 f1 64 128 4 (by simp [isFlag]) (by simp [isFlag]) (by simp [isFlag]) _ _ _

theorem fl1 : isFlag 1 := by simp [isFlag]

theorem fl4 : isFlag 4 := by simp [isFlag]

theorem fl16 : isFlag 16 := by simp [isFlag]

theorem fl64 : isFlag 64 := by simp [isFlag]

theorem fl128 : isFlag 128 := by simp [isFlag]

theorem fl2048 : isFlag 2048 := by simp [isFlag]

def addF (M H x y c f : Int) : Int := byF H (addR M x y c) (setF (setF (setF f 1 (addC M x y c)) 16 (addA x y c)) 2048 (addV M H x y c))

def subF (M H x y c f : Int) : Int := byF H (subR M x y c) (setF (setF (setF f 1 (subC x y c)) 16 (subA x y c)) 2048 (subV M H x y c))

def logF (H r f : Int) : Int := byF H r (setF (setF (setF f 1 false) 2048 false) 16 false)

theorem bits64 {x y : Int} (x0 : 0 ≤ x) (x1 : x < 4294967296) (y0 : 0 ≤ y) (y1 : y < 4294967296) :
    bits .or .u64 x y = bits .or .u32 x y ∧ bits .xor .u64 x y = bits .xor .u32 x y ∧ bits .and .u64 x y = bits .and .u32 x y := by
  rw [u32_or x y x0 x1 y0 y1, u32_xor x y x0 x1 y0 y1, u32_and x y x0 x1 y0 y1, u64_or x y x0 (by omega) y0 (by omega), u64_xor x y x0 (by omega) y0 (by omega), u64_and x y x0 (by omega) y0 (by omega)]
  exact ⟨rfl, rfl, rfl⟩

theorem lay_add {f : Int} (f0 : 0 ≤ f) (f1 : f < 4294967296) (M H x y c : Int) :
    byF H (addR M x y c) (bits .or .u32 (bits .andNot .u32 f 2065) (bits .and .u32 (addM M H x y c) 2065)) = addF M H x y c f := by
  unfold addM addF; rw [marks_bits f0 f1]

theorem lay_sub {f : Int} (f0 : 0 ≤ f) (f1 : f < 4294967296) (M H x y c : Int) :
    byF H (subR M x y c) (bits .or .u32 (bits .andNot .u32 f 2065) (bits .and .u32 (subM M H x y c) 2065)) = subF M H x y c f := by
  unfold subM subF; rw [marks_bits f0 f1]

theorem swap_flags {f : Int} (f0 : 0 ≤ f) (f1 : f < 4294967296) : setF (setF (setF f 1 false) 16 false) 2048 false = setF (setF (setF f 1 false) 2048 false) 16 false := by
  refine tb_ext (bd3 f0 f1 _ _ _ fl1 fl16 fl2048 _ _ _).1 (bd3 f0 f1 _ _ _ fl1 fl2048 fl16 _ _ _).1 fun i => ?_
  rw [tb_set2048 (bd2 f0 f1 _ _ fl1 fl16 _ _).1, tb_set16 (bd1 f0 f1 _ fl1 _).1, tb_set1 f0, tb_set16 (bd2 f0 f1 _ _ fl1 fl2048 _ _).1, tb_set2048 (bd1 f0 f1 _ fl1 _).1, tb_set1 f0]
  by_cases h4 : i = 4
  · subst h4; simp
  · simp [h4]

theorem lay_log {f : Int} (f0 : 0 ≤ f) (f1 : f < 4294967296) (H r : Int) :
    byF H r (bits .or .u32 (bits .andNot .u32 f 2065) (bits .and .u32 0 2065)) = logF H r f := by
  have h := marks_bits f0 f1 false false false
  rw [show mkM false false false = 0 from rfl] at h
  rw [h, swap_flags f0 f1]; rfl

theorem marks_keep {f : Int} (f0 : 0 ≤ f) (f1 : f < 4294967296) (c a v : Bool) (H r : Int) :
    byF H r (bits .or .u32 (bits .andNot .u32 f 2064) (bits .and .u32 (mkM c a v) 2064)) = setF (byF H r (setF (setF (setF f 1 c) 16 a) 2048 v)) 1 (hasF f 1) := by
  have a1 := andNot_bd f0 f1 (b := 2064) (by decide) (by decide)
  have m := mkM_bd c a v
  have a2 := and_bd m.1 m.2 (b := 2064) (by decide) (by decide)
  have a3 := or_bd a1.1 a1.2 a2.1 a2.2
  have b3 := bd3 f0 f1 _ _ _ fl1 fl16 fl2048 c a v
  have b6 := byF_bd b3.1 b3.2 H r
  have l6 := byF_bd a3.1 a3.2 H r
  refine tb_ext l6.1 (bd1 b6.1 b6.2 _ fl1 _).1 fun i => ?_
  rw [tb_set1 b6.1, hasF_1 f0]
  unfold byF
  rw [tb_set4 (bd2 a3.1 a3.2 _ _ fl64 fl128 _ _).1, tb_set128 (bd1 a3.1 a3.2 _ fl64 _).1, tb_set64 a3.1, tb_or a1.1 a1.2 a2.1 a2.2, tb_andNot f0 f1 (by decide) (by decide), tb_and m.1 m.2 (by decide) (by decide), tb_2064, tb_mkM,
    tb_set4 (bd2 b3.1 b3.2 _ _ fl64 fl128 _ _).1, tb_set128 (bd1 b3.1 b3.2 _ fl64 _).1, tb_set64 b3.1, tb_set2048 (bd2 f0 f1 _ _ fl1 fl16 _ _).1, tb_set16 (bd1 f0 f1 _ fl1 _).1, tb_set1 f0]
  by_cases h0 : i = 0
  · subst h0; simp
  · by_cases h4 : i = 4
    · subst h4; simp
    · by_cases h11 : i = 11
      · subst h11; simp
      · simp [h0, h4, h11]

theorem lay_inc {f : Int} (f0 : 0 ≤ f) (f1 : f < 4294967296) (M H x y c : Int) :
    byF H (addR M x y c) (bits .or .u32 (bits .andNot .u32 f 2064) (bits .and .u32 (addM M H x y c) 2064)) = setF (addF M H x y c f) 1 (hasF f 1) := by
  unfold addM addF; rw [marks_keep f0 f1]

theorem lay_dec {f : Int} (f0 : 0 ≤ f) (f1 : f < 4294967296) (M H x y c : Int) :
    byF H (subR M x y c) (bits .or .u32 (bits .andNot .u32 f 2064) (bits .and .u32 (subM M H x y c) 2064)) = setF (subF M H x y c f) 1 (hasF f 1) := by
  unfold subM subF; rw [marks_keep f0 f1]

theorem addF_bd {f : Int} (f0 : 0 ≤ f) (f1 : f < 4294967296) (M H x y c : Int) : 0 ≤ addF M H x y c f ∧ addF M H x y c f < 4294967296 :=
  byF_bd (bd3 f0 f1 _ _ _ fl1 fl16 fl2048 _ _ _).1 (bd3 f0 f1 _ _ _ fl1 fl16 fl2048 _ _ _).2 _ _

theorem subF_bd {f : Int} (f0 : 0 ≤ f) (f1 : f < 4294967296) (M H x y c : Int) : 0 ≤ subF M H x y c f ∧ subF M H x y c f < 4294967296 :=
  byF_bd (bd3 f0 f1 _ _ _ fl1 fl16 fl2048 _ _ _).1 (bd3 f0 f1 _ _ _ fl1 fl16 fl2048 _ _ _).2 _ _

/-- what each operation is, flags and all, in the document's words -/
theorem doF_is {f : Int} (f0 : 0 ≤ f) (f1 : f < 4294967296) (M H x y : Int) :
    doF 0 M H x y f = addF M H x y 0 f ∧ doF 2 M H x y f = addF M H x y (f % 2) f ∧ doF 5 M H x y f = subF M H x y 0 f ∧ doF 3 M H x y f = subF M H x y (f % 2) f ∧ doF 7 M H x y f = subF M H x y 0 f ∧
    doF 1 M H x y f = logF H (bits .or .u32 x y) f ∧ doF 4 M H x y f = logF H (bits .and .u32 x y) f ∧ doF 6 M H x y f = logF H (bits .xor .u32 x y) f ∧ doF 8 M H x y f = logF H (bits .and .u32 x y) f ∧
    doF 9 M H x y f = setF (addF M H x 1 0 f) 1 (hasF f 1) ∧ doF 10 M H x y f = setF (subF M H x 1 0 f) 1 (hasF f 1) ∧ doF 11 M H x y f = subF M H 0 x 0 f ∧ doF 12 M H x y f = f :=
  ⟨lay_add f0 f1 M H x y 0, lay_add f0 f1 M H x y _, lay_sub f0 f1 M H x y 0, lay_sub f0 f1 M H x y _, lay_sub f0 f1 M H x y 0, lay_log f0 f1 H _, lay_log f0 f1 H _, lay_log f0 f1 H _, lay_log f0 f1 H _, lay_inc f0 f1 M H x 1 0, lay_dec f0 f1 M H x 1 0, lay_sub f0 f1 M H 0 x 0, rfl⟩

theorem doR_bd {s H M sp bt x y : Int} (hS : Sz s H M sp bt) (x0 : 0 ≤ x) (x1 : x < M) (y0 : 0 ≤ y) (y1 : y < M) (op f : Int) : 0 ≤ doR op M x y f ∧ doR op M x y f < M := by
  have h := workR_bd hS x0 x1 y0 y1 op (f % 2)
  unfold doR
  repeat' split
  · omega
  · omega
  · omega
  · exact h

theorem or_self' {x : Int} (x0 : 0 ≤ x) (x1 : x < 4294967296) : bits .or .u32 x x = x := by
  rw [u32_or x x x0 x1 x0 x1, Nat.or_self]; omega

theorem xor_back {x y : Int} (x0 : 0 ≤ x) (x1 : x < 4294967296) (y0 : 0 ≤ y) (y1 : y < 4294967296) : bits .xor .u32 (bits .xor .u32 x y) y = x := by
  have b := xor_bd x0 x1 y0 y1
  rw [u32_xor _ y b.1 b.2 y0 y1, u32_xor x y x0 x1 y0 y1, Int.toNat_natCast, Nat.xor_assoc, Nat.xor_self, Nat.xor_zero]; omega

theorem back_or {s H M sp bt x : Int} (hS : Sz s H M sp bt) (x0 : 0 ≤ x) (x1 : x < M) (f : Int) : doR 1 M x x f = x := by
  have mt := hS.top.1
  show bits .or .u32 x x = x
  exact or_self' x0 (by omega)

theorem back_add {s H M sp bt x y : Int} (hS : Sz s H M sp bt) (x0 : 0 ≤ x) (x1 : x < M) (y0 : 0 ≤ y) (y1 : y < M) (f : Int) : doR 5 M (doR 0 M x y f % M) y f = x := by
  show subR M (addR M x y 0 % M) y 0 = x
  unfold subR addR
  rcases hS with ⟨rfl, rfl, rfl, rfl, rfl⟩ | ⟨rfl, rfl, rfl, rfl, rfl⟩ | ⟨rfl, rfl, rfl, rfl, rfl⟩ <;> omega

theorem back_adc {s H M sp bt x y : Int} (hS : Sz s H M sp bt) (x0 : 0 ≤ x) (x1 : x < M) (y0 : 0 ≤ y) (y1 : y < M) (f : Int) : doR 3 M (doR 2 M x y f % M) y f = x := by
  show subR M (addR M x y (f % 2) % M) y (f % 2) = x
  unfold subR addR
  rcases hS with ⟨rfl, rfl, rfl, rfl, rfl⟩ | ⟨rfl, rfl, rfl, rfl, rfl⟩ | ⟨rfl, rfl, rfl, rfl, rfl⟩ <;> omega

theorem back_xor {s H M sp bt x y : Int} (hS : Sz s H M sp bt) (x0 : 0 ≤ x) (x1 : x < M) (y0 : 0 ≤ y) (y1 : y < M) (f : Int) : doR 6 M (doR 6 M x y f % M) y f = x := by
  have mt := hS.top.1
  have b := bits_lt hS x0 x1 y0 y1
  show bits .xor .u32 (bits .xor .u32 x y % M) y = x
  rw [Int.emod_eq_of_lt b.2.1.1 b.2.1.2]
  exact xor_back x0 (by omega) y0 (by omega)

theorem back_not {s H M sp bt x : Int} (hS : Sz s H M sp bt) (x0 : 0 ≤ x) (x1 : x < M) (y f : Int) : doR 12 M (doR 12 M x y f % M) y f = x := by
  show M - 1 - (M - 1 - x) % M = x
  rw [Int.emod_eq_of_lt (by omega) (by omega)]; omega

theorem back_neg {s H M sp bt x : Int} (hS : Sz s H M sp bt) (x0 : 0 ≤ x) (x1 : x < M) (y f : Int) : doR 11 M (doR 11 M x y f % M) y f = x := by
  show subR M 0 (subR M 0 x 0 % M) 0 = x
  unfold subR
  rcases hS with ⟨rfl, rfl, rfl, rfl, rfl⟩ | ⟨rfl, rfl, rfl, rfl, rfl⟩ | ⟨rfl, rfl, rfl, rfl, rfl⟩ <;> omega

theorem back_inc {s H M sp bt x : Int} (hS : Sz s H M sp bt) (x0 : 0 ≤ x) (x1 : x < M) (y f : Int) : doR 10 M (doR 9 M x y f % M) y f = x := by
  show subR M (addR M x 1 0 % M) 1 0 = x
  unfold subR addR
  rcases hS with ⟨rfl, rfl, rfl, rfl, rfl⟩ | ⟨rfl, rfl, rfl, rfl, rfl⟩ | ⟨rfl, rfl, rfl, rfl, rfl⟩ <;> omega

theorem hasF_tb {f : Int} (f0 : 0 ≤ f) (j : Nat) : hasF f ((2 ^ j : Nat) : Int) = tb f j := by
  rw [tb_div f f0 j]; unfold hasF; rw [Bool.eq_iff_iff]; simp

theorem has_by {f : Int} (f0 : 0 ≤ f) (f1 : f < 4294967296) (H r : Int) (c a v : Bool) :
    hasF (byF H r (setF (setF (setF f 1 c) 16 a) 2048 v)) 1 = c ∧ hasF (byF H r (setF (setF (setF f 1 c) 16 a) 2048 v)) 64 = (r == 0) ∧
    hasF (byF H r (setF (setF (setF f 1 c) 16 a) 2048 v)) 128 = sgn H r ∧ hasF (byF H r (setF (setF (setF f 1 c) 16 a) 2048 v)) 2048 = v := by
  have b3 := bd3 f0 f1 _ _ _ fl1 fl16 fl2048 c a v
  have b6 := byF_bd b3.1 b3.2 H r
  have t : ∀ i, tb (byF H r (setF (setF (setF f 1 c) 16 a) 2048 v)) i = if i = 2 then par r else if i = 7 then sgn H r else if i = 6 then (r == 0) else if i = 11 then v else if i = 4 then a else if i = 0 then c else tb f i := fun i => by
    unfold byF
    rw [tb_set4 (bd2 b3.1 b3.2 _ _ fl64 fl128 _ _).1, tb_set128 (bd1 b3.1 b3.2 _ fl64 _).1, tb_set64 b3.1, tb_set2048 (bd2 f0 f1 _ _ fl1 fl16 _ _).1, tb_set16 (bd1 f0 f1 _ fl1 _).1, tb_set1 f0]
  exact ⟨(hasF_tb b6.1 0).trans (t 0), (hasF_tb b6.1 6).trans (t 6), (hasF_tb b6.1 7).trans (t 7), (hasF_tb b6.1 11).trans (t 11)⟩

def sgv (M H x : Int) : Int := if x < H then x else x - M

theorem sign_order {M H x y : Int} (h2 : M = 2 * H) (x0 : 0 ≤ x) (x1 : x < M) (y0 : 0 ≤ y) (y1 : y < M) :
    (sgn H (subR M x y 0) != subV M H x y 0) = decide (sgv M H x < sgv M H y) := by
  have hr : (x < y ∧ subR M x y 0 = x - y + M) ∨ (¬ x < y ∧ subR M x y 0 = x - y) := by
    unfold subR
    by_cases h : x < y
    · left
      refine ⟨h, ?_⟩
      rw [Int.sub_zero, ← Int.add_emod_right, Int.emod_eq_of_lt (by omega) (by omega)]
    · right
      refine ⟨h, ?_⟩
      rw [Int.sub_zero, Int.emod_eq_of_lt (by omega) (by omega)]
  unfold subV sgv sgn
  generalize subR M x y 0 = r at *
  by_cases hx : H ≤ x <;> by_cases hy : H ≤ y <;> by_cases hz : H ≤ r
  all_goals
    simp only [hx, hy, hz, decide_true, decide_false, bne_self_eq_false, Bool.false_and, Bool.true_and, Bool.bne_false, Bool.bne_true, beq_self_eq_true, Bool.not_false, Bool.true_bne, Bool.false_bne]
    rw [Bool.eq_iff_iff]
    simp
    repeat' split
    all_goals omega

theorem orders {s H M sp bt x y f : Int} (hS : Sz s H M sp bt) (x0 : 0 ≤ x) (x1 : x < M) (y0 : 0 ≤ y) (y1 : y < M) (f0 : 0 ≤ f) (f1 : f < 4294967296) :
    hasF (doF 7 M H x y f) 1 = decide (x < y) ∧ hasF (doF 7 M H x y f) 64 = (x == y) ∧ (hasF (doF 7 M H x y f) 128 != hasF (doF 7 M H x y f) 2048) = decide (sgv M H x < sgv M H y) := by
  have hD := doF_is f0 f1 M H x y
  have h := has_by f0 f1 H (subR M x y 0) (subC x y 0) (subA x y 0) (subV M H x y 0)
  rw [hD.2.2.2.2.1]
  unfold subF
  rw [h.1, h.2.1, h.2.2.1, h.2.2.2]
  have t := hS.top
  refine ⟨?_, ?_, ?_⟩
  · unfold subC; rw [Int.add_zero]
  · unfold subR
    rw [Bool.eq_iff_iff]
    simp only [beq_iff_eq]
    rcases hS with ⟨rfl, rfl, rfl, rfl, rfl⟩ | ⟨rfl, rfl, rfl, rfl, rfl⟩ | ⟨rfl, rfl, rfl, rfl, rfl⟩ <;> omega
  · exact sign_order t.2.1 x0 x1 y0 y1

theorem sgn_half (x : Int) (x0 : 0 ≤ x) : sgn 32768 (x / 65536) = sgn 2147483648 x := by
  unfold sgn; rw [Bool.eq_iff_iff]; simp only [decide_eq_true_eq]; omega

theorem carry_of {g : Int} (g0 : 0 ≤ g) {c : Bool} (h : hasF g 1 = c) : g % 2 = if c = true then 1 else 0 := by
  unfold hasF at h
  subst h
  simp only [beq_iff_eq, Int.ediv_one]
  split <;> omega

theorem doF_bd {f : Int} (f0 : 0 ≤ f) (f1 : f < 4294967296) (op M H x y : Int) : 0 ≤ doF op M H x y f ∧ doF op M H x y f < 4294967296 := by
  unfold doF
  split
  · exact ⟨f0, f1⟩
  · exact byF_bd (lay_bd op M H x y (f % 2) f0 f1).1 (lay_bd op M H x y (f % 2) f0 f1).2 _ _

theorem parts_sum {a b f : Int} (a0 : 0 ≤ a) (a1 : a < 4294967296) (b0 : 0 ≤ b) (b1 : b < 4294967296) (f0 : 0 ≤ f) (f1 : f < 4294967296) :
    doR 0 4294967296 a b f = (doR 2 65536 (a / 65536) (b / 65536) (doF 0 65536 32768 (a % 65536) (b % 65536) f) * 65536 + doR 0 65536 (a % 65536) (b % 65536) f) % 4294967296 ∧
    hasF (doF 0 4294967296 2147483648 a b f) 1 = hasF (doF 2 65536 32768 (a / 65536) (b / 65536) (doF 0 65536 32768 (a % 65536) (b % 65536) f)) 1 ∧
    hasF (doF 0 4294967296 2147483648 a b f) 2048 = hasF (doF 2 65536 32768 (a / 65536) (b / 65536) (doF 0 65536 32768 (a % 65536) (b % 65536) f)) 2048 := by
  have bF := doF_bd f0 f1 0 65536 32768 (a % 65536) (b % 65536)
  have hF : hasF (doF 0 65536 32768 (a % 65536) (b % 65536) f) 1 = addC 65536 (a % 65536) (b % 65536) 0 := by
    rw [(doF_is f0 f1 65536 32768 (a % 65536) (b % 65536)).1]; exact (has_by f0 f1 _ _ _ _ _).1
  have c := carry_of bF.1 hF
  generalize hg : doF 0 65536 32768 (a % 65536) (b % 65536) f = g at *
  rw [(doF_is f0 f1 4294967296 2147483648 a b).1, (doF_is bF.1 bF.2 65536 32768 (a / 65536) (b / 65536)).2.1]
  unfold addF
  rw [(has_by f0 f1 _ _ _ _ _).1, (has_by f0 f1 _ _ _ _ _).2.2.2, (has_by bF.1 bF.2 _ _ _ _ _).1, (has_by bF.1 bF.2 _ _ _ _ _).2.2.2]
  clear hg hF bF
  have hc : g % 2 = (a % 65536 + b % 65536) / 65536 := by
    rw [c]; unfold addC; simp only [decide_eq_true_eq]; split <;> omega
  have hr : addR 65536 (a / 65536) (b / 65536) (g % 2) = addR 4294967296 a b 0 / 65536 := by
    unfold addR; rw [hc]; omega
  refine ⟨?_, ?_, ?_⟩
  · show addR 4294967296 a b 0 = (addR 65536 (a / 65536) (b / 65536) (g % 2) * 65536 + addR 65536 (a % 65536) (b % 65536) 0) % 4294967296
    rw [hr]; unfold addR; omega
  · unfold addC; rw [hc, Bool.eq_iff_iff]; simp only [decide_eq_true_eq]; omega
  · unfold addV
    rw [hr, sgn_half a a0, sgn_half b b0, sgn_half (addR 4294967296 a b 0) (mod_bd (by decide) _).1]

theorem parts_diff {a b f : Int} (a0 : 0 ≤ a) (a1 : a < 4294967296) (b0 : 0 ≤ b) (b1 : b < 4294967296) (f0 : 0 ≤ f) (f1 : f < 4294967296) :
    doR 5 4294967296 a b f = (doR 3 65536 (a / 65536) (b / 65536) (doF 5 65536 32768 (a % 65536) (b % 65536) f) * 65536 + doR 5 65536 (a % 65536) (b % 65536) f) % 4294967296 ∧
    hasF (doF 5 4294967296 2147483648 a b f) 1 = hasF (doF 3 65536 32768 (a / 65536) (b / 65536) (doF 5 65536 32768 (a % 65536) (b % 65536) f)) 1 ∧
    hasF (doF 5 4294967296 2147483648 a b f) 2048 = hasF (doF 3 65536 32768 (a / 65536) (b / 65536) (doF 5 65536 32768 (a % 65536) (b % 65536) f)) 2048 := by
  have bF := doF_bd f0 f1 5 65536 32768 (a % 65536) (b % 65536)
  have hF : hasF (doF 5 65536 32768 (a % 65536) (b % 65536) f) 1 = subC (a % 65536) (b % 65536) 0 := by
    rw [(doF_is f0 f1 65536 32768 (a % 65536) (b % 65536)).2.2.1]; exact (has_by f0 f1 _ _ _ _ _).1
  have c := carry_of bF.1 hF
  generalize hg : doF 5 65536 32768 (a % 65536) (b % 65536) f = g at *
  rw [(doF_is f0 f1 4294967296 2147483648 a b).2.2.1, (doF_is bF.1 bF.2 65536 32768 (a / 65536) (b / 65536)).2.2.2.1]
  unfold subF
  rw [(has_by f0 f1 _ _ _ _ _).1, (has_by f0 f1 _ _ _ _ _).2.2.2, (has_by bF.1 bF.2 _ _ _ _ _).1, (has_by bF.1 bF.2 _ _ _ _ _).2.2.2]
  clear hg hF bF
  have hc : g % 2 = if a % 65536 < b % 65536 then 1 else 0 := by
    rw [c]; unfold subC; simp only [decide_eq_true_eq, Int.add_zero]
  clear c
  have hr : subR 65536 (a / 65536) (b / 65536) (g % 2) = subR 4294967296 a b 0 / 65536 := by
    unfold subR; rw [hc]; split <;> omega
  refine ⟨?_, ?_, ?_⟩
  · show subR 4294967296 a b 0 = (subR 65536 (a / 65536) (b / 65536) (g % 2) * 65536 + subR 65536 (a % 65536) (b % 65536) 0) % 4294967296
    rw [hr]; unfold subR; omega
  · unfold subC; rw [hc, Bool.eq_iff_iff]; simp only [decide_eq_true_eq]; split <;> omega
  · unfold subV
    rw [hr, sgn_half a a0, sgn_half b b0, sgn_half (subR 4294967296 a b 0) (mod_bd (by decide) _).1]

theorem lt32 {s H M sp bt x : Int} (hS : Sz s H M sp bt) (h : 0 ≤ x ∧ x < M) : 0 ≤ x ∧ x < 4294967296 := ⟨h.1, by have := hS.top; omega⟩

theorem wrap_i8' (n : Int) : IntKind.i8.wrap n = (n + 128) % 256 - 128 := by
  simp only [IntKind.wrap, IntKind.bits, IntKind.signed, Bool.true_and]
  split <;> simp_all <;> omega

theorem wrap_i16' (n : Int) : IntKind.i16.wrap n = (n + 32768) % 65536 - 32768 := by
  simp only [IntKind.wrap, IntKind.bits, IntKind.signed, Bool.true_and]
  split <;> simp_all <;> omega

theorem sz2 : Sz 2 32768 65536 16 16 := Or.inr (Or.inl ⟨rfl, rfl, rfl, rfl, rfl⟩)

theorem sz1 : Sz 1 128 256 24 8 := Or.inl ⟨rfl, rfl, rfl, rfl, rfl⟩

theorem sz4 : Sz 4 2147483648 4294967296 0 32 := Or.inr (Or.inr ⟨rfl, rfl, rfl, rfl, rfl⟩)
end Go.Proofs.Ytmmnnafjikilpaa

/- Small facts on worlds that have grown and on returned values. -/
namespace Go.Proofs.Ytmmnnafjikilpaa
open Go.ChangeShapes Go.WideShapes Go.ChangeAt Go.RowKit
set_option linter.unusedVariables false

theorem Grown.trans {a b c : World} (h : Grown a b) (k : Grown b c) : Grown a c :=
  ⟨World.keptBut_trans h.1 k.1, fun x => (k.2.1 x).trans (h.2.1 x), Nat.le_trans h.2.2 k.2.2⟩

theorem Grown.drewN {W w' : World} (h : Grown W w') (n : Nat) : Grown W (w'.drewN n) := by
  induction n with
  | zero => exact h
  | succ n ih => exact ih

theorem ret_int {k : IntKind} {a b : Int} (h : a = b) : Ending.returned (.int k a) = .returned (.int k b) := by rw [h]

theorem ret_bool {a b : Bool} (h : a = b) : Ending.returned (.bool a) = .returned (.bool b) := by rw [h]

theorem ret_two {k l : IntKind} {a b c d : Int} (h : a = b) (g : c = d) : Ending.returned (.tuple #[.int k a, .int l c]) = .returned (.tuple #[.int k b, .int l d]) := by rw [h, g]

theorem ret_three {k l m : IntKind} {a b c d e f : Int} (h : a = b) (g : c = d) (i : e = f) : Ending.returned (.tuple #[.int k a, .int l c, .int m e]) = .returned (.tuple #[.int k b, .int l d, .int m f]) := by rw [h, g, i]

theorem Grown.block {W w' : World} (h : Grown W w') {i : Nat} (hi : i < W.heap.size) : w'.heap[i]? = W.heap[i]? := by
  have k := h.1.2.2 i hi
  split at k
  · rename_i c t fr c' t' fr' e1 e2
    obtain ⟨rfl, rfl, hs, hj⟩ := k
    have : c' = c := Array.ext_getElem? fun j => hj j (fun f => f)
    rw [e1, e2, this]
  · rename_i e1 e2
    rcases k with f | ⟨rfl, rfl⟩
    · exact f.elim
    · rw [e1, e2]
  · exact k

theorem Grown.cell {W w' : World} (h : Grown W w') {p : Addr} (hp : p.block < W.heap.size) : w'.cell? p = W.cell? p := World.cell?_of_block (w := W) (Grown.block h hp)

end Go.Proofs.Ytmmnnafjikilpaa

/- Plain facts on turning and shifting numbers, bit by bit: no Go text in sight; each under the bounds that it names. -/
namespace Go.Proofs.Ytmmnnafjikilpaa
open Go.RowKit
set_option linter.unusedVariables false

def Sw (s H M : Int) (W : Nat) : Prop := (s = 1 ∧ H = 128 ∧ M = 256 ∧ W = 8) ∨ (s = 2 ∧ H = 32768 ∧ M = 65536 ∧ W = 16) ∨ (s = 4 ∧ H = 2147483648 ∧ M = 4294967296 ∧ W = 32)

theorem Sw.sz {s H M : Int} {W : Nat} (h : Sw s H M W) : ∃ sp, Sz s H M sp (W : Int) := by
  rcases h with ⟨rfl, rfl, rfl, rfl⟩ | ⟨rfl, rfl, rfl, rfl⟩ | ⟨rfl, rfl, rfl, rfl⟩
  · exact ⟨24, sz1⟩
  · exact ⟨16, sz2⟩
  · exact ⟨0, sz4⟩

theorem Sw_of {s : Int} (h : okSize s = true) : ∃ H M W, Sw s H M W := by
  unfold okSize at h
  simp only [Bool.or_eq_true, beq_iff_eq] at h
  rcases h with (rfl | rfl) | rfl
  · exact ⟨128, 256, 8, Or.inl ⟨rfl, rfl, rfl, rfl⟩⟩
  · exact ⟨32768, 65536, 16, Or.inr (Or.inl ⟨rfl, rfl, rfl, rfl⟩)⟩
  · exact ⟨2147483648, 4294967296, 32, Or.inr (Or.inr ⟨rfl, rfl, rfl, rfl⟩)⟩

theorem Sw.ok {s H M : Int} {W : Nat} (h : Sw s H M W) : okSize s = true := by
  obtain ⟨sp, hS⟩ := h.sz
  exact hS.ok

theorem Sw.pow {s H M : Int} {W : Nat} (h : Sw s H M W) : M = ((2 ^ W : Nat) : Int) ∧ H = ((2 ^ (W - 1) : Nat) : Int) ∧ 8 ≤ W ∧ W ≤ 32 ∧ M ≤ 4294967296 ∧ 0 < M ∧ M = 2 * H := by
  rcases h with ⟨rfl, rfl, rfl, rfl⟩ | ⟨rfl, rfl, rfl, rfl⟩ | ⟨rfl, rfl, rfl, rfl⟩ <;> decide

theorem Sw.sgn {s H M : Int} {W : Nat} (h : Sw s H M W) {x : Int} (x0 : 0 ≤ x) (x1 : x < M) : sgn H x = tb x (W - 1) := by
  have p := h.pow
  rw [tb_div x x0, ← p.2.1]
  rcases h with ⟨rfl, rfl, rfl, rfl⟩ | ⟨rfl, rfl, rfl, rfl⟩ | ⟨rfl, rfl, rfl, rfl⟩
  all_goals
    unfold Go.Proofs.Ytmmnnafjikilpaa.sgn
    rw [Bool.eq_iff_iff]; simp only [decide_eq_true_eq]; omega

theorem pw_pos (k : Nat) : 0 < ((2 ^ k : Nat) : Int) := by have := Nat.two_pow_pos k; omega

theorem tb_cast (n : Nat) (i : Nat) : tb (n : Int) i = n.testBit i := by unfold tb; rw [Int.toNat_natCast]

theorem tb_mod {x : Int} (x0 : 0 ≤ x) (W i : Nat) : tb (x % ((2 ^ W : Nat) : Int)) i = (decide (i < W) && tb x i) := by
  obtain ⟨n, rfl⟩ := Int.eq_ofNat_of_zero_le x0
  rw [show ((n : Int) % ((2 ^ W : Nat) : Int)) = ((n % 2 ^ W : Nat) : Int) from (Int.natCast_emod n (2 ^ W)).symm, tb_cast, tb_cast, Nat.testBit_mod_two_pow]

theorem tb_shr {x : Int} (x0 : 0 ≤ x) (k i : Nat) : tb (x / ((2 ^ k : Nat) : Int)) i = tb x (k + i) := by
  obtain ⟨n, rfl⟩ := Int.eq_ofNat_of_zero_le x0
  rw [show ((n : Int) / ((2 ^ k : Nat) : Int)) = ((n / 2 ^ k : Nat) : Int) from (Int.natCast_ediv n (2 ^ k)).symm, tb_cast, tb_cast, Nat.testBit_div_two_pow, Nat.add_comm]

theorem tb_shl {x : Int} (x0 : 0 ≤ x) (k i : Nat) : tb (x * ((2 ^ k : Nat) : Int)) i = (decide (k ≤ i) && tb x (i - k)) := by
  obtain ⟨n, rfl⟩ := Int.eq_ofNat_of_zero_le x0
  rw [show ((n : Int) * ((2 ^ k : Nat) : Int)) = ((n * 2 ^ k : Nat) : Int) from (Int.natCast_mul n (2 ^ k)).symm, tb_cast, tb_cast, Nat.testBit_mul_two_pow]

theorem tb_hi {x : Int} {W : Nat} (x1 : x < ((2 ^ W : Nat) : Int)) {i : Nat} (h : W ≤ i) : tb x i = false := by
  unfold tb
  apply Nat.testBit_lt_two_pow
  have : (2 : Nat) ^ W ≤ 2 ^ i := Nat.pow_le_pow_right (by decide) h
  have := Nat.two_pow_pos W
  omega

theorem flg_tb {x : Int} (x0 : 0 ≤ x) (j : Nat) : x / ((2 ^ j : Nat) : Int) % 2 = flg (tb x j) 1 := by
  rw [tb_div x x0 j]
  unfold flg
  by_cases h : x / ((2 ^ j : Nat) : Int) % 2 = 1
  · rw [h]; rfl
  · rw [decide_eq_false h, if_neg (by decide)]; omega

def rot (R n k : Nat) : Nat := (2 ^ k * n + n / 2 ^ (R - k)) % 2 ^ R

theorem rot_lt (R n k : Nat) : rot R n k < 2 ^ R := Nat.mod_lt _ (Nat.two_pow_pos R)

theorem rot_low (R n k : Nat) (hn : n < 2 ^ R) (hk : k ≤ R) : n / 2 ^ (R - k) < 2 ^ k := by
  rw [Nat.div_lt_iff_lt_mul (Nat.two_pow_pos _), ← Nat.pow_add, show k + (R - k) = R by omega]
  exact hn

theorem rot_bit (R n k i : Nat) (hn : n < 2 ^ R) (hk : k ≤ R) : (rot R n k).testBit i = (decide (i < R) && if i < k then n.testBit (i + (R - k)) else n.testBit (i - k)) := by
  unfold rot
  rw [Nat.testBit_mod_two_pow, Nat.testBit_two_pow_mul_add _ (rot_low R n k hn hk), Nat.testBit_div_two_pow]

def turn (R : Nat) (n : Int) (k : Nat) : Int := ((rot R n.toNat (k % R) : Nat) : Int)

theorem turn_bd (R : Nat) (n : Int) (k : Nat) : 0 ≤ turn R n k ∧ turn R n k < ((2 ^ R : Nat) : Int) := by
  unfold turn
  have := rot_lt R n.toNat (k % R)
  omega

theorem turn_bit {R : Nat} {n : Int} (r0 : 0 < R) (n0 : 0 ≤ n) (n1 : n < ((2 ^ R : Nat) : Int)) (k i : Nat) : tb (turn R n k) i = (decide (i < R) && if i < k % R then tb n (i + (R - k % R)) else tb n (i - k % R)) := by
  unfold turn
  rw [tb_cast, rot_bit R _ _ i (by omega) (Nat.le_of_lt (Nat.mod_lt _ r0))]
  rfl

theorem turn_mod (R : Nat) (n : Int) {k l : Nat} (h : k % R = l % R) : turn R n k = turn R n l := by unfold turn; rw [h]

theorem turn_zero {R : Nat} {n : Int} (n0 : 0 ≤ n) (n1 : n < ((2 ^ R : Nat) : Int)) {k : Nat} (h : k % R = 0) : turn R n k = n := by
  unfold turn rot
  rw [h, Nat.pow_zero, Nat.one_mul, Nat.sub_zero, Nat.div_eq_of_lt (by omega), Nat.add_zero, Nat.mod_eq_of_lt (by omega)]
  omega

def isR (R : Nat) : Prop := R = 8 ∨ R = 9 ∨ R = 16 ∨ R = 17 ∨ R = 32 ∨ R = 33

theorem turn_turn {R : Nat} (hR : isR R) {n : Int} (n0 : 0 ≤ n) (n1 : n < ((2 ^ R : Nat) : Int)) (k l : Nat) : turn R (turn R n k) l = turn R n (k + l) := by
  have r0 : 0 < R := by unfold isR at hR; omega
  have b := turn_bd R n k
  refine tb_ext (turn_bd R _ l).1 (turn_bd R n _).1 fun i => ?_
  rw [turn_bit r0 b.1 b.2 l i, turn_bit r0 n0 n1 (k + l) i, turn_bit r0 n0 n1 k, turn_bit r0 n0 n1 k]
  by_cases hi : i < R
  · simp only [hi, decide_true, Bool.true_and]
    have hl : l % R < R := Nat.mod_lt _ r0
    have hkk : k % R < R := Nat.mod_lt _ r0
    have hs : (k + l) % R = k % R + l % R ∨ (k + l) % R + R = k % R + l % R := by
      rw [Nat.add_mod]
      by_cases h : k % R + l % R < R
      · left; exact Nat.mod_eq_of_lt h
      · right
        rw [Nat.mod_eq_sub_mod (by omega), Nat.mod_eq_of_lt (by omega)]; omega
    have hm : (k + l) % R < R := Nat.mod_lt _ r0
    generalize (k + l) % R = S at *
    generalize k % R = K at *
    generalize l % R = L at *
    have same : ∀ a b : Nat, a = b → tb n a = tb n b := fun a b h => by rw [h]
    repeat' split
    all_goals first
      | omega
      | (rw [decide_eq_true (by omega)]; simp only [Bool.true_and]; exact same _ _ (by omega))
  · simp [hi]

/-- one turn to the left, as the document's answer has it -/
theorem turn_one {R : Nat} (hR : isR R) {n : Int} (n0 : 0 ≤ n) (n1 : n < ((2 ^ R : Nat) : Int)) : n * 2 % ((2 ^ R : Nat) : Int) + n / ((2 ^ (R - 1) : Nat) : Int) % 2 = turn R n 1 := by
  obtain ⟨m, rfl⟩ := Int.eq_ofNat_of_zero_le n0
  unfold turn rot
  rw [Int.toNat_natCast]
  rcases hR with rfl | rfl | rfl | rfl | rfl | rfl
  · have n2 : m < 256 := by omega
    have q : m / 128 = 0 ∨ m / 128 = 1 := by omega
    show (m : Int) * 2 % 256 + (m : Int) / 128 % 2 = (((2 * m + m / 128) % 256 : Nat) : Int)
    rcases q with q | q <;> rw [q] <;> omega
  · have n2 : m < 512 := by omega
    have q : m / 256 = 0 ∨ m / 256 = 1 := by omega
    show (m : Int) * 2 % 512 + (m : Int) / 256 % 2 = (((2 * m + m / 256) % 512 : Nat) : Int)
    rcases q with q | q <;> rw [q] <;> omega
  · have n2 : m < 65536 := by omega
    have q : m / 32768 = 0 ∨ m / 32768 = 1 := by omega
    show (m : Int) * 2 % 65536 + (m : Int) / 32768 % 2 = (((2 * m + m / 32768) % 65536 : Nat) : Int)
    rcases q with q | q <;> rw [q] <;> omega
  · have n2 : m < 131072 := by omega
    have q : m / 65536 = 0 ∨ m / 65536 = 1 := by omega
    show (m : Int) * 2 % 131072 + (m : Int) / 65536 % 2 = (((2 * m + m / 65536) % 131072 : Nat) : Int)
    rcases q with q | q <;> rw [q] <;> omega
  · have n2 : m < 4294967296 := by omega
    have q : m / 2147483648 = 0 ∨ m / 2147483648 = 1 := by omega
    show (m : Int) * 2 % 4294967296 + (m : Int) / 2147483648 % 2 = (((2 * m + m / 2147483648) % 4294967296 : Nat) : Int)
    rcases q with q | q <;> rw [q] <;> omega
  · have n2 : m < 8589934592 := by omega
    have q : m / 4294967296 = 0 ∨ m / 4294967296 = 1 := by omega
    show (m : Int) * 2 % 8589934592 + (m : Int) / 4294967296 % 2 = (((2 * m + m / 4294967296) % 8589934592 : Nat) : Int)
    rcases q with q | q <;> rw [q] <;> omega

/-- the turn of the code -/
theorem turn_code {R c : Nat} (r33 : R ≤ 33) (hc : c < R) {n : Int} (n0 : 0 ≤ n) (n1 : n < ((2 ^ R : Nat) : Int)) :
    bits .and .u64 (bits .or .u64 (IntKind.u64.wrap (n * 2 ^ c)) (n / 2 ^ (R - c))) (((2 ^ R - 1 : Nat)) : Int) = ((rot R n.toNat c : Nat) : Int) := by
  obtain ⟨m, rfl⟩ := Int.eq_ofNat_of_zero_le n0
  have hm : m < 2 ^ R := by omega
  have h33 : (2 : Nat) ^ R ≤ 2 ^ 33 := Nat.pow_le_pow_right (by decide) r33
  have hB := rot_low R m c hm (by omega)
  have hB2 : m / 2 ^ (R - c) ≤ m := Nat.div_le_self _ _
  have e64 : (18446744073709551616 : Nat) = 2 ^ 64 := by decide
  have e1 : IntKind.u64.wrap ((m : Int) * 2 ^ c) = ((2 ^ c * m % 18446744073709551616 : Nat) : Int) := by
    rw [wrap_u64', Int.mul_comm, show (2 : Int) ^ c * (m : Int) = ((2 ^ c * m : Nat) : Int) by push_cast; rfl]
    omega
  have e2 : (m : Int) / 2 ^ (R - c) = ((m / 2 ^ (R - c) : Nat) : Int) := by push_cast; rfl
  have hp := Nat.two_pow_pos R
  have e33 : (2 : Nat) ^ 33 = 8589934592 := by decide
  have hA : 2 ^ c * m % 18446744073709551616 < 18446744073709551616 := Nat.mod_lt _ (by decide)
  have hO : (2 ^ c * m % 18446744073709551616) ||| (m / 2 ^ (R - c)) < 18446744073709551616 := Nat.or_lt_two_pow (n := 64) hA (by omega)
  rw [e1, e2, u64_or_nat _ _ hA (by omega), u64_and_nat _ _ hO (by omega), Nat.and_two_pow_sub_one_eq_mod, Int.toNat_natCast]
  unfold rot
  rw [Nat.two_pow_add_eq_or_of_lt hB]
  congr 1
  apply Nat.eq_of_testBit_eq
  intro i
  rw [Nat.testBit_mod_two_pow, Nat.testBit_mod_two_pow, Nat.testBit_or, Nat.testBit_or, e64, Nat.testBit_mod_two_pow]
  by_cases hi : i < R
  · have : i < 64 := by omega
    simp [hi, this]
  · simp [hi]

theorem xor_flg (a b : Bool) : bits .xor .u32 (flg a 1) (flg b 1) = flg (a != b) 1 := by cases a <;> cases b <;> decide
end Go.Proofs.Ytmmnnafjikilpaa

/- Memory: a plain model of it, and what it means that a world holds that model from a block on. -/
namespace Go.Proofs.Ytmmnnafjikilpaa
open Go.ChangeShapes Go.WideShapes Go.ChangeAt Go.RowKit Go.Maps
set_option linter.unusedVariables false

/-- Outside the blocks of S the world is as it was. -/
structure Kp (S : Nat → Prop) (w w' : World) : Prop where
  os : w'.os = w.os
  tape : w'.tape = w.tape
  output : w'.output = w.output
  size : w.heap.size ≤ w'.heap.size
  block : ∀ k, k < w.heap.size → ¬ S k → w'.heap[k]? = w.heap[k]?

theorem Kp.refl (S : Nat → Prop) (w : World) : Kp S w w := ⟨rfl, rfl, rfl, Nat.le_refl _, fun _ _ _ => rfl⟩

theorem Kp.trans {S : Nat → Prop} {a b c : World} (h : Kp S a b) (k : Kp S b c) : Kp S a c :=
  ⟨k.os.trans h.os, k.tape.trans h.tape, k.output.trans h.output, Nat.le_trans h.size k.size, fun i hi hs => (k.block i (Nat.lt_of_lt_of_le hi h.size) hs).trans (h.block i hi hs)⟩

theorem Kp.mono {S T : Nat → Prop} {a b : World} (h : Kp S a b) (hST : ∀ k, k < a.heap.size → S k → T k) : Kp T a b :=
  ⟨h.os, h.tape, h.output, h.size, fun i hi hs => h.block i hi (fun g => hs (hST i hi g))⟩

theorem Kp.alloc (S : Nat → Prop) (w : World) (o : Obj) : Kp S w (w.alloc o) :=
  ⟨rfl, rfl, rfl, by simp, fun k hk _ => Below.heap_alloc _ _ _ hk⟩

theorem Kp.setCell {S : Nat → Prop} (w : World) {p : Addr} (hp : S p.block) (u : Value) : Kp S w (w.setCell p u) :=
  ⟨rfl, rfl, rfl, by simp [World.setCell], fun k hk hs => Below.heap_setCell _ _ _ _ (fun e => hs (e ▸ hp))⟩

theorem Kp.setRow {S : Nat → Prop} (w : World) {g : Nat} (hp : S g) (cs : Array Value) : Kp S w (w.setRow g cs) :=
  ⟨rfl, rfl, rfl, by simp [World.setRow], fun k hk hs => setRow_other w g k cs (fun e => hs (e ▸ hp))⟩

theorem Kp.turned {S : Nat → Prop} {w w' : World} {b : Nat} (h : w.mapTurned w' b) (hb : S b) : Kp S w w' := by
  have g := h.grown
  exact ⟨g.os, g.tape, g.output, g.size, fun k hk hs => g.block k hk (fun e => hs (by cases e; exact hb))⟩

theorem Kp.grownBy {S : Nat → Prop} {w w' : World} {r : Option Nat} (g : w.grownBy w' r) (hb : ∀ b, r = some b → S b) : Kp S w w' :=
  ⟨g.os, g.tape, g.output, g.size, fun k hk hs => g.block k hk (fun e => hs (hb k e.symm))⟩

theorem Kp.below {S : Nat → Prop} {w w' : World} {B : Nat} (h : Kp S w w') (hB : B ≤ w.heap.size) (hS : ∀ k, S k → B ≤ k) : Below B w w' :=
  ⟨h.os, h.tape, h.output, h.size, fun k hk => h.block k (by omega) (fun g => by have := hS k g; omega)⟩

theorem Kp.ofBelow {S : Nat → Prop} {w w' : World} {B : Nat} (h : Below B w w') (hS : ∀ k, k < w.heap.size → B ≤ k → S k) : Kp S w w' :=
  ⟨h.os, h.tape, h.output, h.size, fun k hk hs => h.block k (by rcases Nat.lt_or_ge k B with g | g; exact g; exact (hs (hS k hk g)).elim)⟩

theorem Kp.drew {S : Nat → Prop} {w w' : World} (h : Kp S w w') : Kp S w w'.drew := ⟨h.os, h.tape, h.output, h.size, h.block⟩
theorem Kp.drewN {S : Nat → Prop} {w w' : World} (h : Kp S w w') (n : Nat) : Kp S w (w'.drewN n) := ⟨h.os, h.tape, h.output, h.size, h.block⟩

/-! ### the plain model -/
structure Mem where
  n : Nat
  byte : Nat → Int
  only : Nat → Bool
  wt : Int → Bool
  nt : Int → Bool
  closed : Bool

def Mem.place (M : Mem) (a : Int) : Int := if M.closed = true ∧ a / 1048576 % 2 = 1 then a - 1048576 else a

/-- How a pointer to a page reads in the map of pages: its block's number; nil reads as -1. -/
def ptrElem : Value → Option (DataW Unit × List MemPlace)
  | .pointer none => some (.lit (.int .i64 (-1)), [])
  | .pointer (some ⟨b, 0, none⟩) => some (.lit (.int .i64 b), [])
  | _ => none

theorem ptrElem_nil : ptrElem (.pointer none) = some (.lit (.int .i64 (-1)), []) := rfl
theorem ptrElem_some (b : Nat) : ptrElem (.pointer (some ⟨b, 0, none⟩)) = some (.lit (.int .i64 b), []) := rfl

theorem ptrElem_inv {v : Value} {c : Int} {ps : List MemPlace} (h : ptrElem v = some (.lit (.int .i64 c), ps)) : (v = .pointer none ∧ c = -1) ∨ ∃ b : Nat, v = .pointer (some ⟨b, 0, none⟩) ∧ c = b := by
  unfold ptrElem at h
  split at h
  · left; simp at h; exact ⟨rfl, h.1.symm⟩
  · right; rename_i b; simp at h; exact ⟨b, rfl, h.1.symm⟩
  · cases h

def noPage : DataW Unit := .lit (.int .i64 (-1))
def pageAt (B n : Nat) (i : Int) : Int := if 0 ≤ i ∧ i < n then (B : Int) + 4 + i else -1

structure RamAt (w : World) (B : Nat) (M : Mem) : Prop where
  le : M.n ≤ 256
  r : w.heap[B + 3]? = some (.cells #[.map (some B), .bool M.closed, .map (some (B + 1)), .map (some (B + 2))] 92 (0, 0))
  p : ∃ D, w.ownsMap Try.prog 3 ptrElem B 256 D ∧ (∀ i : Int, D.atKey (.int .i64 i) noPage = .lit (.int .i64 (pageAt B M.n i))) ∧ (∀ i : Int, Maps.has D (.int .i64 i) = decide (0 ≤ i ∧ i < M.n)) ∧ Maps.size D = M.n
  pg : ∀ i, i < M.n → ∃ cs, w.heap[B + 4 + i]? = some (.cells cs 100 (0, 0)) ∧ cs.size = 4097 ∧ (∀ j, j < 4096 → cs[j]? = some (.int .u8 (M.byte (4096 * i + j)))) ∧ cs[4096]? = some (.bool (M.only i))
  wm : ∃ D : DataW Unit, w.ownsMap Try.prog 23 unitElem (B + 1) 16384 D ∧ ∀ x : Int, Maps.has D (.int .u32 x) = M.wt x
  nm : ∃ D : DataW Unit, w.ownsMap Try.prog 23 unitElem (B + 2) 16384 D ∧ ∀ x : Int, Maps.has D (.int .u32 x) = M.nt x
  wb : ∀ x, M.wt x = true → 0 ≤ x ∧ x < 4096 * M.n ∧ x % 64 = 0
  nb : ∀ x, M.nt x = true → 0 ≤ x ∧ x < 4096 * M.n ∧ x % 64 = 0
  bb : ∀ p, p < 4096 * M.n → 0 ≤ M.byte p ∧ M.byte p < 256

def inRam (B n k : Nat) : Prop := B ≤ k ∧ k < B + 4 + n

theorem RamAt.lt {w : World} {B : Nat} {M : Mem} (h : RamAt w B M) : B + 4 + M.n ≤ w.heap.size := by
  have h3 := (Array.getElem?_eq_some_iff.1 h.r).1
  rcases Nat.eq_zero_or_pos M.n with e | e
  · omega
  · obtain ⟨cs, hc, _⟩ := h.pg (M.n - 1) (by omega)
    have := (Array.getElem?_eq_some_iff.1 hc).1
    omega

theorem owns_at {H : Type} {P : Program} {k : TypeId} {R : Value → Option (DataW H × List MemPlace)} {w w' : World} {b n : Nat} {D : DataW H} (h : w.ownsMap P k R b n D) (e : w'.heap[b]? = w.heap[b]?) : w'.ownsMap P k R b n D := by
  obtain ⟨es, clock, hb, r⟩ := h
  exact ⟨es, clock, e.trans hb, r⟩

/-- What does not touch memory's own blocks leaves it as it is. -/
theorem RamAt.kept {w w' : World} {B : Nat} {M : Mem} (h : RamAt w B M) (e : ∀ k, inRam B M.n k → w'.heap[k]? = w.heap[k]?) : RamAt w' B M where
  le := h.le
  r := (e _ ⟨by omega, by omega⟩).trans h.r
  p := by obtain ⟨D, h1, h2⟩ := h.p; exact ⟨D, owns_at h1 (e _ ⟨by omega, by omega⟩), h2⟩
  pg := fun i hi => by obtain ⟨cs, h1, h2⟩ := h.pg i hi; exact ⟨cs, (e _ ⟨by omega, by omega⟩).trans h1, h2⟩
  wm := by obtain ⟨D, h1, h2⟩ := h.wm; exact ⟨D, owns_at h1 (e _ ⟨by omega, by omega⟩), h2⟩
  nm := by obtain ⟨D, h1, h2⟩ := h.nm; exact ⟨D, owns_at h1 (e _ ⟨by omega, by omega⟩), h2⟩
  wb := h.wb
  nb := h.nb
  bb := h.bb

theorem RamAt.kp {S : Nat → Prop} {w w' : World} {B : Nat} {M : Mem} (h : RamAt w B M) (k : Kp S w w') (hS : ∀ k, inRam B M.n k → ¬ S k) : RamAt w' B M :=
  h.kept fun i hi => k.block i (by have := h.lt; have := hi.2; omega) (hS i hi)

theorem RamAt.grown {w w' : World} {B : Nat} {M : Mem} (h : RamAt w B M) (g : Grown w w') : RamAt w' B M :=
  h.kept fun i hi => Grown.block g (by have := h.lt; have := hi.2; omega)

theorem RamAt.alloc {w : World} {B : Nat} {M : Mem} (h : RamAt w B M) (o : Obj) : RamAt (w.alloc o) B M :=
  h.kp (Kp.alloc (fun _ => False) w o) (fun _ _ f => f)

/-- The cells of the struct. -/
theorem RamAt.c0 {w : World} {B : Nat} {M : Mem} (h : RamAt w B M) : w.cell? ⟨B + 3, 0, none⟩ = some (.map (some B)) := by simp [World.cell?, h.r]
theorem RamAt.c1 {w : World} {B : Nat} {M : Mem} (h : RamAt w B M) : w.cell? ⟨B + 3, 1, none⟩ = some (.bool M.closed) := by simp [World.cell?, h.r]
theorem RamAt.c2 {w : World} {B : Nat} {M : Mem} (h : RamAt w B M) : w.cell? ⟨B + 3, 2, none⟩ = some (.map (some (B + 1))) := by simp [World.cell?, h.r]
theorem RamAt.c3 {w : World} {B : Nat} {M : Mem} (h : RamAt w B M) : w.cell? ⟨B + 3, 3, none⟩ = some (.map (some (B + 2))) := by simp [World.cell?, h.r]
theorem RamAt.fz {w : World} {B : Nat} {M : Mem} (h : RamAt w B M) (j : Nat) : w.frozen? ⟨B + 3, j, none⟩ = false := by simp [World.frozen?, h.r]

/-! ### keys, and how many there are -/
theorem u32T : Try.prog.underlying 23 = some (.int .u32) := by kernel_rfl
theorem intT : Try.prog.underlying 3 = some (.int .i64) := by kernel_rfl
theorem setT : Try.prog.underlying 90 = some (.map 23 136) := by kernel_rfl
theorem pagesT : Try.prog.underlying 89 = some (.map 3 97) := by kernel_rfl
theorem zeroUnit (w : World) : (zeroValue 136).run Try.prog w = .ok (.agg #[]) w := by kernel_rfl
theorem zeroPtr (w : World) : (zeroValue 97).run Try.prog w = .ok (.pointer none) w := by kernel_rfl

theorem keyU {x : Int} (h0 : 0 ≤ x) (h1 : x < 4294967296) : keyOf Try.prog 23 (.int .u32 x) = some (.int .u32 x) :=
  keyOf_int_mk u32T (WalkArith.wf_u32 ⟨h0, by omega⟩)
theorem keyI {x : Int} (h0 : -9223372036854775808 ≤ x) (h1 : x ≤ 9223372036854775807) : keyOf Try.prog 3 (.int .i64 x) = some (.int .i64 x) :=
  keyOf_int_mk intT (WalkArith.wf_i64 ⟨h0, h1⟩)

theorem nodup_range_le : ∀ (n : Nat) (l : List Nat), l.Nodup → (∀ x ∈ l, x < n) → l.length ≤ n
  | 0, [], _, _ => Nat.le_refl _
  | 0, x :: _, _, h => absurd (h x (by simp)) (Nat.not_lt_zero _)
  | n + 1, l, hn, h => by
    have e : (l.filter (· ≠ n)).length ≤ n := nodup_range_le n _ (hn.filter _) (fun x hx => by
      rw [List.mem_filter] at hx
      have := h x hx.1
      have h2 : x ≠ n := by simpa using hx.2
      omega)
    have c : l.length ≤ (l.filter (· ≠ n)).length + 1 := by
      have hc : (l.filter (· ≠ n)).length + (l.filter (fun x => !decide (x ≠ n))).length = l.length := by
        clear e hn h
        induction l with
        | nil => rfl
        | cons a r ih => by_cases ha : a = n <;> simp_all <;> omega
      have hd : (l.filter (fun x => !decide (x ≠ n))).length ≤ 1 := by
        have hq : (l.filter (fun x => !decide (x ≠ n))).Nodup := hn.filter _
        have hall : ∀ x ∈ l.filter (fun x => !decide (x ≠ n)), x = n := fun x hx => by
          rw [List.mem_filter] at hx; simpa using hx.2
        match hl : l.filter (fun x => !decide (x ≠ n)), hq, hall with
        | [], _, _ => simp
        | [a], _, _ => simp
        | a :: b :: r, hq, hall =>
          have ea := hall a (by simp)
          have eb := hall b (by simp)
          rw [ea, eb] at hq
          simp at hq
      omega
    omega

/-- A set of granules is no greater than how many granules there are. -/
theorem set_size {w : World} {b n : Nat} {D : DataW Unit} (h : w.ownsMap Try.prog 23 unitElem b n D) (f : Int → Bool) (hf : ∀ x : Int, Maps.has D (.int .u32 x) = f x) (hb : ∀ x, f x = true → 0 ≤ x ∧ x < 1048576 ∧ x % 64 = 0) : Maps.size D ≤ 16384 := by
  obtain ⟨es, hD, hp, hk⟩ := h.entries (int_keyed u32T)
  obtain ⟨es', clock, _, F, _, hD'⟩ := h
  have ks : ∀ p ∈ es, ∃ x : Int, p.1 = .int .u32 x ∧ f x = true := by
    intro p hpm
    have hm : p ∈ (es'.toList.map (Go.WideElems.rg Try.prog 23 unitElem)) := by
      rw [hD] at hD'
      have e := DataW.map.inj hD'
      rw [e] at hpm
      exact mem_sorted.1 hpm
    obtain ⟨v, hv⟩ := fit_keys F p hm
    have hx : ∃ x : Int, p.1 = .int .u32 x := by
      cases v <;> simp [keyOf, mapKey] at hv
      exact ⟨_, hv.2.symm⟩
    obtain ⟨x, hx⟩ := hx
    refine ⟨x, hx, ?_⟩
    rw [← hf x, hD, Maps.has_eq, List.any_eq_true]
    exact ⟨p, hpm, by rw [hx]; simp [Lit.sameKey]⟩
  have q : (es.map fun p => match p.1 with | .int _ x => x.toNat / 64 | _ => 0).length ≤ 16384 := by
    refine nodup_range_le 16384 _ ?_ ?_
    · refine List.pairwise_map.2 (hp.imp_of_mem fun {p q} hp' hq' hne e => hne ?_)
      obtain ⟨a, ha, fa⟩ := ks p hp'
      obtain ⟨c, hc, fc⟩ := ks q hq'
      rw [ha, hc] at e ⊢
      simp only at e
      have := hb a fa
      have := hb c fc
      have : a = c := by omega
      rw [this]
    · intro y hy
      obtain ⟨p, hp', rfl⟩ := List.mem_map.1 hy
      obtain ⟨a, ha, fa⟩ := ks p hp'
      have := hb a fa
      rw [ha]
      simp only
      omega
  rw [hD, Maps.size_eq]
  simpa using q

theorem owns_tight {H : Type} {P : Program} {k : TypeId} {R : Value → Option (DataW H × List MemPlace)} {w : World} {b n m : Nat} {D : DataW H} (h : w.ownsMap P k R b n D) (hm : Maps.size D ≤ m) : w.ownsMap P k R b m D := by
  obtain ⟨es, clock, hb, F, hs, hD⟩ := h
  refine ⟨es, clock, hb, F, ?_, hD⟩
  rw [hD] at hm
  simpa [Maps.size, length_sorted] using hm

end Go.Proofs.Ytmmnnafjikilpaa

/- Contracts of ram's small functions. -/
namespace Go.Proofs.Ytmmnnafjikilpaa
open Go.ChangeShapes Go.WideShapes Go.ChangeAt Go.RowKit Go.Maps
set_option linter.unusedVariables false

theorem granuleOf_any (w : World) (x : Int) (h0 : 0 ≤ x) (h1 : x < 4294967296) :
    Calls Try.prog 70 #[.int .u32 x] w fun e w' => e = .returned (.int .u32 (x - x % 64)) ∧ w' = w := by
  go_enter Try.func70, Try.ntmps70
  go_wp2
  go_ret
  refine ⟨ret_int ?_, rfl⟩
  omega

theorem isSize_any (w : World) (x : Int) (h0 : -9223372036854775808 ≤ x) (h1 : x ≤ 9223372036854775807) :
    Calls Try.prog 46 #[.int .i64 x] w fun e w' => e = .returned (.bool (decide (x = 1 ∨ x = 2 ∨ x = 4))) ∧ w' = w := by
  go_enter Try.func46, Try.ntmps46
  go_wp2 <;> go_ret <;> refine ⟨ret_bool ?_, rfl⟩ <;> first | (subst_vars; rfl) | (by_cases h4 : x = 4 <;> simp_all)

theorem lengthInPage_any (w : World) (x n : Int) (h0 : 0 ≤ x) (h1 : x < 4294967296) (n0 : 0 ≤ n) (n1 : n < 9223372036854775808) :
    Calls Try.prog 58 #[.int .u32 x, .int .i64 n] w fun e w' => e = .returned (.int .i64 (min n (4096 - x % 4096))) ∧ w' = w := by
  go_enter Try.func58, Try.ntmps58
  go_wp2 <;> go_ret <;> refine ⟨ret_int ?_, rfl⟩ <;> omega

theorem tbp20 (i : Nat) : tb 1048576 i = decide (i = 20) := by
  unfold tb
  show (1048576 : Nat).testBit i = _
  rw [show (1048576 : Nat) = 2 ^ 20 by decide, Nat.testBit_two_pow]
  by_cases h : i = 20
  · simp [h]
  · have : ¬ 20 = i := fun e => h e.symm
    simp [h, this]

theorem not20 {f : Int} (f0 : 0 ≤ f) (f1 : f < 4294967296) : bits .andNot .u32 f 1048576 = if f / 1048576 % 2 = 1 then f - 1048576 else f := by
  have a1 := andNot_bd f0 f1 (b := 1048576) (by decide) (by decide)
  have e : (if f / 1048576 % 2 = 1 then f - 1048576 else f) = setF f 1048576 false := by unfold setF flg; simp
  rw [e]
  refine tb_ext a1.1 (by unfold setF flg; simp; split <;> omega) fun i => ?_
  have k := tb_setF f f0 20 false i
  rw [show ((2 ^ 20 : Nat) : Int) = 1048576 by decide] at k
  rw [tb_andNot f0 f1 (by decide) (by decide), tbp20, k]
  by_cases h : i = 20
  · simp [h]
  · simp [h]

theorem place_any (w : World) (B : Nat) (M : Mem) (h : RamAt w B M) (x : Int) (h0 : 0 ≤ x) (h1 : x < 4294967296) :
    Calls Try.prog 57 #[.pointer (some ⟨B + 3, 0, none⟩), .int .u32 x] w fun e w' => e = .returned (.int .u32 (M.place x)) ∧ w' = w := by
  have c1 := h.c1
  go_enter Try.func57, Try.ntmps57
  go_wp2
  all_goals go_ret
  all_goals refine ⟨ret_int ?_, rfl⟩
  · rename_i hc
    rw [not20 h0 h1]; unfold Mem.place; simp [hc]
  · rename_i hc
    unfold Mem.place; simp [hc]

theorem Mem.place_bd (M : Mem) {x : Int} (h0 : 0 ≤ x) (h1 : x < 4294967296) : 0 ≤ M.place x ∧ M.place x < 4294967296 := by
  unfold Mem.place; split <;> omega

/-- A look-up in the map of pages. -/
theorem wpList_page {P : Program} (w : World) {ops : Array Oper} {rest : List Oper} {o : Oper} {a : Act} {Q : Exit → Act → World → Prop}
    (hg : o.guard = none) (m x : Operand) (t : TypeId) (hop : o.op = Op.lookup t m x false)
    (k e : TypeId) (K : Keyed P k) (ht : P.underlying t = some (.map k e)) (hz : (zeroValue e).run P w = .ok (.pointer none) w) (b n : Nat) (D : DataW Unit)
    (hm : a.eval m = .map (some b)) (hown : w.ownsMap P k ptrElem b n D) (key : Value) (kl : Lit) (hx : a.eval x = key) (hkey : keyOf P k key = some kl)
    (c : Int) (hc : D.atKey kl noPage = .lit (.int .i64 c))
    (hK : wpList P ops Q rest (a.put o.dst (.pointer (if 0 ≤ c then some ⟨c.toNat, 0, none⟩ else none))) w) :
    wpList P ops Q (o :: rest) a w := by
  refine wpList_plain hg fun K' hK' => ?_
  obtain ⟨v, ps, hrun, hv⟩ := hown.lookup K ht hz ptrElem_nil hkey
  have hc' := hc
  unfold noPage at hc'
  rw [hc'] at hv
  have e1 : v = .pointer (if 0 ≤ c then some ⟨c.toNat, 0, none⟩ else none) := by
    rcases ptrElem_inv hv with ⟨rfl, rfl⟩ | ⟨b', rfl, rfl⟩
    · simp
    · simp
  rw [e1] at hrun
  unfold Oper.wp
  simp [execOp, hop, hm, hx, hrun, Result.andThen]
  exact hK' _ _ (by simpa using hK)

theorem pageOf_some (w : World) (B : Nat) (M : Mem) (h : RamAt w B M) (x : Int) (h0 : 0 ≤ x) (h1 : x < 4294967296) (hx : x < 4096 * M.n) :
    Calls Try.prog 59 #[.pointer (some ⟨B + 3, 0, none⟩), .int .u32 x] w fun e w' => e = .returned (.pointer (some ⟨B + 4 + (x / 4096).toNat, 0, none⟩)) ∧ w' = w := by
  have c0 := h.c0
  obtain ⟨D, hown, hat, _, _⟩ := h.p
  have hp : pageAt B M.n (x / 4096) = (B : Int) + 4 + x / 4096 := by unfold pageAt; rw [if_pos (by omega)]
  go_enter Try.func59, Try.ntmps59
  go_wp2_with (first
    | (at_lookup; refine wpList_page _ rfl _ _ 89 rfl 3 97 (int_keyed intT) pagesT (zeroPtr _) B 256 D rfl hown _ _ rfl (keyI (x := x / 4096) (by omega) (by omega)) _ (hat _) ?_; rw [hp, if_pos (by omega)])
    | go_in)
  go_ret
  refine ⟨?_, rfl⟩
  have : ((B : Int) + 4 + x / 4096).toNat = B + 4 + (x / 4096).toNat := by omega
  rw [this]
  rfl

theorem pageOf_none (w : World) (B : Nat) (M : Mem) (h : RamAt w B M) (x : Int) (h0 : 0 ≤ x) (h1 : x < 4294967296) (hx : 4096 * M.n ≤ x) :
    Calls Try.prog 59 #[.pointer (some ⟨B + 3, 0, none⟩), .int .u32 x] w fun e w' => e = .returned (.pointer none) ∧ w' = w := by
  have c0 := h.c0
  obtain ⟨D, hown, hat, _, _⟩ := h.p
  have hp : pageAt B M.n (x / 4096) = -1 := by unfold pageAt; rw [if_neg (by omega)]
  go_enter Try.func59, Try.ntmps59
  go_wp2_with (first
    | (at_lookup; refine wpList_page _ rfl _ _ 89 rfl 3 97 (int_keyed intT) pagesT (zeroPtr _) B 256 D rfl hown _ _ rfl (keyI (x := x / 4096) (by omega) (by omega)) _ (hat _) ?_; rw [hp, if_neg (by omega)])
    | go_in)
  go_ret
  exact ⟨rfl, rfl⟩
end Go.Proofs.Ytmmnnafjikilpaa

/- The contract of New: so many pages of noughts. -/
namespace Go.Proofs.Ytmmnnafjikilpaa
open Go.ChangeShapes Go.WideShapes Go.ChangeAt Go.RowKit Go.Maps
set_option linter.unusedVariables false

def pageL : List Value := List.replicate 4096 (.int .u8 0) ++ [.bool false]
def pageZ : Array Value := pageL.toArray

theorem zeroPage (w : World) : (zeroValue 100).run Try.prog w = .ok (.agg pageZ) w := by kernel_rfl

def mem0 (n : Nat) : Mem := { n := n, byte := fun _ => 0, only := fun _ => false, wt := fun _ => false, nt := fun _ => false, closed := false }

theorem pageL_len : pageL.length = 4097 := by unfold pageL; rw [List.length_append, List.length_replicate]; rfl
theorem pageZ_size : pageZ.size = 4097 := pageL_len
theorem pageZ_byte (j : Nat) (h : j < 4096) : pageZ[j]? = some (.int .u8 0) := by
  unfold pageZ
  rw [List.getElem?_toArray]
  unfold pageL
  rw [List.getElem?_append_left (by rw [List.length_replicate]; exact h), List.getElem?_replicate, if_pos h]
theorem pageZ_only : pageZ[4096]? = some (.bool false) := by
  unfold pageZ
  rw [List.getElem?_toArray]
  unfold pageL
  rw [List.getElem?_append_right (by rw [List.length_replicate]; exact Nat.le_refl _), List.length_replicate]
  rfl

theorem ram_start (w : World) : RamAt ((((w.alloc (.map #[] 0)).alloc (.map #[] 0)).alloc (.map #[] 0)).alloc (.cells #[.map (some w.heap.size), .bool false, .map (some (w.heap.size + 1)), .map (some (w.heap.size + 2))] 92)) w.heap.size (mem0 0) where
  le := Nat.zero_le _
  r := by
    have h := (MapKept.heap_alloc (((w.alloc (.map #[] 0)).alloc (.map #[] 0)).alloc (.map #[] 0)) (.cells #[.map (some w.heap.size), .bool false, .map (some (w.heap.size + 1)), .map (some (w.heap.size + 2))] 92)).1
    simpa [mem0] using h
  p := by
    refine ⟨.map [], ?_, ?_, fun i => (decide_eq_false (by simp only [mem0]; omega)).symm, rfl⟩
    · exact ((((World.ownsMap_made w Try.prog 3 ptrElem).mono (Nat.zero_le _)).alloc _).alloc _).alloc _
    · intro i; simp [pageAt, mem0, noPage, DataW.atKey]; omega
  pg := fun i hi => absurd hi (Nat.not_lt_zero _)
  wm := by
    have h := (World.ownsMap_made (H := Unit) (w.alloc (.map #[] 0)) Try.prog 23 unitElem).mono (Nat.zero_le 16384)
    refine ⟨.map [], ?_, fun _ => rfl⟩
    have := (h.alloc (.map #[] 0)).alloc (.cells #[.map (some w.heap.size), .bool false, .map (some (w.heap.size + 1)), .map (some (w.heap.size + 2))] 92)
    simpa using this
  nm := by
    have h := (World.ownsMap_made (H := Unit) ((w.alloc (.map #[] 0)).alloc (.map #[] 0)) Try.prog 23 unitElem).mono (Nat.zero_le 16384)
    refine ⟨.map [], ?_, fun _ => rfl⟩
    have := h.alloc (.cells #[.map (some w.heap.size), .bool false, .map (some (w.heap.size + 1)), .map (some (w.heap.size + 2))] 92)
    simpa using this
  wb := fun x h => by cases h
  nb := fun x h => by cases h
  bb := fun p h => by simp [mem0]

/-- One page more. -/
theorem ram_page {wr w1 : World} {B k : Nat} {D : DataW Unit} (h : RamAt wr B (mem0 k)) (hs : wr.heap.size = B + 4 + k) (hk : k < 256)
    (hhas : ∀ i : Int, Maps.has D (.int .i64 i) = decide (0 ≤ i ∧ i < (mem0 k).n)) (hat : ∀ i : Int, D.atKey (.int .i64 i) noPage = .lit (.int .i64 (pageAt B (mem0 k).n i))) (hsz : Maps.size D = (mem0 k).n) (hown : wr.ownsMap Try.prog 3 ptrElem B 256 D)
    (hown1 : w1.ownsMap Try.prog 3 ptrElem B (256 + 1) (D.put (.int .i64 k) (.lit (.int .i64 (B + 4 + k : Nat))))) (hturn : (wr.alloc (.cells pageZ 100)).mapTurned w1 B) :
    RamAt w1 B (mem0 (k + 1)) ∧ w1.heap.size = B + 4 + (k + 1) ∧ Below B wr w1 := by
  have hK : Kp (fun j => j = B) wr w1 := (Kp.alloc _ wr _).trans (Kp.turned hturn rfl)
  have hg := hturn.grown
  have hnew : w1.heap[B + 4 + k]? = some (.cells pageZ 100 (0, 0)) := by
    rw [hg.block _ (by simp; omega) (by simp; omega), ← hs]
    exact (MapKept.heap_alloc wr _).1
  have hsize : w1.heap.size = B + 4 + (k + 1) := by
    obtain ⟨es, clock, es', clock', hb, rfl⟩ := hturn
    simp [ChangeMaps.setBlock, hs]; omega
  have hold : ∀ j, inRam B k j → j ≠ B → w1.heap[j]? = wr.heap[j]? := fun j hj hne => hK.block j (by have := hj.2; omega) hne
  have hnot : Maps.has D (.int .i64 k) = false := by rw [hhas]; simp [mem0]
  have hsz1 : Maps.size (D.put (.int .i64 k) (.lit (.int .i64 (B + 4 + k : Nat)))) = k + 1 := by
    rw [Maps.size_put (hown.tidy (int_keyed intT)), hnot, if_neg (by simp), hsz]; rfl
  refine ⟨?_, hsize, hK.below (by omega) (fun j e => by omega)⟩
  exact {
    le := by simp [mem0]; omega
    r := (hold _ ⟨by omega, by omega⟩ (by omega)).trans h.r
    p := by
      refine ⟨_, owns_tight hown1 (by rw [hsz1]; omega), ?_, ?_, hsz1⟩
      · intro i
        by_cases hi : i = k
        · subst hi
          rw [Maps.atKey_put_same hown.isMap (by simp [WideAt.IsKeyLit])]
          unfold pageAt mem0; rw [if_pos (by simp only; omega)]; simp
        · rw [Maps.atKey_put_other (by simpa using hi), hat i]
          have e : pageAt B (mem0 k).n i = pageAt B (mem0 (k + 1)).n i := by
            unfold pageAt mem0
            simp only
            by_cases g : 0 ≤ i ∧ i < (k : Int)
            · rw [if_pos g, if_pos (by omega)]
            · rw [if_neg g, if_neg (by omega)]
          rw [e]
      · intro i
        by_cases hi : i = k
        · subst hi
          rw [Maps.has_put_same hown.isMap (by simp [WideAt.IsKeyLit])]
          simp [mem0]; omega
        · rw [Maps.has_put_other (by simpa using hi), hhas i]
          refine decide_eq_decide.2 ?_
          show (0 ≤ i ∧ i < (k : Int)) ↔ (0 ≤ i ∧ i < ((k + 1 : Nat) : Int))
          omega
    pg := fun i hi => by
      have hi' : i < k + 1 := hi
      by_cases e : i = k
      · subst e
        exact ⟨pageZ, hnew, pageZ_size, fun j hj => pageZ_byte j hj, pageZ_only⟩
      · obtain ⟨cs, h1, h2⟩ := h.pg i (by show i < k; omega)
        exact ⟨cs, (hold _ ⟨by omega, by omega⟩ (by omega)).trans h1, h2⟩
    wm := by obtain ⟨D', h1, h2⟩ := h.wm; exact ⟨D', owns_at h1 (hold _ ⟨by omega, by omega⟩ (by omega)), h2⟩
    nm := by obtain ⟨D', h1, h2⟩ := h.nm; exact ⟨D', owns_at h1 (hold _ ⟨by omega, by omega⟩ (by omega)), h2⟩
    wb := fun x h => by cases h
    nb := fun x h => by cases h
    bb := fun p h => by simp [mem0] }

theorem new_no (w : World) (p : Int) (h : p < 1 ∨ 256 < p) :
    Calls Try.prog 24 #[.int .i64 p] w fun e w' => e = .returned (.tuple #[.pointer none, .int .i64 50]) ∧ w' = w := by
  go_enter Try.func24, Try.ntmps24
  rcases h with h | h
  · go_wp2
    exact bodyPost_ret (v := .tuple #[.pointer none, .int .i64 50]) (by simp [results, Try.results24, go_sem]) rfl ⟨rfl, rfl⟩
  · have h1 : ¬ p < 1 := by omega
    go_wp2
    exact bodyPost_ret (v := .tuple #[.pointer none, .int .i64 50]) (by simp [results, Try.results24, go_sem]) rfl ⟨rfl, rfl⟩

set_option maxRecDepth 100000 in
theorem new_ok (w : World) (n : Nat) (h0 : 1 ≤ n) (h1 : n ≤ 256) :
    Calls Try.prog 24 #[.int .i64 n] w fun e w' => e = .returned (.tuple #[.pointer (some ⟨w.heap.size + 3, 0, none⟩), .int .i64 0]) ∧ RamAt w' w.heap.size (mem0 n) ∧ w'.heap.size = w.heap.size + 4 + n ∧ Below w.heap.size w w' := by
  have hmm := @run_makeMap Try.prog
  have hs := ram_start w
  have hz := zeroPage
  have hze : pageZ ≠ #[] := fun e => by have := pageZ_size; rw [e] at this; cases this
  have hzs := pageZ_size
  have g1 : ¬ (n : Int) < 1 := by omega
  have g2 : ¬ (256 : Int) < (n : Int) := by omega
  go_enter Try.func24, Try.ntmps24
  go_wp2
  go_loopw [18] (fun i wr => ∃ k : Nat, k ≤ n ∧ i = .int .i64 k ∧ RamAt wr w.heap.size (mem0 k) ∧ wr.heap.size = w.heap.size + 4 + k ∧ Below w.heap.size w wr) (fun i _ => n - (intOf i).toNat)
  case atStart => exact ⟨0, Nat.zero_le _, rfl, hs, by simp, (((((Below.refl _ w).alloc (Nat.le_refl _) _).alloc (by simp) _).alloc (by simp; omega) _).alloc (by simp; omega) _)⟩
  case round =>
    obtain ⟨k, hk, rfl, hr, hsz, hb⟩ := hrel
    have c0 : wr.cell? ⟨w.heap.size + 1 + 1 + 1, 0, none⟩ = some (.map (some w.heap.size)) := hr.c0
    obtain ⟨D, hown, hat, hhas, hsize⟩ := hr.p
    go_wp2_with (first
      | (at_mapUpdate; refine wpList_mapUpdate_in _ rfl _ _ _ 89 rfl 3 97 (int_keyed intT) pagesT ptrElem w.heap.size 256 D rfl (hown.alloc _) (by unfold maxLen; omega) _ _ _ rfl rfl (keyI (x := (k : Int)) (by omega) (by omega)) _ [] (ptrElem_some _) ?_; intro w1 hown1 hturn1)
      | go_in)
    · have R := ram_page hr hsz (by omega) hhas hat hsize hown hown1 hturn1
      clear hown1 hturn1 hown hat hhas hsize c0
      go_wp2
      go_roundw
      case rel => exact ⟨k + 1, by omega, by go_num, R.1, R.2.1, hb.trans R.2.2⟩
      case measure => simp [intOf]; omega
    · have e : k = n := by omega
      subst e
      exact bodyPost_ret (v := .tuple #[.pointer (some ⟨w.heap.size + 3, 0, none⟩), .int .i64 0]) (by simp [results, Try.results24, go_sem]) rfl ⟨rfl, hr, hsz, hb⟩

end Go.Proofs.Ytmmnnafjikilpaa

/- What is watched and noted: the contracts of note, and what a store into the sets does to memory. -/
namespace Go.Proofs.Ytmmnnafjikilpaa
open Go.ChangeShapes Go.WideShapes Go.ChangeAt Go.RowKit Go.Maps
set_option linter.unusedVariables false

theorem RamAt.as {w : World} {B : Nat} {M M' : Mem} (h : RamAt w B M) (e : M = M') : RamAt w B M' := e ▸ h

/-- The granules from lo on, below hi, that are watched are noted, and watched no more. -/
def Mem.note (M : Mem) (lo hi : Int) : Mem := { M with wt := fun x => M.wt x && !decide (lo ≤ x ∧ x < hi), nt := fun x => M.nt x || (M.wt x && decide (lo ≤ x ∧ x < hi)) }

theorem ram_unwatch {w w1 : World} {B : Nat} {M : Mem} (h : RamAt w B M) {D : DataW Unit} (hD : ∀ x : Int, Maps.has D (.int .u32 x) = M.wt x) (g : Int)
    (hown : w1.ownsMap Try.prog 23 unitElem (B + 1) 16384 (D.del (.int .u32 g))) (hturn : w.mapTurned w1 (B + 1)) :
    RamAt w1 B { M with wt := fun x => M.wt x && !decide (x = g) } := by
  have hK : Kp (fun j => j = B + 1) w w1 := Kp.turned hturn rfl
  have hold : ∀ j, inRam B M.n j → j ≠ B + 1 → w1.heap[j]? = w.heap[j]? := fun j hj hne => hK.block j (by have := h.lt; have := hj.2; omega) hne
  exact {
    le := h.le
    r := (hold _ ⟨by omega, by omega⟩ (by omega)).trans h.r
    p := by obtain ⟨D', h1, h2⟩ := h.p; exact ⟨D', owns_at h1 (hold _ ⟨by omega, by omega⟩ (by omega)), h2⟩
    pg := fun i hi => by obtain ⟨cs, h1, h2⟩ := h.pg i hi; exact ⟨cs, (hold _ ⟨by omega, by have : i < M.n := hi; omega⟩ (by omega)).trans h1, h2⟩
    wm := by
      refine ⟨_, hown, fun x => ?_⟩
      by_cases e : x = g
      · subst e; rw [Maps.has_del_same]; simp
      · rw [Maps.has_del_other (by simpa using e), hD]; simp [e]
    nm := by obtain ⟨D', h1, h2⟩ := h.nm; exact ⟨D', owns_at h1 (hold _ ⟨by omega, by omega⟩ (by omega)), h2⟩
    wb := fun x hx => h.wb x (by simp at hx; exact hx.1)
    nb := h.nb
    bb := h.bb }

theorem ram_watch {w w1 : World} {B : Nat} {M : Mem} (h : RamAt w B M) {D : DataW Unit} (hD : ∀ x : Int, Maps.has D (.int .u32 x) = M.wt x) (hm : Maps.IsMap D) (g : Int) (g0 : 0 ≤ g) (g1 : g < 4096 * M.n) (g2 : g % 64 = 0)
    (hown : w1.ownsMap Try.prog 23 unitElem (B + 1) (16384 + 1) (D.put (.int .u32 g) (.agg []))) (hturn : w.mapTurned w1 (B + 1)) :
    RamAt w1 B { M with wt := fun x => M.wt x || decide (x = g) } := by
  have hK : Kp (fun j => j = B + 1) w w1 := Kp.turned hturn rfl
  have hold : ∀ j, inRam B M.n j → j ≠ B + 1 → w1.heap[j]? = w.heap[j]? := fun j hj hne => hK.block j (by have := h.lt; have := hj.2; omega) hne
  have hb : ∀ x, (M.wt x || decide (x = g)) = true → 0 ≤ x ∧ x < 4096 * M.n ∧ x % 64 = 0 := fun x hx => by
    simp at hx
    rcases hx with hx | rfl
    · exact h.wb x hx
    · exact ⟨g0, g1, g2⟩
  have hhas : ∀ x : Int, Maps.has (D.put (.int .u32 g) (.agg [])) (.int .u32 x) = (M.wt x || decide (x = g)) := fun x => by
    by_cases e : x = g
    · subst e; rw [Maps.has_put_same hm (by simp [WideAt.IsKeyLit])]; simp
    · rw [Maps.has_put_other (by simpa using e), hD]; simp [e]
  have hle := h.le
  exact {
    le := h.le
    r := (hold _ ⟨by omega, by omega⟩ (by omega)).trans h.r
    p := by obtain ⟨D', h1, h2⟩ := h.p; exact ⟨D', owns_at h1 (hold _ ⟨by omega, by omega⟩ (by omega)), h2⟩
    pg := fun i hi => by obtain ⟨cs, h1, h2⟩ := h.pg i hi; exact ⟨cs, (hold _ ⟨by omega, by have : i < M.n := hi; omega⟩ (by omega)).trans h1, h2⟩
    wm := ⟨_, owns_tight hown (set_size hown _ hhas (fun x hx => by have := hb x hx; omega)), hhas⟩
    nm := by obtain ⟨D', h1, h2⟩ := h.nm; exact ⟨D', owns_at h1 (hold _ ⟨by omega, by omega⟩ (by omega)), h2⟩
    wb := hb
    nb := h.nb
    bb := h.bb }

theorem ram_mark {w w1 : World} {B : Nat} {M : Mem} (h : RamAt w B M) {D : DataW Unit} (hD : ∀ x : Int, Maps.has D (.int .u32 x) = M.nt x) (hm : Maps.IsMap D) (g : Int) (g0 : 0 ≤ g) (g1 : g < 4096 * M.n) (g2 : g % 64 = 0)
    (hown : w1.ownsMap Try.prog 23 unitElem (B + 2) (16384 + 1) (D.put (.int .u32 g) (.agg []))) (hturn : w.mapTurned w1 (B + 2)) :
    RamAt w1 B { M with nt := fun x => M.nt x || decide (x = g) } := by
  have hK : Kp (fun j => j = B + 2) w w1 := Kp.turned hturn rfl
  have hold : ∀ j, inRam B M.n j → j ≠ B + 2 → w1.heap[j]? = w.heap[j]? := fun j hj hne => hK.block j (by have := h.lt; have := hj.2; omega) hne
  have hb : ∀ x, (M.nt x || decide (x = g)) = true → 0 ≤ x ∧ x < 4096 * M.n ∧ x % 64 = 0 := fun x hx => by
    simp at hx
    rcases hx with hx | rfl
    · exact h.nb x hx
    · exact ⟨g0, g1, g2⟩
  have hhas : ∀ x : Int, Maps.has (D.put (.int .u32 g) (.agg [])) (.int .u32 x) = (M.nt x || decide (x = g)) := fun x => by
    by_cases e : x = g
    · subst e; rw [Maps.has_put_same hm (by simp [WideAt.IsKeyLit])]; simp
    · rw [Maps.has_put_other (by simpa using e), hD]; simp [e]
  have hle := h.le
  exact {
    le := h.le
    r := (hold _ ⟨by omega, by omega⟩ (by omega)).trans h.r
    p := by obtain ⟨D', h1, h2⟩ := h.p; exact ⟨D', owns_at h1 (hold _ ⟨by omega, by omega⟩ (by omega)), h2⟩
    pg := fun i hi => by obtain ⟨cs, h1, h2⟩ := h.pg i hi; exact ⟨cs, (hold _ ⟨by omega, by have : i < M.n := hi; omega⟩ (by omega)).trans h1, h2⟩
    wm := by obtain ⟨D', h1, h2⟩ := h.wm; exact ⟨D', owns_at h1 (hold _ ⟨by omega, by omega⟩ (by omega)), h2⟩
    nm := ⟨_, owns_tight hown (set_size hown _ hhas (fun x hx => by have := hb x hx; omega)), hhas⟩
    wb := h.wb
    nb := hb
    bb := h.bb }

theorem note_pt (a b : Bool) (P Q E : Prop) [Decidable P] [Decidable Q] [Decidable E] (k : a = true → (P ↔ Q ∨ E)) (e : E → a = true) :
    (a && !decide P) = ((a && !decide Q) && !decide E) ∧ (b || (a && decide P)) = ((b || (a && decide Q)) || decide E) := by
  cases a
  · have : ¬ E := fun h => by simpa using e h
    simp [this]
  · have := k rfl
    by_cases hq : Q <;> by_cases he : E <;> simp_all

theorem note_pu (a b : Bool) (P Q : Prop) [Decidable P] [Decidable Q] (k : a = true → (P ↔ Q)) :
    (a && !decide P) = (a && !decide Q) ∧ (b || (a && decide P)) = (b || (a && decide Q)) := by
  cases a
  · simp
  · have := k rfl
    by_cases hq : Q <;> simp_all

theorem note_step (M : Mem) (lo g : Int) (hg : lo ≤ g) (hw : ∀ x, M.wt x = true → (x - g) % 64 = 0) :
    M.note lo (g + 64) = if M.wt g = true then { M.note lo g with wt := fun x => (M.note lo g).wt x && !decide (x = g), nt := fun x => (M.note lo g).nt x || decide (x = g) } else M.note lo g := by
  have key : ∀ x, M.wt x = true → (lo ≤ x ∧ x < g + 64 ↔ (lo ≤ x ∧ x < g) ∨ x = g) := fun x hx => by have := hw x hx; omega
  split
  · rename_i hg1
    have q := fun x => note_pt (M.wt x) (M.nt x) (lo ≤ x ∧ x < g + 64) (lo ≤ x ∧ x < g) (x = g) (key x) (fun e => by rw [e]; exact hg1)
    unfold Mem.note
    congr 1
    · funext x; exact (q x).1
    · funext x; exact (q x).2
  · rename_i hg1
    have q := fun x => note_pu (M.wt x) (M.nt x) (lo ≤ x ∧ x < g + 64) (lo ≤ x ∧ x < g) (fun hx => by
      have := key x hx
      have e : x ≠ g := fun e => hg1 (e ▸ hx)
      omega)
    unfold Mem.note
    congr 1
    · funext x; exact (q x).1
    · funext x; exact (q x).2

theorem note_none (M : Mem) (lo : Int) : M.note lo lo = M := by
  have f : ∀ x, decide (lo ≤ x ∧ x < lo) = false := fun x => decide_eq_false (by omega)
  unfold Mem.note
  simp [f]

theorem note_any (w : World) (B : Nat) (M : Mem) (h : RamAt w B M) (pl n : Int) (h0 : 0 ≤ pl) (n1 : 1 ≤ n) (h1 : pl + n ≤ 4096 * M.n) :
    Calls Try.prog 64 #[.pointer (some ⟨B + 3, 0, none⟩), .int .u32 pl, .int .i64 n] w fun e w' => e = .returned (.tuple #[]) ∧ RamAt w' B (M.note (pl - pl % 64) ((pl + n - 1) - (pl + n - 1) % 64 + 64)) ∧ Kp (fun j => j = B + 1 ∨ j = B + 2) w w' := by
  have hle := h.le
  have a1 : pl + n < 4294967296 := by omega
  have a2 : n < 4294967296 := by omega
  go_enter Try.func64, Try.ntmps64
  go_wp2_with (first
    | (go_at_call 70; refine (granuleOf_any _ _ (by omega) (by omega)).mono ?_; rintro e w' ⟨rfl, hw⟩; replace hw := hw.symm; subst hw)
    | go_in)
  obtain ⟨lo, hlo⟩ : ∃ lo, lo = pl - pl % 64 := ⟨_, rfl⟩
  obtain ⟨hi, hhi⟩ : ∃ hi, hi = pl + n - 1 - (pl + n - 1) % 64 := ⟨_, rfl⟩
  rw [← hlo, ← hhi]
  have b0 : 0 ≤ lo := by omega
  have b1 : lo ≤ hi := by omega
  have b2 : hi + 64 ≤ 4096 * M.n := by omega
  have b3 : lo % 64 = 0 := by omega
  have b4 : hi % 64 = 0 := by omega
  have HLO : Hid (lo = pl - pl % 64) := hlo
  have HHI : Hid (hi = pl + n - 1 - (pl + n - 1) % 64) := hhi
  clear hlo hhi
  go_loopw [7] (fun i wr => ∃ g : Int, i = .int .u32 g ∧ lo ≤ g ∧ g ≤ hi + 64 ∧ g % 64 = 0 ∧ RamAt wr B (M.note lo g) ∧ Kp (fun j => j = B + 1 ∨ j = B + 2) w wr) (fun i _ => (hi + 64 - intOf i).toNat)
  case atStart => exact ⟨lo, rfl, Int.le_refl _, by omega, b3, h.as (note_none M lo).symm, Kp.refl _ _⟩
  case round =>
    obtain ⟨g, rfl, g0, g1, g2, hr, hk⟩ := hrel
    have c2 := hr.c2
    obtain ⟨D, hown, hD⟩ := hr.wm
    have hra := hr.alloc (.cells #[] 136)
    have c2a := hra.c2
    have hka : Kp (fun j => j = B + 1 ∨ j = B + 2) w (wr.alloc (.cells #[] 136)) := hk.trans (Kp.alloc _ wr _)
    have hwt : ∀ x, M.wt x = true → (x - g) % 64 = 0 := fun x hx => by have := h.wb x hx; omega
    have hstep := note_step M lo g g0 hwt
    have hng : (M.note lo g).wt g = M.wt g := by simp [Mem.note]
    have HS : Hid (M.note lo (g + 64) = if M.wt g = true then { M.note lo g with wt := fun x => (M.note lo g).wt x && !decide (x = g), nt := fun x => (M.note lo g).nt x || decide (x = g) } else M.note lo g) := hstep
    have HN : Hid ((M.note lo g).wt g = M.wt g) := hng
    clear hstep hng
    go_wp2_with (first
      | (at_lookup; refine wpList_lookup_own_unit _ rfl _ _ 90 rfl 23 136 (int_keyed u32T) setT (zeroUnit _) (B + 1) 16384 D rfl hown _ _ rfl (keyU (x := g) (by omega) (by omega)) ?_)
      | (at_delete; refine wpList_delete_own _ rfl _ _ 90 23 rfl 136 (int_keyed u32T) setT unitElem (B + 1) 16384 D rfl (hown.alloc _) _ _ rfl (keyU (x := g) (by omega) (by omega)) ?_; intro w2 hown2 hturn2; have hr2 := ram_unwatch hra hD g hown2 hturn2; have hk2 : Kp (fun j => j = B + 1 ∨ j = B + 2) w w2 := hka.trans (Kp.turned hturn2 (Or.inl rfl)); have c3 := hr2.c3; obtain ⟨D3, hown3, hD3⟩ := hr2.nm; clear hown2 hturn2)
      | (at_mapUpdate; refine wpList_mapUpdate_in _ rfl _ _ _ 90 rfl 23 136 (int_keyed u32T) setT unitElem (B + 2) 16384 D3 rfl hown3 (by unfold maxLen; omega) _ _ _ rfl rfl (keyU (x := g) (by omega) (by omega)) _ [] unitElem_mk ?_; intro w3 hown4 hturn4; have hr4 := ram_mark hr2 hD3 hown3.isMap g (by omega) (by show g < 4096 * M.n; omega) g2 hown4 hturn4; have hk4 : Kp (fun j => j = B + 1 ∨ j = B + 2) w w3 := hk2.trans (Kp.turned hturn4 (Or.inr rfl)); clear hown4 hturn4)
      | go_in)
    · have hwg : M.wt g = true := by rw [← HN.out]; assumption
      go_roundw
      case rel =>
        refine ⟨g + 64, rfl, by omega, by omega, by omega, hr4.as ?_, hk4⟩
        rw [HS.out, if_pos hwg]
      case measure => simp [intOf]; omega
    · have hwg : ¬ M.wt g = true := by rw [← HN.out]; simp; assumption
      go_roundw
      case rel =>
        refine ⟨g + 64, rfl, by omega, by omega, by omega, hra.as ?_, hka⟩
        rw [HS.out, if_neg hwg]
      case measure => simp [intOf]; omega
    · have e : g = hi + 64 := by omega
      subst e
      go_end0
      refine ⟨rfl, ?_, hk⟩
      rw [← HLO.out, ← HHI.out]
      exact hr
end Go.Proofs.Ytmmnnafjikilpaa

/- Reading: the contracts of fill and tell. -/
namespace Go.Proofs.Ytmmnnafjikilpaa
open Go.ChangeShapes Go.WideShapes Go.ChangeAt Go.RowKit Go.Maps
set_option linter.unusedVariables false

/-- cur' is cur with the cells f 0, f 1 .. laid at the L places from o on. -/
def Laid (cur cur' : Array Value) (o L : Nat) (f : Nat → Value) : Prop := cur'.size = cur.size ∧ ∀ j, cur'[j]? = if o ≤ j ∧ j < o + L then some (f (j - o)) else cur[j]?

theorem Laid.none (cur : Array Value) (o : Nat) (f : Nat → Value) : Laid cur cur o 0 f := ⟨rfl, fun j => by rw [if_neg (by omega)]⟩

theorem Laid.then {c1 c2 c3 : Array Value} {o L K : Nat} {f g : Nat → Value} (h : Laid c1 c2 o L f) (k : Laid c2 c3 (o + L) K g) (e : ∀ j, j < K → g j = f (L + j)) : Laid c1 c3 o (L + K) f := by
  refine ⟨k.1.trans h.1, fun j => ?_⟩
  rw [k.2 j]
  by_cases a : o + L ≤ j ∧ j < o + L + K
  · rw [if_pos a, if_pos (by omega), e _ (by omega)]; congr 2; omega
  · rw [if_neg a, h.2 j]
    by_cases b : o ≤ j ∧ j < o + L
    · rw [if_pos b, if_pos (by omega)]
    · rw [if_neg b, if_neg (by omega)]

theorem Laid.one {cur : Array Value} {o : Nat} (ho : o < cur.size) (v : Value) : Laid cur (cur.setIfInBounds o v) o 1 (fun _ => v) := by
  refine ⟨by simp, fun j => ?_⟩
  rw [Array.getElem?_setIfInBounds]
  by_cases e : o = j
  · subst e; rw [if_pos rfl, if_pos ho, if_pos (by omega)]
  · rw [if_neg e, if_neg (by omega)]

theorem Laid.splice {cur : Array Value} {o : Nat} {cs : List Value} (ho : o + cs.length ≤ cur.size) (f : Nat → Value) (hf : ∀ j, j < cs.length → cs[j]? = some (f j)) :
    Laid cur (cur.toList.take o ++ cs ++ cur.toList.drop (o + cs.length)).toArray o cs.length f := by
  refine ⟨by simp; omega, fun j => ?_⟩
  rw [List.getElem?_toArray]
  by_cases a : j < o
  · rw [if_neg (by omega), List.append_assoc, List.getElem?_append_left (by simp; omega), List.getElem?_take_of_lt a, Array.getElem?_toList]
  · by_cases b : j < o + cs.length
    · rw [if_pos (by omega), List.getElem?_append_left (by simp; omega), List.getElem?_append_right (by simp; omega)]
      have e : j - (cur.toList.take o).length = j - o := by simp; omega
      rw [e, hf _ (by omega)]
    · rw [if_neg (by omega), List.getElem?_append_right (by simp; omega)]
      have e : j - (cur.toList.take o ++ cs).length = j - (o + cs.length) := by simp; omega
      rw [e, List.getElem?_drop, Array.getElem?_toList]
      congr 1; omega

theorem heap_setCell_at {w : World} {S o : Nat} {cur : Array Value} {t : TypeId} (h : w.heap[S]? = some (.cells cur t (0, 0))) (v : Value) : (w.setCell ⟨S, o, none⟩ v).heap[S]? = some (.cells (cur.setIfInBounds o v) t (0, 0)) := by
  rw [setCell_eq_setRow w S o cur t (0, 0) v h]
  exact setRow_heap w S cur _ t _ h

theorem cell_at {w : World} {S o : Nat} {cur : Array Value} {t : TypeId} (h : w.heap[S]? = some (.cells cur t (0, 0))) : w.cell? ⟨S, o, none⟩ = cur[o]? := by simp [World.cell?, h]
theorem frozen_at {w : World} {S o : Nat} {cur : Array Value} {t : TypeId} (h : w.heap[S]? = some (.cells cur t (0, 0))) : w.frozen? ⟨S, o, none⟩ = false := by simp [World.frozen?, h]

theorem fill_any (w : World) (S o L c : Nat) (v : Int) (cur : Array Value) (t : TypeId) (h : w.heap[S]? = some (.cells cur t (0, 0))) (ho : o + L ≤ cur.size) (hL : L < 9223372036854775808) (hc : L ≤ c) :
    Calls Try.prog 60 #[.slice (some ⟨S, o, none⟩) L c, .int .u8 v] w fun e w' => e = .returned (.tuple #[]) ∧ (∃ cur', w'.heap[S]? = some (.cells cur' t (0, 0)) ∧ Laid cur cur' o L (fun _ => .int .u8 v)) ∧ Kp (fun j => j = S) w w' := by
  go_enter Try.func60, Try.ntmps60
  go_wp2
  go_loopw [7] (fun i wr => ∃ k : Nat, k ≤ L ∧ i = .int .i64 k ∧ (∃ cur', wr.heap[S]? = some (.cells cur' t (0, 0)) ∧ Laid cur cur' o k (fun _ => .int .u8 v)) ∧ Kp (fun j => j = S) w wr) (fun i _ => L - (intOf i).toNat)
  case atStart => exact ⟨0, Nat.zero_le _, rfl, ⟨cur, h, Laid.none _ _ _⟩, Kp.refl _ _⟩
  case round =>
    obtain ⟨k, hk, rfl, ⟨cur', hh, hl⟩, hkp⟩ := hrel
    have hcell : k < L → ∃ u, wr.cell? ⟨S, o + k, none⟩ = some u := fun hkL => by
      rw [cell_at hh]; have := hl.1; exact ⟨_, Array.getElem?_eq_getElem (by omega)⟩
    have hfz := frozen_at (o := o + k) hh
    by_cases hkL : k < L
    · obtain ⟨u, hu⟩ := hcell hkL
      clear hcell
      have R : ∃ cur'', (wr.setCell ⟨S, o + k, none⟩ (.int .u8 v)).heap[S]? = some (.cells cur'' t (0, 0)) ∧ Laid cur cur'' o (k + 1) (fun _ => .int .u8 v) :=
        ⟨_, heap_setCell_at hh _, hl.then (Laid.one (by have := hl.1; omega) _) (fun _ _ => rfl)⟩
      have hkp' : Kp (fun j => j = S) w (wr.setCell ⟨S, o + k, none⟩ (.int .u8 v)) := hkp.trans (Kp.setCell (S := fun j => j = S) wr (p := ⟨S, o + k, none⟩) rfl _)
      go_wp2
      go_roundw
      case rel => exact ⟨k + 1, by omega, by go_num, R, hkp'⟩
      case measure => simp [intOf]; omega
    · clear hcell
      have e : k = L := by omega
      subst e
      go_wp2
      go_end0
      exact ⟨rfl, ⟨cur', hh, hl⟩, hkp⟩

/-- How long a slice is. -/
def slLen : Value → Nat | .slice _ l _ => l | _ => 0

/-- The byte that is read at an address. -/
def Mem.rd (M : Mem) (a : Int) : Int := if M.place a < 4096 * M.n then M.byte (M.place a).toNat else 255

theorem byteT : (Try.prog.info? 5).map (·.size) = some 1 := by kernel_rfl
theorem bytesT : Try.prog.underlying 51 = some (.slice 5) := by kernel_rfl

theorem arrayT : Try.prog.underlying 98 = some (.array 4096 5) := by kernel_rfl
theorem run_pageSlice (w : World) (b q : Nat) (h : q < 4096) : (Instr.sliceAt 98 (.pointer (some ⟨b, 0, none⟩)) (some (.int .u32 q)) none none).run Try.prog w = .ok (.slice (some ⟨b, q, none⟩) (4096 - q) (4096 - q)) w := by
  have hq : ¬ 4096 = q := by omega
  have hz : q = 0 → 0 = q := fun e => e.symm
  have h2 : (q : Int) ≤ 4096 := by omega
  cases hi : Try.prog.info? 5 with
  | none => have := byteT; rw [hi] at this; cases this
  | some i =>
    have hs : i.size = 1 := by have := byteT; rw [hi] at this; simpa using this
    simp [Instr.sliceAt, Instr.sureAddr, run_underlying arrayT, Instr.sliceBounds, run_sliceBound, sizeOf, typeInfo, hi, hs, hq, h2, Addr.add]
    exact hz

theorem place_add (M : Mem) {a : Int} (a0 : 0 ≤ a) (a1 : a < 4294967296) (j : Nat) (h : M.place a % 4096 + j < 4096) : M.place ((a + j) % 4294967296) = M.place a + j := by
  unfold Mem.place at h ⊢
  by_cases c : M.closed = true
  · simp only [c, true_and] at h ⊢
    split at h
    · rw [if_pos (by omega), if_pos (by omega)]; omega
    · rw [if_neg (by omega), if_neg (by omega)]; omega
  · simp only [c] at h ⊢
    simp at h ⊢
    omega

theorem rd_in (M : Mem) {at_ a : Int} {k j : Nat} (ha : a = (at_ + k) % 4294967296) (j0 : M.place a % 4096 + j < 4096) (i q : Nat) (hq : q < 4096) (hi : M.place a = 4096 * i + q) (hn : i < M.n) : M.rd ((at_ + (k + j : Nat)) % 4294967296) = M.byte (4096 * i + (q + j)) := by
  have e : (at_ + (k + j : Nat)) % 4294967296 = (a + j) % 4294967296 := by omega
  have p := place_add M (a := a) (by omega) (by omega) j j0
  unfold Mem.rd
  rw [e, p, hi, if_pos (by omega)]
  congr 1
  omega

theorem rd_out (M : Mem) {at_ a : Int} {k j : Nat} (ha : a = (at_ + k) % 4294967296) (j0 : M.place a % 4096 + j < 4096) (hn : 4096 * M.n ≤ M.place a) : M.rd ((at_ + (k + j : Nat)) % 4294967296) = 255 := by
  have e : (at_ + (k + j : Nat)) % 4294967296 = (a + j) % 4294967296 := by omega
  have p := place_add M (a := a) (by omega) (by omega) j j0
  unfold Mem.rd
  rw [e, p, if_neg (by omega)]

/-- A copy of bytes. -/
theorem copy_any (w : World) (S o dLen dCap b q sLen sCap n : Nat) (hn : n = Nat.min sLen dLen) (cur : Array Value) (t : TypeId) (hS : w.heap[S]? = some (.cells cur t (0, 0))) (ho : o + n ≤ cur.size) (f : Nat → Int)
    (hsrc : ∀ j, j < n → w.cell? ⟨b, q + j, none⟩ = some (.int .u8 (f j))) :
    ∃ w2, (Builtin.copy_ #[51, 51] 3 #[.slice (some ⟨S, o, none⟩) dLen dCap, .slice (some ⟨b, q, none⟩) sLen sCap]).run Try.prog w = .ok (.int .i64 n) w2 ∧
      (∃ cur', w2.heap[S]? = some (.cells cur' t (0, 0)) ∧ Laid cur cur' o n (fun j => .int .u8 (f j))) ∧ Kp (fun j => j = S) w w2 := by
  obtain ⟨cs, hcs⟩ : ∃ cs : List Value, cs = (List.range n).map (fun j => Value.int .u8 (f j)) := ⟨_, rfl⟩
  have hlen : cs.length = n := by rw [hcs]; simp
  have hget : ∀ j, j < cs.length → cs[j]? = some (.int .u8 (f j)) := fun j hj => by
    rw [hlen] at hj
    rw [hcs, List.getElem?_map, List.getElem?_range hj]
    rfl
  have hl := Laid.splice (cur := cur) (o := o) (cs := cs) (by omega) (fun j => .int .u8 (f j)) hget
  have hrun := run_copy_row Try.prog w 51 51 3 5 S o dLen dCap ⟨b, q, none⟩ sLen sCap cur t cs bytesT byteT hS (by omega) (fun j v hv => by
      have hj : j < cs.length := (List.getElem?_eq_some_iff.1 hv).1
      rw [hget j hj] at hv
      cases hv
      have e : (⟨b, q, none⟩ : Addr).add j = ⟨b, q + j, none⟩ := by unfold Addr.add; split <;> simp_all
      rw [e]
      exact hsrc j (by omega)) (by omega) (fun v hv => by rw [hcs] at hv; simp at hv; obtain ⟨j, _, rfl⟩ := hv; rfl)
  rw [hlen] at hrun hl
  refine ⟨_, hrun, ⟨_, setRow_heap w S _ _ t _ hS, hl⟩, Kp.setRow (S := fun j => j = S) w rfl _⟩

set_option maxRecDepth 100000 in
theorem tell_any (w : World) (B : Nat) (M : Mem) (h : RamAt w B M) (at_ : Int) (a0 : 0 ≤ at_) (a1 : at_ < 4294967296) (S o L c : Nat) (cur : Array Value) (t : TypeId) (hS : w.heap[S]? = some (.cells cur t (0, 0))) (ho : o + L ≤ cur.size) (hL : L < 4611686018427387904) (hc : L ≤ c) (hn : ¬ inRam B M.n S) :
    Calls Try.prog 34 #[.pointer (some ⟨B + 3, 0, none⟩), .int .u32 at_, .slice (some ⟨S, o, none⟩) L c] w fun e w' => e = .returned (.tuple #[]) ∧ (∃ cur', w'.heap[S]? = some (.cells cur' t (0, 0)) ∧ Laid cur cur' o L (fun i => .int .u8 (M.rd ((at_ + i) % 4294967296)))) ∧ Kp (fun j => j = S) w w' := by
  go_enter Try.func34, Try.ntmps34
  go_wp2
  go_loopw [1, 2] (fun a sl wr => ∃ k : Nat, k ≤ L ∧ a = .int .u32 ((at_ + k) % 4294967296) ∧ (∃ p c', sl = .slice p (L - k) c' ∧ (k < L → p = some ⟨S, o + k, none⟩ ∧ L - k ≤ c')) ∧ (∃ cur', wr.heap[S]? = some (.cells cur' t (0, 0)) ∧ Laid cur cur' o k (fun i => .int .u8 (M.rd ((at_ + i) % 4294967296)))) ∧ Kp (fun j => j = S) w wr) (fun _ sl _ => slLen sl)
  case atStart => exact ⟨0, Nat.zero_le _, by simp; omega, ⟨_, c, rfl, fun _ => ⟨rfl, hc⟩⟩, ⟨cur, hS, Laid.none _ _ _⟩, Kp.refl _ _⟩
  case round =>
    obtain ⟨k, hk, rfl, ⟨p, c', rfl, hp⟩, ⟨cur', hh, hl⟩, hkp⟩ := hrel
    have hr : RamAt wr B M := h.kp hkp (fun j hj e => hn (e ▸ hj))
    by_cases hkL : k < L
    · obtain ⟨rfl, hc'⟩ := hp hkL
      obtain ⟨a, ha⟩ : ∃ a, a = (at_ + k) % 4294967296 := ⟨_, rfl⟩
      rw [← ha]
      have b0 : 0 ≤ a := by omega
      have b1 : a < 4294967296 := by omega
      have HA : Hid (a = (at_ + k) % 4294967296) := ha
      clear ha
      have pb := M.place_bd b0 b1
      obtain ⟨pl, hpl⟩ : ∃ pl, pl = M.place a := ⟨_, rfl⟩
      have cP := place_any wr B M hr a b0 b1
      rw [← hpl] at cP pb
      have HP : Hid (pl = M.place a) := hpl
      clear hpl
      obtain ⟨p0, p1⟩ := pb
      obtain ⟨n, hn⟩ : ∃ n : Nat, n = (min ((L - k : Nat) : Int) (4096 - pl % 4096)).toNat := ⟨_, rfl⟩
      have cL := lengthInPage_any wr pl (L - k : Nat) p0 p1 (by omega) (by omega)
      have en : min ((L - k : Nat) : Int) (4096 - pl % 4096) = n := by omega
      rw [en] at cL
      have n0 : 1 ≤ n := by omega
      have n1 : n ≤ L - k := by omega
      have n2 : n ≤ 4096 := by omega
      obtain ⟨q, hq⟩ : ∃ q : Nat, pl % 4096 = q := ⟨(pl % 4096).toNat, by omega⟩
      have q1 : q + n ≤ 4096 := by omega
      have q2 : q < 4096 := by omega
      clear hn en
      by_cases hpn : pl < 4096 * M.n
      · have cO := pageOf_some wr B M hr pl p0 p1 hpn
        obtain ⟨i, hi⟩ : ∃ i : Nat, i = (pl / 4096).toNat := ⟨_, rfl⟩
        rw [← hi] at cO
        have HI : Hid (pl = 4096 * i + q) := show _ = _ by omega
        obtain ⟨cs, hcs, hz, hby, hon⟩ := hr.pg i (by omega)
        have HIN : Hid (i < M.n) := show _ < _ by omega
        clear hi hpn
        have hsl := run_pageSlice wr (B + 4 + i) q q2
        obtain ⟨w2, hcp, ⟨cur2, hh2, hl2⟩, hk2⟩ := copy_any wr S (o + k) n c' (B + 4 + i) q (4096 - q) (4096 - q) n (Nat.min_eq_right (by omega)).symm cur' t hh (by have := hl.1; omega) (fun j => M.byte (4096 * i + (q + j))) (fun j hj => by rw [cell_at hcs]; exact hby _ (by omega))
        have hkp2 := hkp.trans hk2
        have hlF := hl.then hl2 (fun j hj => by
          show Value.int .u8 _ = Value.int .u8 _
          congr 1
          have e2 := HP.out
          have e3 := HI.out
          exact (rd_in M HA.out (by rw [← e2]; omega) i q q2 (by rw [← e2]; exact e3) HIN.out).symm)
        clear hl2 hl hk2 hh hcs hz hby hon hr
        go_wp2_with fail
        refine cP.mono ?_; rintro e w' ⟨rfl, hw⟩; replace hw := hw.symm; subst hw
        go_wp2_with fail
        refine cL.mono ?_; rintro e w' ⟨rfl, hw⟩; replace hw := hw.symm; subst hw
        go_wp2_with fail
        refine cO.mono ?_; rintro e w' ⟨rfl, hw⟩; replace hw := hw.symm; subst hw
        go_wp2
        go_roundw
        case rel =>
          refine ⟨k + n, by omega, ?_, ?_, ⟨cur2, hh2, hlF⟩, hkp2⟩
          · congr 1; have := HA.out; omega
          · refine ⟨_, _, by congr 1; omega, fun hlt => ?_⟩
            rw [if_neg (by omega)]
            exact ⟨by congr 2; omega, by omega⟩
        case measure => simp [slLen]; omega
      · have cO := pageOf_none wr B M hr pl p0 p1 (by omega)
        have cF := fill_any wr S (o + k) n c' 255 cur' t hh (by have := hl.1; omega) (by omega) (by omega)
        have HPN : Hid (4096 * M.n ≤ pl) := show _ ≤ _ by omega
        clear hpn
        go_wp2_with fail
        refine cP.mono ?_; rintro e w' ⟨rfl, hw⟩; replace hw := hw.symm; subst hw
        go_wp2_with fail
        refine cL.mono ?_; rintro e w' ⟨rfl, hw⟩; replace hw := hw.symm; subst hw
        go_wp2_with fail
        refine cO.mono ?_; rintro e w' ⟨rfl, hw⟩; replace hw := hw.symm; subst hw
        go_wp2_with fail
        refine cF.mono ?_; rintro e w2 ⟨rfl, ⟨cur2, hh2, hl2⟩, hk2⟩
        have hkp2 := hkp.trans hk2
        have hlF := hl.then hl2 (fun j hj => by
          show Value.int .u8 _ = Value.int .u8 _
          congr 1
          have e2 := HP.out
          exact (rd_out M HA.out (by rw [← e2]; omega) (by rw [← e2]; exact HPN.out)).symm)
        clear hl2 hl hk2 hh hr
        go_wp2
        go_roundw
        case rel =>
          refine ⟨k + n, by omega, ?_, ?_, ⟨cur2, hh2, hlF⟩, hkp2⟩
          · congr 1; have := HA.out; omega
          · refine ⟨_, _, by congr 1; omega, fun hlt => ?_⟩
            rw [if_neg (by omega)]
            exact ⟨by congr 2; omega, by omega⟩
        case measure => simp [slLen]; omega
    · have e : k = L := by omega
      subst e
      clear hp
      go_wp2
      go_end0
      exact ⟨rfl, ⟨cur', hh, hl⟩, hkp⟩
end Go.Proofs.Ytmmnnafjikilpaa

/- Writing: bytes laid one by one, and page by page; the contract of lay. -/
namespace Go.Proofs.Ytmmnnafjikilpaa
open Go.ChangeShapes Go.WideShapes Go.ChangeAt Go.RowKit Go.Maps
set_option linter.unusedVariables false

/-- A byte at an address; all: also where it can only be read. -/
def Mem.put (M : Mem) (all : Bool) (a v : Int) : Mem :=
  if M.place a < 4096 * M.n ∧ (all = true ∨ M.only (M.place a / 4096).toNat = false) then
    { M.note (M.place a - M.place a % 64) (M.place a - M.place a % 64 + 64) with byte := fun x => if x = (M.place a).toNat then v else M.byte x }
  else M

def Mem.lay (M : Mem) (all : Bool) (a : Int) : List Int → Mem
  | [] => M
  | v :: r => (M.put all a v).lay all ((a + 1) % 4294967296) r

theorem put_n (M : Mem) (all : Bool) (a v : Int) : (M.put all a v).n = M.n := by unfold Mem.put; split <;> rfl
theorem put_only (M : Mem) (all : Bool) (a v : Int) : (M.put all a v).only = M.only := by unfold Mem.put; split <;> rfl
theorem put_closed (M : Mem) (all : Bool) (a v : Int) : (M.put all a v).closed = M.closed := by unfold Mem.put; split <;> rfl
theorem put_place (M : Mem) (all : Bool) (a v x : Int) : (M.put all a v).place x = M.place x := by unfold Mem.place; rw [put_closed]

theorem lay_same (all : Bool) : ∀ (vs : List Int) (M : Mem) (a : Int), (M.lay all a vs).n = M.n ∧ (M.lay all a vs).only = M.only ∧ (M.lay all a vs).closed = M.closed
  | [], _, _ => ⟨rfl, rfl, rfl⟩
  | v :: r, M, a => by
    have h := lay_same all r (M.put all a v) ((a + 1) % 4294967296)
    rw [put_n, put_only, put_closed] at h
    exact h

theorem lay_place (all : Bool) (vs : List Int) (M : Mem) (a x : Int) : (M.lay all a vs).place x = M.place x := by unfold Mem.place; rw [(lay_same all vs M a).2.2]

theorem lay_append (all : Bool) : ∀ (xs ys : List Int) (M : Mem) (a : Int), 0 ≤ a → a < 4294967296 → M.lay all a (xs ++ ys) = (M.lay all a xs).lay all ((a + xs.length) % 4294967296) ys
  | [], ys, M, a, a0, a1 => by
    simp only [List.nil_append, Mem.lay, List.length_nil]
    congr 1; omega
  | v :: r, ys, M, a, a0, a1 => by
    simp only [List.cons_append, Mem.lay, List.length_cons]
    rw [lay_append all r ys _ _ (by omega) (by omega)]
    congr 1; omega

theorem note_pv (a b : Bool) (P Q R : Prop) [Decidable P] [Decidable Q] [Decidable R] (k : R ↔ P ∨ Q) :
    ((a && !decide P) && !decide Q) = (a && !decide R) ∧ ((b || (a && decide P)) || ((a && !decide P) && decide Q)) = (b || (a && decide R)) := by
  cases a
  · simp
  · by_cases hp : P <;> by_cases hq : Q <;> simp_all

theorem note_note (M : Mem) (a b c d : Int) (h1 : a ≤ c) (h2 : c ≤ b) (h3 : b ≤ d) : (M.note a b).note c d = M.note a d := by
  have q := fun x => note_pv (M.wt x) (M.nt x) (a ≤ x ∧ x < b) (c ≤ x ∧ x < d) (a ≤ x ∧ x < d) (by omega)
  unfold Mem.note
  simp only
  congr 1
  · funext x; exact (q x).1
  · funext x; exact (q x).2

/-- Bytes of one page, laid at once. -/
theorem lay_page (all : Bool) : ∀ (vs : List Int) (M : Mem) (a : Int), vs ≠ [] → 0 ≤ a → a < 4294967296 → M.place a % 4096 + vs.length ≤ 4096 → 0 ≤ M.place a →
    M.lay all a vs = if M.place a < 4096 * M.n ∧ (all = true ∨ M.only (M.place a / 4096).toNat = false) then
      { M.note (M.place a - M.place a % 64) (M.place a + vs.length - 1 - (M.place a + vs.length - 1) % 64 + 64) with byte := fun x => if (M.place a).toNat ≤ x ∧ x < (M.place a).toNat + vs.length then vs.getD (x - (M.place a).toNat) 0 else M.byte x }
    else M
  | [], _, _, h, _, _, _, _ => absurd rfl h
  | [v], M, a, _, a0, a1, hp, p0 => by
    have e : M.place a + (([v].length : Nat) : Int) - 1 = M.place a := by simp
    rw [e]
    show M.put all a v = _
    unfold Mem.put
    have eb : (fun x => if x = (M.place a).toNat then v else M.byte x) = (fun x => if (M.place a).toNat ≤ x ∧ x < (M.place a).toNat + [v].length then [v].getD (x - (M.place a).toNat) 0 else M.byte x) := by
      funext x
      have l1 : [v].length = 1 := rfl
      rw [l1]
      by_cases e : x = (M.place a).toNat
      · subst e; rw [if_pos rfl, if_pos (by omega)]; simp
      · rw [if_neg e, if_neg (by omega)]
    rw [eb]
  | v :: u :: r, M, a, _, a0, a1, hp, p0 => by
    have hlen : (v :: u :: r).length = (u :: r).length + 1 := rfl
    have l1 : 1 ≤ (u :: r).length := by simp
    rw [hlen] at hp ⊢
    have hpl : M.place ((a + 1) % 4294967296) = M.place a + 1 := place_add M a0 a1 1 (by omega)
    have ih := lay_page all (u :: r) (M.put all a v) ((a + 1) % 4294967296) (by simp) (by omega) (by omega) (by rw [put_place, hpl]; omega) (by rw [put_place, hpl]; omega)
    rw [put_place, hpl, put_n, put_only] at ih
    show (M.put all a v).lay all ((a + 1) % 4294967296) (u :: r) = _
    rw [ih]
    generalize (u :: r) = s at *
    generalize hP : M.place a = P at *
    have e1 : (P + 1) / 4096 = P / 4096 := by omega
    rw [e1]
    by_cases ok : P < 4096 * M.n ∧ (all = true ∨ M.only (P / 4096).toNat = false)
    · have ok' : P + 1 < 4096 * M.n ∧ (all = true ∨ M.only (P / 4096).toNat = false) := ⟨by omega, ok.2⟩
      rw [if_pos ok, if_pos ok']
      have hput : M.put all a v = { M.note (P - P % 64) (P - P % 64 + 64) with byte := fun x => if x = P.toNat then v else M.byte x } := by
        unfold Mem.put; rw [hP, if_pos ok]
      rw [hput]
      have en := note_note M (P - P % 64) (P - P % 64 + 64) (P + 1 - (P + 1) % 64) (P + 1 + s.length - 1 - (P + 1 + s.length - 1) % 64 + 64) (by omega) (by omega) (by omega)
      have e2 : P + 1 + (s.length : Int) - 1 = P + ((s.length + 1 : Nat) : Int) - 1 := by omega
      rw [e2] at en ⊢
      have eb : (fun x => if (P + 1).toNat ≤ x ∧ x < (P + 1).toNat + s.length then s.getD (x - (P + 1).toNat) 0 else (if x = P.toNat then v else M.byte x)) = (fun x => if P.toNat ≤ x ∧ x < P.toNat + (s.length + 1) then (v :: s).getD (x - P.toNat) 0 else M.byte x) := by
        funext x
        by_cases c1 : x = P.toNat
        · subst c1
          rw [if_neg (by omega), if_pos rfl, if_pos (by omega)]; simp
        · by_cases c2 : P.toNat ≤ x ∧ x < P.toNat + (s.length + 1)
          · rw [if_pos c2, if_pos (by omega)]
            have : x - P.toNat = (x - (P + 1).toNat) + 1 := by omega
            rw [this]; simp
          · rw [if_neg c2, if_neg (by omega), if_neg c1]
      rw [← eb]
      have en' := congrArg (fun N : Mem => { N with byte := (fun x => if (P + 1).toNat ≤ x ∧ x < (P + 1).toNat + s.length then s.getD (x - (P + 1).toNat) 0 else (if x = P.toNat then v else M.byte x)) }) en
      exact en'
    · have ok' : ¬ (P + 1 < 4096 * M.n ∧ (all = true ∨ M.only (P / 4096).toNat = false)) := fun h => ok ⟨by omega, h.2⟩
      rw [if_neg ok, if_neg ok']
      unfold Mem.put; rw [hP, if_neg ok]

/-- Bytes of a page are written. -/
theorem ram_bytes {w w2 : World} {B : Nat} {M : Mem} (h : RamAt w B M) {i q n : Nat} {cs cs' : Array Value} {f : Nat → Int} (hi : i < M.n) (hq : q + n ≤ 4096) (hcs : w.heap[B + 4 + i]? = some (.cells cs 100 (0, 0))) (hcs' : w2.heap[B + 4 + i]? = some (.cells cs' 100 (0, 0)))
    (hl : Laid cs cs' q n (fun j => .int .u8 (f j))) (hk : Kp (fun j => j = B + 4 + i) w w2) (hf : ∀ j, j < n → 0 ≤ f j ∧ f j < 256) :
    RamAt w2 B { M with byte := fun x => if 4096 * i + q ≤ x ∧ x < 4096 * i + q + n then f (x - (4096 * i + q)) else M.byte x } := by
  have hold : ∀ j, inRam B M.n j → j ≠ B + 4 + i → w2.heap[j]? = w.heap[j]? := fun j hj hne => hk.block j (by have := h.lt; have := hj.2; omega) hne
  exact {
    le := h.le
    r := (hold _ ⟨by omega, by omega⟩ (by omega)).trans h.r
    p := by obtain ⟨D', h1, h2⟩ := h.p; exact ⟨D', owns_at h1 (hold _ ⟨by omega, by omega⟩ (by omega)), h2⟩
    pg := fun i' hi' => by
      have hi'' : i' < M.n := hi'
      by_cases e : i' = i
      · subst e
        obtain ⟨cs0, g1, g2, g3, g4⟩ := h.pg i' hi
        rw [hcs] at g1
        obtain rfl : cs = cs0 := by simpa using g1
        refine ⟨cs', hcs', by rw [hl.1, g2], fun j hj => ?_, ?_⟩
        · rw [hl.2 j]
          by_cases c : q ≤ j ∧ j < q + n
          · rw [if_pos c]
            simp only
            rw [if_pos (by omega)]
            have : 4096 * i' + j - (4096 * i' + q) = j - q := by omega
            rw [this]
          · rw [if_neg c]
            simp only
            rw [if_neg (by omega), g3 j hj]
        · rw [hl.2 4096, if_neg (by omega), g4]
      · obtain ⟨cs0, g1, g2, g3, g4⟩ := h.pg i' hi''
        refine ⟨cs0, (hold _ ⟨by omega, by omega⟩ (by omega)).trans g1, g2, fun j hj => ?_, g4⟩
        rw [g3 j hj]
        simp only
        rw [if_neg (by omega)]
    wm := by obtain ⟨D', h1, h2⟩ := h.wm; exact ⟨D', owns_at h1 (hold _ ⟨by omega, by omega⟩ (by omega)), h2⟩
    nm := by obtain ⟨D', h1, h2⟩ := h.nm; exact ⟨D', owns_at h1 (hold _ ⟨by omega, by omega⟩ (by omega)), h2⟩
    wb := h.wb
    nb := h.nb
    bb := fun x hx => by
      simp only
      split
      · exact hf _ (by omega)
      · exact h.bb x hx }

theorem RamAt.pc {w : World} {B : Nat} {M : Mem} (h : RamAt w B M) {i : Nat} (hi : i < M.n) : w.cell? ⟨B + 4 + i, 4096, none⟩ = some (.bool (M.only i)) := by
  obtain ⟨cs, g1, g2, g3, g4⟩ := h.pg i hi
  rw [cell_at g1, g4]

theorem place_mod (M : Mem) (a : Int) : M.place a % 4096 = a % 4096 := by unfold Mem.place; split <;> omega

set_option maxRecDepth 100000 in
theorem lay_any (w : World) (B : Nat) (M : Mem) (h : RamAt w B M) (all : Bool) (at_ : Int) (a0 : 0 ≤ at_) (a1 : at_ < 4294967296) (p : Option Addr) (S o L c : Nat) (vs : List Int) (hv : vs.length = L) (hL : L < 4611686018427387904)
    (hp : 0 < L → p = some ⟨S, o, none⟩ ∧ L ≤ c ∧ ¬ inRam B M.n S ∧ S < w.heap.size ∧ ∀ j, j < L → w.cell? ⟨S, o + j, none⟩ = some (.int .u8 (vs.getD j 0))) (hb : ∀ j, j < L → 0 ≤ vs.getD j 0 ∧ vs.getD j 0 < 256) :
    Calls Try.prog 47 #[.pointer (some ⟨B + 3, 0, none⟩), .int .u32 at_, .slice p L c, .bool all] w fun e w' => e = .returned (.tuple #[]) ∧ RamAt w' B (M.lay all at_ vs) ∧ Kp (inRam B M.n) w w' := by
  go_enter Try.func47, Try.ntmps47
  go_wp2
  go_loopw [1, 2] (fun a sl wr => ∃ k : Nat, k ≤ L ∧ a = .int .u32 ((at_ + k) % 4294967296) ∧ (∃ p' c', sl = .slice p' (L - k) c' ∧ (k < L → p' = some ⟨S, o + k, none⟩ ∧ L - k ≤ c')) ∧ RamAt wr B (M.lay all at_ (vs.take k)) ∧ Kp (inRam B M.n) w wr) (fun _ sl _ => slLen sl)
  case atStart => exact ⟨0, Nat.zero_le _, by simp; omega, ⟨_, c, rfl, fun hk => ⟨(hp hk).1, (hp hk).2.1⟩⟩, by simpa [Mem.lay] using h, Kp.refl _ _⟩
  case round =>
    obtain ⟨k, hk, rfl, ⟨p', c', rfl, hp'⟩, hr, hkp⟩ := hrel
    by_cases hkL : k < L
    · obtain ⟨rfl, hc'⟩ := hp' hkL
      obtain ⟨hp1, hp2, hp3, hp4, hp5⟩ := hp (by omega)
      have hsrc : ∀ j, j < L → wr.cell? ⟨S, o + j, none⟩ = some (.int .u8 (vs.getD j 0)) := fun j hj => by
        rw [← hp5 j hj]; exact World.cell?_of_block (hkp.block S hp4 hp3)
      clear hp hp' hp1 hp2
      obtain ⟨N, hN⟩ : ∃ N, N = M.lay all at_ (vs.take k) := ⟨_, rfl⟩
      have hNn : N.n = M.n := by rw [hN]; exact (lay_same _ _ _ _).1
      rw [← hN] at hr
      have HNN : Hid (N = M.lay all at_ (vs.take k)) := hN
      clear hN
      obtain ⟨a, ha⟩ : ∃ a, a = (at_ + k) % 4294967296 := ⟨_, rfl⟩
      rw [← ha]
      have b0 : 0 ≤ a := by omega
      have b1 : a < 4294967296 := by omega
      have HA : Hid (a = (at_ + k) % 4294967296) := ha
      clear ha
      have pb := N.place_bd b0 b1
      obtain ⟨pl, hpl⟩ : ∃ pl, pl = N.place a := ⟨_, rfl⟩
      have cP := place_any wr B N hr a b0 b1
      rw [← hpl] at cP pb
      have HP : Hid (pl = N.place a) := hpl
      clear hpl
      obtain ⟨p0, p1⟩ := pb
      obtain ⟨n, hn⟩ : ∃ n : Nat, n = (min ((L - k : Nat) : Int) (4096 - pl % 4096)).toNat := ⟨_, rfl⟩
      have cL := lengthInPage_any wr pl (L - k : Nat) p0 p1 (by omega) (by omega)
      have en : min ((L - k : Nat) : Int) (4096 - pl % 4096) = n := by omega
      rw [en] at cL
      have n0 : 1 ≤ n := by omega
      have n1 : n ≤ L - k := by omega
      have n2 : n ≤ 4096 := by omega
      obtain ⟨q, hq⟩ : ∃ q : Nat, pl % 4096 = q := ⟨(pl % 4096).toNat, by omega⟩
      have q1 : q + n ≤ 4096 := by omega
      have q2 : q < 4096 := by omega
      clear hn en
      obtain ⟨us, hus⟩ : ∃ us, us = (vs.drop k).take n := ⟨_, rfl⟩
      have ul : us.length = n := by rw [hus]; simp; omega
      have ug : ∀ j, j < n → us.getD j 0 = vs.getD (k + j) 0 := fun j hj => by rw [hus]; simp [List.getD_eq_getElem?_getD, List.getElem?_take_of_lt hj, List.getElem?_drop]
      have hstep : M.lay all at_ (vs.take (k + n)) = N.lay all a us := by
        have e : vs.take (k + n) = vs.take k ++ us := by rw [hus, List.take_add]
        rw [e, lay_append all _ _ _ _ a0 a1, ← HNN.out, HA.out]
        congr 2
        simp; omega
      have hpage := lay_page all us N a (by intro e; rw [e] at ul; simp at ul; omega) b0 b1 (by rw [← HP.out, ul, hq]; omega) (by rw [← HP.out]; exact p0)
      rw [← HP.out, ul] at hpage
      have HST : Hid (M.lay all at_ (vs.take (k + n)) = N.lay all a us) := hstep
      have HPG : Hid (N.lay all a us = if pl < 4096 * N.n ∧ (all = true ∨ N.only (pl / 4096).toNat = false) then { N.note (pl - pl % 64) (pl + n - 1 - (pl + n - 1) % 64 + 64) with byte := fun x => if pl.toNat ≤ x ∧ x < pl.toNat + n then us.getD (x - pl.toNat) 0 else N.byte x } else N) := hpage
      clear hpage hstep
      have HUL : Hid (us.length = n) := ul
      have HUS : Hid (us = (vs.drop k).take n) := hus
      clear hus ul
      by_cases hpn : pl < 4096 * N.n
      · have cO := pageOf_some wr B N hr pl p0 p1 hpn
        obtain ⟨i, hi⟩ : ∃ i : Nat, i = (pl / 4096).toNat := ⟨_, rfl⟩
        rw [← hi] at cO
        have HI : Hid (pl = 4096 * i + q) := show _ = _ by omega
        have HIN : Hid (i < N.n) := show _ < _ by omega
        have hc4 := hr.pc HIN.out
        have hsl := run_pageSlice wr (B + 4 + i) q q2
        by_cases ok : all = true ∨ N.only i = false
        · obtain ⟨cs, hcs, hz, hby, hon⟩ := hr.pg i HIN.out
          obtain ⟨w2, hcp, ⟨cs2, hh2, hl2⟩, hk2⟩ := copy_any wr (B + 4 + i) q (4096 - q) (4096 - q) S (o + k) n c' n (Nat.min_eq_left (by omega)).symm cs 100 hcs (by omega) (fun j => us.getD j 0) (fun j hj => by rw [ug j hj, Nat.add_assoc]; exact hsrc _ (by omega))
          have hr2 := ram_bytes hr HIN.out q1 hcs hh2 hl2 hk2 (fun j hj => by rw [ug j hj]; exact hb _ (by omega))
          have cT := note_any w2 B _ hr2 pl n p0 (by omega) (by show pl + n ≤ 4096 * N.n; have := HI.out; have := HIN.out; omega)
          have hfin : N.lay all a us = Mem.note { N with byte := fun x => if 4096 * i + q ≤ x ∧ x < 4096 * i + q + n then us.getD (x - (4096 * i + q)) 0 else N.byte x } (pl - pl % 64) (pl + n - 1 - (pl + n - 1) % 64 + 64) := by
            rw [HPG.out, if_pos ⟨hpn, by rw [← hi]; exact ok⟩]
            have e : pl.toNat = 4096 * i + q := by have := HI.out; omega
            rw [e]
            rfl
          have HF : Hid (N.lay all a us = Mem.note { N with byte := fun x => if 4096 * i + q ≤ x ∧ x < 4096 * i + q + n then us.getD (x - (4096 * i + q)) 0 else N.byte x } (pl - pl % 64) (pl + n - 1 - (pl + n - 1) % 64 + 64)) := hfin
          have hkp2 : Kp (inRam B M.n) w w2 := hkp.trans (hk2.mono fun j hj e => by rw [e]; have := HIN.out; exact ⟨by omega, by omega⟩)
          clear hi hpn hfin hl2 hk2 hh2 hcs hz hby hon hr2
          rcases ok with ok | ok
          · subst ok
            clear hc4
            go_wp2_with fail
            refine cP.mono ?_; rintro e w' ⟨rfl, hw⟩; replace hw := hw.symm; subst hw
            go_wp2_with fail
            refine cL.mono ?_; rintro e w' ⟨rfl, hw⟩; replace hw := hw.symm; subst hw
            go_wp2_with fail
            refine cO.mono ?_; rintro e w' ⟨rfl, hw⟩; replace hw := hw.symm; subst hw
            go_wp2_with fail
            refine cT.mono ?_; rintro e w3 ⟨rfl, hr3, hk3⟩
            have hr4 : RamAt w3 B (M.lay true at_ (vs.take (k + n))) := hr3.as (by rw [HST.out, HF.out])
            have hkp3 : Kp (inRam B M.n) w w3 := hkp2.trans (hk3.mono fun j hj e => by rcases e with e | e <;> rw [e] <;> exact ⟨by omega, by omega⟩)
            clear hr3 hk3
            go_wp2
            go_roundw
            case rel =>
              refine ⟨k + n, by omega, ?_, ?_, hr4, hkp3⟩
              · congr 1; have := HA.out; omega
              · refine ⟨_, _, by congr 1; omega, fun hlt => ?_⟩
                rw [if_neg (by omega)]
                exact ⟨by congr 2; omega, by omega⟩
            case measure => simp [slLen]; omega
          · rw [ok] at hc4
            cases all
            · go_wp2_with fail
              refine cP.mono ?_; rintro e w' ⟨rfl, hw⟩; replace hw := hw.symm; subst hw
              go_wp2_with fail
              refine cL.mono ?_; rintro e w' ⟨rfl, hw⟩; replace hw := hw.symm; subst hw
              go_wp2_with fail
              refine cO.mono ?_; rintro e w' ⟨rfl, hw⟩; replace hw := hw.symm; subst hw
              go_wp2_with fail
              refine cT.mono ?_; rintro e w3 ⟨rfl, hr3, hk3⟩
              have hr4 : RamAt w3 B (M.lay false at_ (vs.take (k + n))) := hr3.as (by rw [HST.out, HF.out])
              have hkp3 : Kp (inRam B M.n) w w3 := hkp2.trans (hk3.mono fun j hj e => by rcases e with e | e <;> rw [e] <;> exact ⟨by omega, by omega⟩)
              clear hr3 hk3
              go_wp2
              go_roundw
              case rel =>
                refine ⟨k + n, by omega, ?_, ?_, hr4, hkp3⟩
                · congr 1; have := HA.out; omega
                · refine ⟨_, _, by congr 1; omega, fun hlt => ?_⟩
                  rw [if_neg (by omega)]
                  exact ⟨by congr 2; omega, by omega⟩
              case measure => simp [slLen]; omega
            · go_wp2_with fail
              refine cP.mono ?_; rintro e w' ⟨rfl, hw⟩; replace hw := hw.symm; subst hw
              go_wp2_with fail
              refine cL.mono ?_; rintro e w' ⟨rfl, hw⟩; replace hw := hw.symm; subst hw
              go_wp2_with fail
              refine cO.mono ?_; rintro e w' ⟨rfl, hw⟩; replace hw := hw.symm; subst hw
              go_wp2_with fail
              refine cT.mono ?_; rintro e w3 ⟨rfl, hr3, hk3⟩
              have hr4 : RamAt w3 B (M.lay true at_ (vs.take (k + n))) := hr3.as (by rw [HST.out, HF.out])
              have hkp3 : Kp (inRam B M.n) w w3 := hkp2.trans (hk3.mono fun j hj e => by rcases e with e | e <;> rw [e] <;> exact ⟨by omega, by omega⟩)
              clear hr3 hk3
              go_wp2
              go_roundw
              case rel =>
                refine ⟨k + n, by omega, ?_, ?_, hr4, hkp3⟩
                · congr 1; have := HA.out; omega
                · refine ⟨_, _, by congr 1; omega, fun hlt => ?_⟩
                  rw [if_neg (by omega)]
                  exact ⟨by congr 2; omega, by omega⟩
              case measure => simp [slLen]; omega
        · have hall : all = false := by cases all; rfl; exact absurd (Or.inl rfl) ok
          have honly : N.only i = true := by cases e : N.only i; exact absurd (Or.inr e) ok; rfl
          subst hall
          rw [honly] at hc4
          have hfin : M.lay false at_ (vs.take (k + n)) = N := by rw [HST.out, HPG.out, if_neg (by rw [← hi]; exact fun g => ok g.2)]
          have hr4 : RamAt wr B (M.lay false at_ (vs.take (k + n))) := hr.as hfin.symm
          clear hi hpn hfin ok honly hr
          go_wp2_with fail
          refine cP.mono ?_; rintro e w' ⟨rfl, hw⟩; replace hw := hw.symm; subst hw
          go_wp2_with fail
          refine cL.mono ?_; rintro e w' ⟨rfl, hw⟩; replace hw := hw.symm; subst hw
          go_wp2_with fail
          refine cO.mono ?_; rintro e w' ⟨rfl, hw⟩; replace hw := hw.symm; subst hw
          go_wp2
          go_roundw
          case rel =>
            refine ⟨k + n, by omega, ?_, ?_, hr4, hkp⟩
            · congr 1; have := HA.out; omega
            · refine ⟨_, _, by congr 1; omega, fun hlt => ?_⟩
              rw [if_neg (by omega)]
              exact ⟨by congr 2; omega, by omega⟩
          case measure => simp [slLen]; omega
      · have cO := pageOf_none wr B N hr pl p0 p1 (by omega)
        have hfin : M.lay all at_ (vs.take (k + n)) = N := by rw [HST.out, HPG.out, if_neg (fun g => hpn g.1)]
        have hr4 : RamAt wr B (M.lay all at_ (vs.take (k + n))) := hr.as hfin.symm
        clear hpn hfin hr
        go_wp2_with fail
        refine cP.mono ?_; rintro e w' ⟨rfl, hw⟩; replace hw := hw.symm; subst hw
        go_wp2_with fail
        refine cL.mono ?_; rintro e w' ⟨rfl, hw⟩; replace hw := hw.symm; subst hw
        go_wp2_with fail
        refine cO.mono ?_; rintro e w' ⟨rfl, hw⟩; replace hw := hw.symm; subst hw
        go_wp2
        go_roundw
        case rel =>
          refine ⟨k + n, by omega, ?_, ?_, hr4, hkp⟩
          · congr 1; have := HA.out; omega
          · refine ⟨_, _, by congr 1; omega, fun hlt => ?_⟩
            rw [if_neg (by omega)]
            exact ⟨by congr 2; omega, by omega⟩
        case measure => simp [slLen]; omega
    · have e : k = L := by omega
      subst e
      clear hp hp'
      go_wp2
      go_end0
      refine ⟨rfl, ?_, hkp⟩
      rw [← hv, List.take_length] at hr
      exact hr
end Go.Proofs.Ytmmnnafjikilpaa

/- The contracts of ram's methods. -/
namespace Go.Proofs.Ytmmnnafjikilpaa
open Go.ChangeShapes Go.WideShapes Go.ChangeAt Go.RowKit Go.Maps
set_option linter.unusedVariables false

def okS (s : Int) : Bool := decide (s = 1 ∨ s = 2 ∨ s = 4)

theorem rd_bd {w : World} {B : Nat} {M : Mem} (h : RamAt w B M) (a : Int) (a0 : 0 ≤ a) (a1 : a < 4294967296) : 0 ≤ M.rd a ∧ M.rd a < 256 := by
  unfold Mem.rd
  have := M.place_bd a0 a1
  split
  · exact h.bb _ (by omega)
  · omega

def noB (k : Nat) : Prop := False

/-- One step more, in blocks that were not there before, or that may turn. -/
theorem Kp.over {S T : Nat → Prop} {a b c : World} (h : Kp T a b) (k : Kp S b c) (hS : ∀ j, j < a.heap.size → S j → T j) : Kp T a c :=
  ⟨k.os.trans h.os, k.tape.trans h.tape, k.output.trans h.output, Nat.le_trans h.size k.size, fun i hi hs => (k.block i (Nat.lt_of_lt_of_le hi h.size) (fun g => hs (hS i hi g))).trans (h.block i hi hs)⟩

theorem or_add {a b : Int} (i : Nat) (a0 : 0 ≤ a) (b0 : 0 ≤ b) (h : a < ((2 ^ i : Nat) : Int)) (hi : a < 4294967296) (h2 : b * ((2 ^ i : Nat) : Int) < 4294967296) : bits .or .u32 a (b * ((2 ^ i : Nat) : Int)) = a + b * ((2 ^ i : Nat) : Int) := by
  have hb : 0 ≤ b * ((2 ^ i : Nat) : Int) := Int.mul_nonneg b0 (Int.natCast_nonneg _)
  rw [u32_or a _ a0 hi hb h2]
  obtain ⟨x, rfl⟩ := Int.eq_ofNat_of_zero_le a0
  obtain ⟨y, rfl⟩ := Int.eq_ofNat_of_zero_le b0
  have e : ((y : Int) * ((2 ^ i : Nat) : Int)) = ((2 ^ i * y : Nat) : Int) := by rw [Int.natCast_mul, Int.mul_comm]
  rw [e, Int.toNat_natCast, Int.toNat_natCast, Nat.or_comm]
  have := Nat.two_pow_add_eq_or_of_lt (b := x) (i := i) (by omega) y
  rw [← this]
  omega

theorem or4 {b0 b1 b2 b3 : Int} (e0 : 0 ≤ b0) (f0 : b0 < 256) (e1 : 0 ≤ b1) (f1 : b1 < 256) (e2 : 0 ≤ b2) (f2 : b2 < 256) (e3 : 0 ≤ b3) (f3 : b3 < 256) :
    bits .or .u32 (bits .or .u32 (bits .or .u32 b0 (b1 * 256)) (b2 * 65536)) (b3 * 16777216) = b0 + b1 * 256 + b2 * 65536 + b3 * 16777216 := by
  have h1 := or_add (a := b0) (b := b1) 8 e0 e1 (by simpa using f0) (by omega) (by simp; omega)
  rw [show ((2 ^ 8 : Nat) : Int) = 256 by decide] at h1
  rw [h1]
  have h2 := or_add (a := b0 + b1 * 256) (b := b2) 16 (by omega) e2 (by simp; omega) (by omega) (by simp; omega)
  rw [show ((2 ^ 16 : Nat) : Int) = 65536 by decide] at h2
  rw [h2]
  have h3 := or_add (a := b0 + b1 * 256 + b2 * 65536) (b := b3) 24 (by omega) e3 (by simp; omega) (by omega) (by simp; omega)
  rw [show ((2 ^ 24 : Nat) : Int) = 16777216 by decide] at h3
  exact h3

theorem read_nil (w : World) (x s : Int) :
    Calls Try.prog 62 #[.pointer none, .int .u32 x, .int .i64 s] w fun e w' => e = .returned (.tuple #[.int .u32 0, .int .i64 1]) ∧ w' = w := by
  go_enter Try.func62, Try.ntmps62
  go_wp2
  exact bodyPost_ret (v := .tuple #[.int .u32 0, .int .i64 1]) (by simp [results, Try.results62, go_sem]) rfl ⟨rfl, rfl⟩

theorem read_no (w : World) (b : Addr) (x s : Int) (s0 : -9223372036854775808 ≤ s) (s1 : s ≤ 9223372036854775807) (h : okS s = false) :
    Calls Try.prog 62 #[.pointer (some b), .int .u32 x, .int .i64 s] w fun e w' => e = .returned (.tuple #[.int .u32 0, .int .i64 2]) ∧ w' = w := by
  have h' : decide (s = 1 ∨ s = 2 ∨ s = 4) = false := h
  go_enter Try.func62, Try.ntmps62
  go_wp2_with fail
  refine (isSize_any w s s0 s1).mono ?_; rintro e w' ⟨rfl, hw⟩; replace hw := hw.symm; subst hw
  rw [h']
  go_wp2
  exact bodyPost_ret (v := .tuple #[.int .u32 0, .int .i64 2]) (by simp [results, Try.results62, go_sem]) rfl ⟨rfl, rfl⟩

theorem array4T : Try.prog.underlying 105 = some (.array 4 5) := by kernel_rfl
theorem run_slice4 (w : World) (b n : Nat) (h0 : 1 ≤ n) (h : n ≤ 4) : (Instr.sliceAt 105 (.pointer (some ⟨b, 0, none⟩)) none (some (.int .i64 n)) none).run Try.prog w = .ok (.slice (some ⟨b, 0, none⟩) n 4) w := by
  have h2 : (n : Int) ≤ 4 := by omega
  cases hi : Try.prog.info? 5 with
  | none => have := byteT; rw [hi] at this; cases this
  | some i =>
    simp [Instr.sliceAt, Instr.sureAddr, run_underlying array4T, Instr.sliceBounds, run_sliceBound, sizeOf, typeInfo, hi, h2, Addr.add]

/-- What stands in the j-th of four cells, n of which were read. -/
def cellB (M : Mem) (x : Int) (n j : Nat) : Int := if j < n then M.rd ((x + j) % 4294967296) else 0

def Mem.read (M : Mem) (x : Int) (n : Nat) : Int := cellB M x n 0 + cellB M x n 1 * 256 + cellB M x n 2 * 65536 + cellB M x n 3 * 16777216

set_option maxRecDepth 100000 in
theorem read_ok (w : World) (B : Nat) (M : Mem) (h : RamAt w B M) (x s : Int) (x0 : 0 ≤ x) (x1 : x < 4294967296) (hs : okS s = true) :
    Calls Try.prog 62 #[.pointer (some ⟨B + 3, 0, none⟩), .int .u32 x, .int .i64 s] w fun e w' => e = .returned (.tuple #[.int .u32 (M.read x s.toNat), .int .i64 0]) ∧ Kp noB w w' := by
  have h' : decide (s = 1 ∨ s = 2 ∨ s = 4) = true := hs
  have hs1 : s = 1 ∨ s = 2 ∨ s = 4 := by simpa [okS] using hs
  obtain ⟨n, rfl⟩ : ∃ n : Nat, s = n := ⟨s.toNat, by omega⟩
  have n1 : n ≤ 4 := by omega
  have n0 : 1 ≤ n := by omega
  have hlt := h.lt
  have hnew := (MapKept.heap_alloc w (.cells #[.int .u8 0, .int .u8 0, .int .u8 0, .int .u8 0] 105)).1
  have cT := tell_any (w.alloc (.cells #[.int .u8 0, .int .u8 0, .int .u8 0, .int .u8 0] 105)) B M (h.alloc _) x x0 x1 w.heap.size 0 n 4 _ _ hnew (by simp; omega) (by omega) (by omega) (fun hi => by have := hi.2; omega)
  have cI := isSize_any w n (by omega) (by omega)
  rw [h'] at cI
  clear hs h' hs1 hnew
  go_enter Try.func62, Try.ntmps62
  go_wp2_with fail
  refine cI.mono ?_; rintro e w' ⟨rfl, hw⟩; replace hw := hw.symm; subst hw
  have hsl := run_slice4 (w.alloc (.cells #[.int .u8 0, .int .u8 0, .int .u8 0, .int .u8 0] 105)) w.heap.size n n0 n1
  go_wp2_with fail
  refine cT.mono ?_; rintro e w2 ⟨rfl, ⟨cur, hh, hl⟩, hk⟩
  have hkp : Kp noB w w2 := (Kp.alloc noB w _).over hk (fun j hj e => by omega)
  have hc : ∀ j, j < 4 → w2.cell? ⟨w.heap.size, j, none⟩ = some (.int .u8 (cellB M x n j)) := fun j hj => by
    rw [cell_at hh, hl.2 j]
    unfold cellB
    by_cases e : j < n
    · rw [if_pos (by omega), if_pos e]; simp
    · rw [if_neg (by omega), if_neg e]
      rcases (by omega : j = 0 ∨ j = 1 ∨ j = 2 ∨ j = 3) with rfl | rfl | rfl | rfl <;> rfl
  have hcb : ∀ j, j < 4 → 0 ≤ cellB M x n j ∧ cellB M x n j < 256 := fun j hj => by
    unfold cellB; split
    · exact rd_bd h _ (by omega) (by omega)
    · omega
  have d0 := hc 0 (by decide); have d1 := hc 1 (by decide); have d2 := hc 2 (by decide); have d3 := hc 3 (by decide)
  have e0 := hcb 0 (by decide); have e1 := hcb 1 (by decide); have e2 := hcb 2 (by decide); have e3 := hcb 3 (by decide)
  have HR : Hid (M.read x n = cellB M x n 0 + cellB M x n 1 * 256 + cellB M x n 2 * 65536 + cellB M x n 3 * 16777216) := rfl
  generalize cellB M x n 0 = b0 at *
  generalize cellB M x n 1 = b1 at *
  generalize cellB M x n 2 = b2 at *
  generalize cellB M x n 3 = b3 at *
  clear hc hcb hl hh hk
  obtain ⟨e0, f0⟩ := e0; obtain ⟨e1, f1⟩ := e1; obtain ⟨e2, f2⟩ := e2; obtain ⟨e3, f3⟩ := e3
  have HO : Hid (bits .or .u32 (bits .or .u32 (bits .or .u32 b0 (b1 * 256)) (b2 * 65536)) (b3 * 16777216) = b0 + b1 * 256 + b2 * 65536 + b3 * 16777216) := or4 e0 f0 e1 f1 e2 f2 e3 f3
  go_wp2
  refine bodyPost_ret (v := .tuple #[.int .u32 (M.read x n), .int .i64 0]) ?_ rfl ⟨rfl, hkp⟩
  rw [HR.out, ← HO.out]
  simp [results, Try.results62, go_sem]

/-- The four bytes of a value, the lowest first. -/
def bytesV (v : Int) : List Int := [v % 256, v / 256 % 256, v / 65536 % 256, v / 16777216]

theorem write_nil (w : World) (x s v : Int) :
    Calls Try.prog 26 #[.pointer none, .int .u32 x, .int .i64 s, .int .u32 v] w fun e w' => e = .returned (.int .i64 1) ∧ w' = w := by
  go_enter Try.func26, Try.ntmps26
  go_wp2
  go_ret
  exact ⟨rfl, rfl⟩

theorem write_no (w : World) (b : Addr) (x s v : Int) (s0 : -9223372036854775808 ≤ s) (s1 : s ≤ 9223372036854775807) (h : okS s = false) :
    Calls Try.prog 26 #[.pointer (some b), .int .u32 x, .int .i64 s, .int .u32 v] w fun e w' => e = .returned (.int .i64 2) ∧ w' = w := by
  have h' : decide (s = 1 ∨ s = 2 ∨ s = 4) = false := h
  go_enter Try.func26, Try.ntmps26
  go_wp2_with fail
  refine (isSize_any w s s0 s1).mono ?_; rintro e w' ⟨rfl, hw⟩; replace hw := hw.symm; subst hw
  rw [h']
  go_wp2
  go_ret
  exact ⟨rfl, rfl⟩

set_option maxRecDepth 100000 in
theorem write_ok (w : World) (B : Nat) (M : Mem) (h : RamAt w B M) (x s v : Int) (x0 : 0 ≤ x) (x1 : x < 4294967296) (v0 : 0 ≤ v) (v1 : v < 4294967296) (hs : okS s = true) :
    Calls Try.prog 26 #[.pointer (some ⟨B + 3, 0, none⟩), .int .u32 x, .int .i64 s, .int .u32 v] w fun e w' => e = .returned (.int .i64 0) ∧ RamAt w' B (M.lay false x ((bytesV v).take s.toNat)) ∧ Kp (inRam B M.n) w w' := by
  have h' : decide (s = 1 ∨ s = 2 ∨ s = 4) = true := hs
  have hs1 : s = 1 ∨ s = 2 ∨ s = 4 := by simpa [okS] using hs
  obtain ⟨n, rfl⟩ : ∃ n : Nat, s = n := ⟨s.toNat, by omega⟩
  have n1 : n ≤ 4 := by omega
  have n0 : 1 ≤ n := by omega
  have hlt := h.lt
  have cI := isSize_any w n (by omega) (by omega)
  rw [h'] at cI
  clear hs h' hs1
  obtain ⟨wv, hwv⟩ : ∃ wv, wv = w.alloc (.cells #[.int .u8 (v % 256), .int .u8 (v / 256 % 256), .int .u8 (v / 65536 % 256), .int .u8 (v / 16777216)] 105) := ⟨_, rfl⟩
  have hnew : wv.heap[w.heap.size]? = some (.cells #[.int .u8 (v % 256), .int .u8 (v / 256 % 256), .int .u8 (v / 65536 % 256), .int .u8 (v / 16777216)] 105 (0, 0)) := by rw [hwv]; exact (MapKept.heap_alloc w _).1
  have hsz : w.heap.size < wv.heap.size := by rw [hwv]; simp
  have hrv : RamAt wv B M := by rw [hwv]; exact h.alloc _
  have hkv : Kp (inRam B M.n) w wv := by rw [hwv]; exact Kp.alloc _ _ _
  have hget : ∀ j, j < n → ((bytesV v).take n).getD j 0 = (bytesV v).getD j 0 := fun j hj => by simp [List.getD_eq_getElem?_getD, List.getElem?_take_of_lt hj]
  have cW := lay_any wv B M hrv false x x0 x1 (some ⟨w.heap.size, 0, none⟩) w.heap.size 0 n 4 ((bytesV v).take n) (by simp [bytesV]; omega) (by omega) (fun _ => ⟨rfl, n1, fun hi => by have := hi.2; omega, hsz, fun j hj => by
      rw [hget j hj, cell_at hnew]
      rcases (by omega : j = 0 ∨ j = 1 ∨ j = 2 ∨ j = 3) with rfl | rfl | rfl | rfl <;> rfl⟩) (fun j hj => by
      rw [hget j hj]
      rcases (by omega : j = 0 ∨ j = 1 ∨ j = 2 ∨ j = 3) with rfl | rfl | rfl | rfl <;> simp [bytesV] <;> omega)
  have hsl := run_slice4 wv w.heap.size n n0 n1
  rw [hwv] at cW hsl
  have HWV : Hid (wv = w.alloc (.cells #[.int .u8 (v % 256), .int .u8 (v / 256 % 256), .int .u8 (v / 65536 % 256), .int .u8 (v / 16777216)] 105)) := hwv
  clear hnew hsz hrv hget hwv
  go_enter Try.func26, Try.ntmps26
  go_wp2_with fail
  refine cI.mono ?_; rintro e w' ⟨rfl, hw⟩; replace hw := hw.symm; subst hw
  go_wp2_with fail
  refine cW.mono ?_; rintro e w2 ⟨rfl, hr2, hk2⟩
  rw [← HWV.out] at hk2
  have hk3 := hkv.trans hk2
  clear hk2 hkv
  go_wp2
  go_ret
  exact ⟨rfl, by simpa using hr2, hk3⟩

theorem ram_gate {w : World} {B : Nat} {M : Mem} (h : RamAt w B M) (b : Bool) : RamAt (w.setCell ⟨B + 3, 1, none⟩ (.bool b)) B { M with closed := b } := by
  have hold : ∀ j, inRam B M.n j → j ≠ B + 3 → (w.setCell ⟨B + 3, 1, none⟩ (.bool b)).heap[j]? = w.heap[j]? := fun j hj hne => Below.heap_setCell _ _ _ _ hne
  exact {
    le := h.le
    r := by rw [heap_setCell_at h.r]; simp
    p := by obtain ⟨D', h1, h2⟩ := h.p; exact ⟨D', owns_at h1 (hold _ ⟨by omega, by omega⟩ (by omega)), h2⟩
    pg := fun i hi => by obtain ⟨cs, h1, h2⟩ := h.pg i hi; exact ⟨cs, (hold _ ⟨by omega, by have : i < M.n := hi; omega⟩ (by omega)).trans h1, h2⟩
    wm := by obtain ⟨D', h1, h2⟩ := h.wm; exact ⟨D', owns_at h1 (hold _ ⟨by omega, by omega⟩ (by omega)), h2⟩
    nm := by obtain ⟨D', h1, h2⟩ := h.nm; exact ⟨D', owns_at h1 (hold _ ⟨by omega, by omega⟩ (by omega)), h2⟩
    wb := h.wb
    nb := h.nb
    bb := h.bb }

theorem rom_nil (w : World) (i : Int) (b : Bool) :
    Calls Try.prog 28 #[.pointer none, .int .i64 i, .bool b] w fun e w' => e = .returned (.int .i64 1) ∧ w' = w := by
  go_enter Try.func28, Try.ntmps28
  go_wp2
  go_ret
  exact ⟨rfl, rfl⟩

theorem ram_rom {w : World} {B : Nat} {M : Mem} (h : RamAt w B M) {i : Nat} (hi : i < M.n) (b : Bool) : RamAt (w.setCell ⟨B + 4 + i, 4096, none⟩ (.bool b)) B { M with only := fun j => if j = i then b else M.only j } := by
  have hold : ∀ j, inRam B M.n j → j ≠ B + 4 + i → (w.setCell ⟨B + 4 + i, 4096, none⟩ (.bool b)).heap[j]? = w.heap[j]? := fun j hj hne => Below.heap_setCell _ _ _ _ hne
  exact {
    le := h.le
    r := (hold _ ⟨by omega, by omega⟩ (by omega)).trans h.r
    p := by obtain ⟨D', h1, h2⟩ := h.p; exact ⟨D', owns_at h1 (hold _ ⟨by omega, by omega⟩ (by omega)), h2⟩
    pg := fun i' hi' => by
      have hi'' : i' < M.n := hi'
      by_cases e : i' = i
      · subst e
        obtain ⟨cs, h1, h2, h3, h4⟩ := h.pg i' hi''
        refine ⟨cs.setIfInBounds 4096 (.bool b), heap_setCell_at h1 _, by simp [h2], fun j hj => ?_, ?_⟩
        · rw [Array.getElem?_setIfInBounds, if_neg (by omega)]; exact h3 j hj
        · rw [Array.getElem?_setIfInBounds, if_pos rfl, if_pos (by omega)]; simp
      · obtain ⟨cs, h1, h2, h3, h4⟩ := h.pg i' hi''
        refine ⟨cs, (hold _ ⟨by omega, by omega⟩ (by omega)).trans h1, h2, h3, ?_⟩
        rw [h4]; simp [e]
    wm := by obtain ⟨D', h1, h2⟩ := h.wm; exact ⟨D', owns_at h1 (hold _ ⟨by omega, by omega⟩ (by omega)), h2⟩
    nm := by obtain ⟨D', h1, h2⟩ := h.nm; exact ⟨D', owns_at h1 (hold _ ⟨by omega, by omega⟩ (by omega)), h2⟩
    wb := h.wb
    nb := h.nb
    bb := h.bb }

set_option maxRecDepth 100000 in
theorem rom_ok (w : World) (B : Nat) (M : Mem) (h : RamAt w B M) (i : Nat) (b : Bool) (hi : i < M.n) :
    Calls Try.prog 28 #[.pointer (some ⟨B + 3, 0, none⟩), .int .i64 i, .bool b] w fun e w' => e = .returned (.int .i64 0) ∧ RamAt w' B { M with only := fun j => if j = i then b else M.only j } ∧ Kp (inRam B M.n) w w' := by
  have c0 := h.c0
  have cp := h.pc hi
  have cf : w.frozen? ⟨B + 4 + i, 4096, none⟩ = false := by obtain ⟨cs, h1, _⟩ := h.pg i hi; exact frozen_at h1
  have R := ram_rom h hi b
  have K := Kp.setCell (S := inRam B M.n) w (p := ⟨B + 4 + i, 4096, none⟩) (show inRam B M.n (B + 4 + i) from ⟨by omega, by omega⟩) (.bool b)
  have hle := h.le
  obtain ⟨D, hown, hat, _, _⟩ := h.p
  have hp : pageAt B M.n i = (B : Int) + 4 + i := by unfold pageAt; rw [if_pos (by omega)]
  have ht : ((B : Int) + 4 + i).toNat = B + 4 + i := by omega
  go_enter Try.func28, Try.ntmps28
  go_wp2_with (first
    | (at_lookup; refine wpList_page _ rfl _ _ 89 rfl 3 97 (int_keyed intT) pagesT (zeroPtr _) B 256 D rfl hown _ _ rfl (keyI (x := (i : Int)) (by omega) (by omega)) _ (hat _) ?_; rw [hp, if_pos (by omega), ht])
    | go_in)
  go_ret
  exact ⟨rfl, R, K⟩

theorem rom_no (w : World) (B : Nat) (M : Mem) (h : RamAt w B M) (i : Int) (b : Bool) (i0 : -9223372036854775808 ≤ i) (i1 : i ≤ 9223372036854775807) (hi : i < 0 ∨ M.n ≤ i) :
    Calls Try.prog 28 #[.pointer (some ⟨B + 3, 0, none⟩), .int .i64 i, .bool b] w fun e w' => e = .returned (.int .i64 1) ∧ w' = w := by
  have c0 := h.c0
  obtain ⟨D, hown, hat, _, _⟩ := h.p
  have hp : pageAt B M.n i = -1 := by unfold pageAt; rw [if_neg (by omega)]
  go_enter Try.func28, Try.ntmps28
  go_wp2_with (first
    | (at_lookup; refine wpList_page _ rfl _ _ 89 rfl 3 97 (int_keyed intT) pagesT (zeroPtr _) B 256 D rfl hown _ _ rfl (keyI (x := i) (by omega) (by omega)) _ (hat _) ?_; rw [hp, if_neg (by omega)])
    | go_in)
  go_ret
  exact ⟨rfl, rfl⟩

theorem len_nil (w : World) : Calls Try.prog 14 #[.pointer none] w fun e w' => e = .returned (.int .i64 0) ∧ w' = w := by
  go_enter Try.func14, Try.ntmps14
  go_wp2
  go_ret
  exact ⟨rfl, rfl⟩

theorem len_ok (w : World) (B : Nat) (M : Mem) (h : RamAt w B M) : Calls Try.prog 14 #[.pointer (some ⟨B + 3, 0, none⟩)] w fun e w' => e = .returned (.int .i64 (4096 * M.n)) ∧ w' = w := by
  have c0 := h.c0
  have hle := h.le
  obtain ⟨D, hown, _, _, hsz⟩ := h.p
  go_enter Try.func14, Try.ntmps14
  go_wp2_with (first
    | (at_len; refine wpList_len_own _ rfl _ 89 rfl 3 97 pagesT _ B 256 D rfl hown ?_; rw [hsz])
    | go_in)
  go_ret
  exact ⟨ret_int (by omega), rfl⟩

end Go.Proofs.Ytmmnnafjikilpaa

/- The contract of Watch, and what calls of none answer. -/
namespace Go.Proofs.Ytmmnnafjikilpaa
open Go.ChangeShapes Go.WideShapes Go.ChangeAt Go.RowKit Go.Maps
set_option linter.unusedVariables false

theorem RamAt.drewN {w : World} {B : Nat} {M : Mem} (h : RamAt w B M) (n : Nat) : RamAt (w.drewN n) B M := h.kept (fun _ _ => rfl)

theorem dump_nil (w : World) (x n : Int) : Calls Try.prog 13 #[.pointer none, .int .u32 x, .int .i64 n] w fun e w' => e = .returned (.slice none 0 0) ∧ w' = w := by
  go_enter Try.func13, Try.ntmps13
  go_wp2
  go_ret
  exact ⟨rfl, rfl⟩

end Go.Proofs.Ytmmnnafjikilpaa
