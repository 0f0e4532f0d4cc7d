/- Plain facts on 32-bit words, their bits and flags: no Go in sight; each says what a number's bit or a flag is, under the bounds that it names. -/
import Derived.WalkKit
import Derived.ProofKit
import Derived.Laws.BitsAllLaws
import Derived.Lib.BitFns
namespace Go.Proofs.Ytmmnnafjikilpaa
set_option linter.unusedVariables false

def tb (f : Int) (i : Nat) : Bool := f.toNat.testBit i
def flg (b : Bool) (f : Int) : Int := if b then f else 0
def setF (f k : Int) (b : Bool) : Int := (if f / k % 2 = 1 then f - k else f) + flg b k
def hasF (f k : Int) : Bool := f / k % 2 == 1
def sgn (H x : Int) : Bool := decide (H ≤ x)
def ones (x : Int) : Int := Lib.onesCount (x % 256).toNat
def par (x : Int) : Bool := ones x % 2 == 0
def mkM (cf af vf : Bool) : Int := flg cf 1 + flg af 16 + flg vf 2048
def byF (H x f : Int) : Int := setF (setF (setF f 64 (x == 0)) 128 (sgn H x)) 4 (par x)
def Sz (s H M sp bt : Int) : Prop := (s = 1 ∧ H = 128 ∧ M = 256 ∧ sp = 24 ∧ bt = 8) ∨ (s = 2 ∧ H = 32768 ∧ M = 65536 ∧ sp = 16 ∧ bt = 16) ∨ (s = 4 ∧ H = 2147483648 ∧ M = 4294967296 ∧ sp = 0 ∧ bt = 32)

theorem tb_ext {a b : Int} (ha : 0 ≤ a) (hb : 0 ≤ b) (h : ∀ i, tb a i = tb b i) : a = b := by
  have e : a.toNat = b.toNat := Nat.eq_of_testBit_eq h
  omega

theorem tb_high {a : Int} (h : a < 4294967296) {i : Nat} (hi : 32 ≤ i) : tb a i = false := by
  unfold tb
  apply Nat.testBit_lt_two_pow
  have : (2 : Nat) ^ 32 ≤ 2 ^ i := Nat.pow_le_pow_right (by decide) hi
  have e : (2 : Nat) ^ 32 = 4294967296 := by decide
  omega

theorem lt32_or {a b : Nat} (ha : a < 4294967296) (hb : b < 4294967296) : a ||| b < 4294967296 := Nat.or_lt_two_pow (n := 32) ha hb
theorem lt32_xor {a b : Nat} (ha : a < 4294967296) (hb : b < 4294967296) : a ^^^ b < 4294967296 := Nat.xor_lt_two_pow (n := 32) ha hb
theorem lt32_and {a b : Nat} (hb : b < 4294967296) : a &&& b < 4294967296 := Nat.and_lt_two_pow (n := 32) a hb

theorem or_bd {a b : Int} (a0 : 0 ≤ a) (a1 : a < 4294967296) (b0 : 0 ≤ b) (b1 : b < 4294967296) : 0 ≤ bits .or .u32 a b ∧ bits .or .u32 a b < 4294967296 := by
  rw [u32_or a b a0 a1 b0 b1]
  have := lt32_or (a := a.toNat) (b := b.toNat) (by omega) (by omega)
  omega
theorem and_bd {a b : Int} (a0 : 0 ≤ a) (a1 : a < 4294967296) (b0 : 0 ≤ b) (b1 : b < 4294967296) : 0 ≤ bits .and .u32 a b ∧ bits .and .u32 a b < 4294967296 := by
  rw [u32_and a b a0 a1 b0 b1]
  have := lt32_and (a := a.toNat) (b := b.toNat) (by omega)
  omega
theorem xor_bd {a b : Int} (a0 : 0 ≤ a) (a1 : a < 4294967296) (b0 : 0 ≤ b) (b1 : b < 4294967296) : 0 ≤ bits .xor .u32 a b ∧ bits .xor .u32 a b < 4294967296 := by
  rw [u32_xor a b a0 a1 b0 b1]
  have := lt32_xor (a := a.toNat) (b := b.toNat) (by omega) (by omega)
  omega
theorem andNot_bd {a b : Int} (a0 : 0 ≤ a) (a1 : a < 4294967296) (b0 : 0 ≤ b) (b1 : b < 4294967296) : 0 ≤ bits .andNot .u32 a b ∧ bits .andNot .u32 a b < 4294967296 := by
  rw [u32_andNot a b a0 a1 b0 b1]
  have := lt32_and (a := a.toNat) (b := 4294967295 - b.toNat) (by omega)
  omega

theorem tb_or {a b : Int} (a0 : 0 ≤ a) (a1 : a < 4294967296) (b0 : 0 ≤ b) (b1 : b < 4294967296) (i : Nat) : tb (bits .or .u32 a b) i = (tb a i || tb b i) := by
  rw [u32_or a b a0 a1 b0 b1]; simp [tb]
theorem tb_and {a b : Int} (a0 : 0 ≤ a) (a1 : a < 4294967296) (b0 : 0 ≤ b) (b1 : b < 4294967296) (i : Nat) : tb (bits .and .u32 a b) i = (tb a i && tb b i) := by
  rw [u32_and a b a0 a1 b0 b1]; simp [tb]
theorem tb_xor {a b : Int} (a0 : 0 ≤ a) (a1 : a < 4294967296) (b0 : 0 ≤ b) (b1 : b < 4294967296) (i : Nat) : tb (bits .xor .u32 a b) i = (tb a i ^^ tb b i) := by
  rw [u32_xor a b a0 a1 b0 b1]; simp [tb]
theorem tb_not {b : Int} (b0 : 0 ≤ b) (b1 : b < 4294967296) {i : Nat} (hi : i < 32) : tb (4294967295 - b) i = !tb b i := by
  have e : (4294967295 - b).toNat = 2 ^ 32 - (b.toNat + 1) := by
    have : (2 : Nat) ^ 32 = 4294967296 := by decide
    omega
  unfold tb
  rw [e, Nat.testBit_two_pow_sub_succ (by have : (2 : Nat) ^ 32 = 4294967296 := by decide
                                          omega)]
  simp [hi]
theorem tb_andNot {a b : Int} (a0 : 0 ≤ a) (a1 : a < 4294967296) (b0 : 0 ≤ b) (b1 : b < 4294967296) (i : Nat) : tb (bits .andNot .u32 a b) i = (tb a i && !tb b i) := by
  rw [u32_andNot a b a0 a1 b0 b1]
  by_cases hi : i < 32
  · have h := tb_not b0 b1 hi
    have e : (4294967295 - b).toNat = 4294967295 - b.toNat := by omega
    unfold tb at h ⊢
    rw [e] at h
    simp [h]
  · have h := tb_high a1 (i := i) (by omega)
    unfold tb at h ⊢
    simp [h]

theorem tb_flg (b : Bool) (j : Nat) (i : Nat) : tb (flg b ((2 ^ j : Nat) : Int)) i = (b && decide (i = j)) := by
  cases b
  · simp [flg, tb]
  · simp only [flg, if_true, tb, Int.toNat_natCast, Nat.testBit_two_pow, Bool.true_and]
    simp [eq_comm]

/-- a number with its bit j laid anew -/
theorem lay_bit (m r j i : Nat) (c : Nat) (hr : r < 2 ^ j) (hc : c < 2) : (2 ^ j * (2 * m + c) + r).testBit i = if i = j then decide (c = 1) else if i < j then r.testBit i else m.testBit (i - j - 1) := by
  rw [Nat.testBit_two_pow_mul_add _ hr]
  by_cases h1 : i < j
  · simp [h1, Nat.ne_of_lt h1]
  · by_cases h2 : i = j
    · subst h2
      have : c = 0 ∨ c = 1 := by omega
      rcases this with rfl | rfl <;> simp [Nat.testBit_zero] <;> omega
    · obtain ⟨t, rfl⟩ : ∃ t, i = j + (t + 1) := ⟨i - j - 1, by omega⟩
      have e1 : j + (t + 1) - j = t + 1 := by omega
      have e2 : j + (t + 1) - j - 1 = t := by omega
      rw [if_neg h1, if_neg h2, if_neg h1, e2, e1, Nat.testBit_succ]
      congr 1
      omega

theorem setF_nat (f j : Nat) (b : Bool) : setF (f : Int) ((2 ^ j : Nat) : Int) b = ((2 ^ j * (2 * (f / 2 ^ j / 2) + b.toNat) + f % 2 ^ j : Nat) : Int) := by
  have hd := Nat.div_add_mod f (2 ^ j)
  have hq : f / 2 ^ j = 2 * (f / 2 ^ j / 2) + f / 2 ^ j % 2 := by omega
  have hc : f / 2 ^ j % 2 = 0 ∨ f / 2 ^ j % 2 = 1 := by omega
  have e1 : ((f : Int) / ((2 ^ j : Nat) : Int) % 2) = ((f / 2 ^ j % 2 : Nat) : Int) := by
    rw [Int.natCast_emod, Int.natCast_ediv]; rfl
  unfold setF
  rw [e1]
  generalize hm : f / 2 ^ j / 2 = m at *
  generalize hr : f % 2 ^ j = r at *
  generalize hp : 2 ^ j = p at *
  generalize hqq : f / p = q at *
  rcases hc with hc | hc
  · rw [hc] at hq ⊢
    have e2 : q = 2 * m := by omega
    rw [if_neg (by decide)]
    have e3 : f = p * (2 * m) + r := by rw [← e2]; exact hd.symm
    cases b
    · simp only [flg, Bool.toNat_false]; rw [e3]; push_cast; simp
    · simp only [flg, Bool.toNat_true, if_true]; rw [e3, Nat.mul_add]; push_cast; simp; omega
  · rw [hc] at hq ⊢
    have e3 : f = p * (2 * m) + p + r := by rw [← hd, hq, Nat.mul_add]; omega
    rw [if_pos (by decide)]
    cases b
    · simp only [flg, Bool.toNat_false]; rw [e3]; push_cast; simp; omega
    · simp only [flg, Bool.toNat_true, if_true]; rw [e3, Nat.mul_add]; push_cast; simp

theorem tb_setF (f : Int) (f0 : 0 ≤ f) (j : Nat) (b : Bool) (i : Nat) : tb (setF f ((2 ^ j : Nat) : Int) b) i = if i = j then b else tb f i := by
  obtain ⟨n, rfl⟩ := Int.eq_ofNat_of_zero_le f0
  rw [setF_nat]
  unfold tb
  rw [Int.toNat_natCast, Int.toNat_natCast, lay_bit _ _ _ _ _ (Nat.mod_lt _ (Nat.two_pow_pos j)) (by cases b <;> decide)]
  by_cases h : i = j
  · simp only [h, if_true]; cases b <;> rfl
  · rw [if_neg h, if_neg h]
    have e : n = 2 ^ j * (2 * (n / 2 ^ j / 2) + n / 2 ^ j % 2) + n % 2 ^ j := by
      have hd := Nat.div_add_mod n (2 ^ j)
      have hq : 2 * (n / 2 ^ j / 2) + n / 2 ^ j % 2 = n / 2 ^ j := by omega
      rw [hq]; exact hd.symm
    have := lay_bit (n / 2 ^ j / 2) (n % 2 ^ j) j i (n / 2 ^ j % 2) (Nat.mod_lt _ (Nat.two_pow_pos j)) (Nat.mod_lt _ (by decide))
    rw [← e, if_neg h] at this
    exact this.symm

theorem setF_bd {f : Int} (f0 : 0 ≤ f) (f1 : f < 4294967296) (k : Int) (hk : k = 1 ∨ k = 4 ∨ k = 16 ∨ k = 64 ∨ k = 128 ∨ k = 2048) (b : Bool) : 0 ≤ setF f k b ∧ setF f k b < 4294967296 := by
  unfold setF flg
  rcases hk with rfl | rfl | rfl | rfl | rfl | rfl <;> cases b <;> simp <;> split <;> omega

theorem tb_set1 {f : Int} (f0 : 0 ≤ f) (b : Bool) (i : Nat) : tb (setF f 1 b) i = if i = 0 then b else tb f i := tb_setF f f0 0 b i
theorem tb_set4 {f : Int} (f0 : 0 ≤ f) (b : Bool) (i : Nat) : tb (setF f 4 b) i = if i = 2 then b else tb f i := tb_setF f f0 2 b i
theorem tb_set16 {f : Int} (f0 : 0 ≤ f) (b : Bool) (i : Nat) : tb (setF f 16 b) i = if i = 4 then b else tb f i := tb_setF f f0 4 b i
theorem tb_set64 {f : Int} (f0 : 0 ≤ f) (b : Bool) (i : Nat) : tb (setF f 64 b) i = if i = 6 then b else tb f i := tb_setF f f0 6 b i
theorem tb_set128 {f : Int} (f0 : 0 ≤ f) (b : Bool) (i : Nat) : tb (setF f 128 b) i = if i = 7 then b else tb f i := tb_setF f f0 7 b i
theorem tb_set2048 {f : Int} (f0 : 0 ≤ f) (b : Bool) (i : Nat) : tb (setF f 2048 b) i = if i = 11 then b else tb f i := tb_setF f f0 11 b i
theorem tb_flg1 (b : Bool) (i : Nat) : tb (flg b 1) i = (b && decide (i = 0)) := tb_flg b 0 i
theorem tb_flg4 (b : Bool) (i : Nat) : tb (flg b 4) i = (b && decide (i = 2)) := tb_flg b 2 i
theorem tb_flg16 (b : Bool) (i : Nat) : tb (flg b 16) i = (b && decide (i = 4)) := tb_flg b 4 i
theorem tb_flg64 (b : Bool) (i : Nat) : tb (flg b 64) i = (b && decide (i = 6)) := tb_flg b 6 i
theorem tb_flg128 (b : Bool) (i : Nat) : tb (flg b 128) i = (b && decide (i = 7)) := tb_flg b 7 i
theorem tb_flg2048 (b : Bool) (i : Nat) : tb (flg b 2048) i = (b && decide (i = 11)) := tb_flg b 11 i
theorem flg_bd (b : Bool) (k : Int) (h0 : 0 ≤ k) (h1 : k < 4294967296) : 0 ≤ flg b k ∧ flg b k < 4294967296 := by cases b <;> simp [flg] <;> omega

theorem tb_196 (i : Nat) : tb 196 i = (decide (i = 2) || decide (i = 6) || decide (i = 7)) := by
  have e : (196 : Int).toNat = 2 ^ 2 ||| 2 ^ 6 ||| 2 ^ 7 := by decide
  unfold tb; rw [e]; simp only [Nat.testBit_or, Nat.testBit_two_pow]; simp [eq_comm]
theorem tb_2065 (i : Nat) : tb 2065 i = (decide (i = 0) || decide (i = 4) || decide (i = 11)) := by
  have e : (2065 : Int).toNat = 2 ^ 0 ||| 2 ^ 4 ||| 2 ^ 11 := by decide
  unfold tb; rw [e]; simp only [Nat.testBit_or, Nat.testBit_two_pow]; simp [eq_comm]
theorem tb_2064 (i : Nat) : tb 2064 i = (decide (i = 4) || decide (i = 11)) := by
  have e : (2064 : Int).toNat = 2 ^ 4 ||| 2 ^ 11 := by decide
  unfold tb; rw [e]; simp only [Nat.testBit_or, Nat.testBit_two_pow]; simp [eq_comm]
theorem tb_mkM (c a v : Bool) (i : Nat) : tb (mkM c a v) i = ((c && decide (i = 0)) || (a && decide (i = 4)) || (v && decide (i = 11))) := by
  have e : (mkM c a v).toNat = (bif c then 2 ^ 0 else 0) ||| (bif a then 2 ^ 4 else 0) ||| (bif v then 2 ^ 11 else 0) := by cases c <;> cases a <;> cases v <;> decide
  unfold tb; rw [e]
  cases c <;> cases a <;> cases v <;> simp only [cond_true, cond_false, Nat.testBit_or, Nat.testBit_two_pow, Nat.zero_testBit] <;> simp [eq_comm]
theorem mkM_bd (c a v : Bool) : 0 ≤ mkM c a v ∧ mkM c a v < 4294967296 := by cases c <;> cases a <;> cases v <;> decide

theorem hasF_1 {f : Int} (f0 : 0 ≤ f) : hasF f 1 = tb f 0 := by
  unfold hasF tb
  rw [Nat.testBit_zero, Bool.eq_iff_iff]; simp; omega

/-- the flags by a result, bit by bit -/
theorem by_bits {f : Int} (f0 : 0 ≤ f) (f1 : f < 4294967296) (z s p : Bool) :
    bits .or .u32 (bits .or .u32 (bits .or .u32 (bits .andNot .u32 f 196) (flg z 64)) (flg s 128)) (flg p 4) = setF (setF (setF f 64 z) 128 s) 4 p := by
  have a1 := andNot_bd f0 f1 (b := 196) (by decide) (by decide)
  have a2 := flg_bd z 64 (by decide) (by decide)
  have a3 := or_bd a1.1 a1.2 a2.1 a2.2
  have a4 := flg_bd s 128 (by decide) (by decide)
  have a5 := or_bd a3.1 a3.2 a4.1 a4.2
  have a6 := flg_bd p 4 (by decide) (by decide)
  have a7 := or_bd a5.1 a5.2 a6.1 a6.2
  have b1 := setF_bd f0 f1 64 (by simp) z
  have b2 := setF_bd b1.1 b1.2 128 (by simp) s
  have b3 := setF_bd b2.1 b2.2 4 (by simp) p
  refine tb_ext a7.1 b3.1 fun i => ?_
  rw [tb_or a5.1 a5.2 a6.1 a6.2, tb_or a3.1 a3.2 a4.1 a4.2, tb_or a1.1 a1.2 a2.1 a2.2, tb_andNot f0 f1 (by decide) (by decide), tb_196, tb_flg64, tb_flg128, tb_flg4, tb_set4 b2.1, tb_set128 b1.1, tb_set64 f0]
  by_cases h2 : i = 2
  · subst h2; simp
  · by_cases h6 : i = 6
    · subst h6; simp
    · by_cases h7 : i = 7
      · subst h7; simp
      · simp [h2, h6, h7]

theorem marks_bits {f : Int} (f0 : 0 ≤ f) (f1 : f < 4294967296) (c a v : Bool) :
    bits .or .u32 (bits .andNot .u32 f 2065) (bits .and .u32 (mkM c a v) 2065) = setF (setF (setF f 1 c) 16 a) 2048 v := by
  have a1 := andNot_bd f0 f1 (b := 2065) (by decide) (by decide)
  have m := mkM_bd c a v
  have a2 := and_bd m.1 m.2 (b := 2065) (by decide) (by decide)
  have a3 := or_bd a1.1 a1.2 a2.1 a2.2
  have b1 := setF_bd f0 f1 1 (by simp) c
  have b2 := setF_bd b1.1 b1.2 16 (by simp) a
  have b3 := setF_bd b2.1 b2.2 2048 (by simp) v
  refine tb_ext a3.1 b3.1 fun i => ?_
  rw [tb_or a1.1 a1.2 a2.1 a2.2, tb_andNot f0 f1 (by decide) (by decide), tb_and m.1 m.2 (by decide) (by decide), tb_2065, tb_mkM, tb_set2048 b2.1, tb_set16 b1.1, tb_set1 f0]
  by_cases h2 : i = 0
  · subst h2; simp
  · by_cases h6 : i = 4
    · subst h6; simp
    · by_cases h7 : i = 11
      · subst h7; simp
      · simp [h2, h6, h7]

theorem or_marks (c a v : Bool) : bits .or .u32 (bits .or .u32 (flg c 1) (flg v 2048)) (flg a 16) = mkM c a v := by
  cases c <;> cases a <;> cases v <;> decide

theorem and_two_pow' (n j : Nat) : n &&& 2 ^ j = if n.testBit j then 2 ^ j else 0 := by
  apply Nat.eq_of_testBit_eq
  intro i
  rw [Nat.testBit_and, Nat.testBit_two_pow]
  by_cases h : j = i
  · subst h
    cases hb : n.testBit j <;> simp
  · cases hb : n.testBit j <;> simp [h]

theorem and_pow {x : Int} (x0 : 0 ≤ x) (x1 : x < 4294967296) (j : Nat) (hj : j < 32) : (bits .and .u32 x ((2 ^ j : Nat) : Int) != 0) = tb x j := by
  have hp : (2 : Nat) ^ j < 2 ^ 32 := Nat.pow_lt_pow_right (by decide) hj
  have hq : (2 : Nat) ^ 32 = 4294967296 := by decide
  have h0 : 0 < (2 : Nat) ^ j := Nat.two_pow_pos j
  rw [u32_and x _ x0 x1 (by omega) (by omega), Int.toNat_natCast, and_two_pow']
  unfold tb
  cases x.toNat.testBit j
  · simp
  · simp only [if_true, bne_iff_ne, ne_eq]
    omega

theorem Sz.top {s H M sp bt : Int} (hS : Sz s H M sp bt) : M ≤ 4294967296 ∧ M = 2 * H ∧ 128 ≤ H ∧ M % 256 = 0 := by
  unfold Sz at hS; omega

theorem tb_div (x : Int) (x0 : 0 ≤ x) (j : Nat) : tb x j = decide (x / ((2 ^ j : Nat) : Int) % 2 = 1) := by
  obtain ⟨n, rfl⟩ := Int.eq_ofNat_of_zero_le x0
  unfold tb
  rw [Int.toNat_natCast, Nat.testBit_eq_decide_div_mod_eq]
  congr 1
  rw [← Int.natCast_ediv, show (2 : Int) = ((2 : Nat) : Int) from rfl, ← Int.natCast_emod]
  simp only [eq_iff_iff]
  omega

theorem Sz.sign {s H M sp bt : Int} (hS : Sz s H M sp bt) : ∃ j : Nat, j < 32 ∧ H = ((2 ^ j : Nat) : Int) ∧ ∀ x, 0 ≤ x → x < M → tb x j = sgn H x := by
  rcases hS with ⟨rfl, rfl, rfl, rfl, rfl⟩ | ⟨rfl, rfl, rfl, rfl, rfl⟩ | ⟨rfl, rfl, rfl, rfl, rfl⟩
  · refine ⟨7, by decide, rfl, fun x h0 h1 => ?_⟩
    rw [tb_div x h0 7]; unfold sgn
    have : ((2 ^ 7 : Nat) : Int) = 128 := rfl
    rw [this, Bool.eq_iff_iff]; simp only [decide_eq_true_eq]; omega
  · refine ⟨15, by decide, rfl, fun x h0 h1 => ?_⟩
    rw [tb_div x h0 15]; unfold sgn
    have : ((2 ^ 15 : Nat) : Int) = 32768 := rfl
    rw [this, Bool.eq_iff_iff]; simp only [decide_eq_true_eq]; omega
  · refine ⟨31, by decide, rfl, fun x h0 h1 => ?_⟩
    rw [tb_div x h0 31]; unfold sgn
    have : ((2 ^ 31 : Nat) : Int) = 2147483648 := by decide
    rw [this, Bool.eq_iff_iff]; simp only [decide_eq_true_eq]; omega

theorem and_sign {s H M sp bt : Int} (hS : Sz s H M sp bt) (x : Int) (h0 : 0 ≤ x) (h1 : x < M) : (bits .and .u32 x H != 0) = sgn H x := by
  have t := hS.top
  obtain ⟨j, hj, rfl, h⟩ := hS.sign
  rw [and_pow h0 (by omega) j hj, h x h0 h1]

def addR (M x y c : Int) : Int := (x + y + c) % M
def addC (M x y c : Int) : Bool := decide (M ≤ x + y + c)
def addA (x y c : Int) : Bool := decide (15 < x % 16 + y % 16 + c)
def addV (M H x y c : Int) : Bool := (sgn H x == sgn H y) && (sgn H (addR M x y c) != sgn H x)
def addM (M H x y c : Int) : Int := mkM (addC M x y c) (addA x y c) (addV M H x y c)
def subR (M x y c : Int) : Int := (x - y - c) % M
def subC (x y c : Int) : Bool := decide (x < y + c)
def subA (x y c : Int) : Bool := decide (x % 16 < y % 16 + c)
def subV (M H x y c : Int) : Bool := (sgn H x != sgn H y) && (sgn H (subR M x y c) == sgn H y)
def subM (M H x y c : Int) : Int := mkM (subC x y c) (subA x y c) (subV M H x y c)

theorem and_15 {x : Int} (x0 : 0 ≤ x) (x1 : x < 4294967296) : bits .and .u32 x 15 = x % 16 := by
  have h := Nat.and_two_pow_sub_one_eq_mod x.toNat 4
  have e : (15 : Int).toNat = 2 ^ 4 - 1 := by decide
  rw [u32_and x 15 x0 x1 (by decide) (by decide), e, h]
  omega

theorem not_bd {x : Int} (x0 : 0 ≤ x) (x1 : x < 4294967296) (i : Nat) (hi : i < 32) : tb (bits .xor .u32 4294967295 x) i = !tb x i := by
  rw [tb_xor (by decide) (by decide) x0 x1]
  have : tb 4294967295 i = true := by
    have h := tb_not (b := 0) (by decide) (by decide) hi
    rw [show (4294967295 : Int) - 0 = 4294967295 from rfl] at h
    rw [h]; simp [tb]
  rw [this]; simp

theorem add_over {s H M sp bt x y : Int} (hS : Sz s H M sp bt) (x0 : 0 ≤ x) (x1 : x < M) (y0 : 0 ≤ y) (y1 : y < M) (c : Int) :
    (bits .and .u32 (bits .and .u32 (bits .xor .u32 4294967295 (bits .xor .u32 x y)) (bits .xor .u32 x (addR M x y c))) H != 0) = addV M H x y c := by
  have t := hS.top
  have r0 : 0 ≤ addR M x y c := Int.emod_nonneg _ (by omega)
  have r1 : addR M x y c < M := Int.emod_lt_of_pos _ (by omega)
  unfold addV
  revert r0 r1
  generalize addR M x y c = r
  intro r0 r1
  obtain ⟨j, hj, rfl, h⟩ := hS.sign
  have a1 := xor_bd x0 (by omega) y0 (by omega : y < 4294967296)
  have a2 := xor_bd (by decide) (by decide) a1.1 a1.2 (a := 4294967295)
  have a3 := xor_bd x0 (by omega) r0 (by omega : r < 4294967296)
  have a4 := and_bd a2.1 a2.2 a3.1 a3.2
  rw [and_pow a4.1 a4.2 j hj, tb_and a2.1 a2.2 a3.1 a3.2, not_bd a1.1 a1.2 j hj, tb_xor x0 (by omega) y0 (by omega), tb_xor x0 (by omega) r0 (by omega), h x x0 x1, h y y0 y1, h r r0 r1]
  cases sgn ((2 ^ j : Nat) : Int) x <;> cases sgn ((2 ^ j : Nat) : Int) y <;> cases sgn ((2 ^ j : Nat) : Int) r <;> rfl

theorem sub_over {s H M sp bt x y : Int} (hS : Sz s H M sp bt) (x0 : 0 ≤ x) (x1 : x < M) (y0 : 0 ≤ y) (y1 : y < M) (c : Int) :
    (bits .and .u32 (bits .and .u32 (bits .xor .u32 x y) (bits .xor .u32 x (subR M x y c))) H != 0) = subV M H x y c := by
  have t := hS.top
  have r0 : 0 ≤ subR M x y c := Int.emod_nonneg _ (by omega)
  have r1 : subR M x y c < M := Int.emod_lt_of_pos _ (by omega)
  unfold subV
  revert r0 r1
  generalize subR M x y c = r
  intro r0 r1
  obtain ⟨j, hj, rfl, h⟩ := hS.sign
  have a1 := xor_bd x0 (by omega) y0 (by omega : y < 4294967296)
  have a3 := xor_bd x0 (by omega) r0 (by omega : r < 4294967296)
  have a4 := and_bd a1.1 a1.2 a3.1 a3.2
  rw [and_pow a4.1 a4.2 j hj, tb_and a1.1 a1.2 a3.1 a3.2, tb_xor x0 (by omega) y0 (by omega), tb_xor x0 (by omega) r0 (by omega), h x x0 x1, h y y0 y1, h r r0 r1]
  cases sgn ((2 ^ j : Nat) : Int) x <;> cases sgn ((2 ^ j : Nat) : Int) y <;> cases sgn ((2 ^ j : Nat) : Int) r <;> rfl

theorem add_carry {M x y c : Int} (x0 : 0 ≤ x) (x1 : x < M) (y0 : 0 ≤ y) (y1 : y < M) (c0 : 0 ≤ c) (c1 : c ≤ 1) : (x + y + c != (x + y + c) % M) = decide (M ≤ x + y + c) := by
  have r1 : (x + y + c) % M < M := Int.emod_lt_of_pos _ (by omega)
  by_cases h : M ≤ x + y + c
  · simp only [h, decide_true, bne_iff_ne, ne_eq]; omega
  · rw [Int.emod_eq_of_lt (by omega) (by omega)]; simp [h]
end Go.Proofs.Ytmmnnafjikilpaa
