/- The bus and its devices: AluMath, AluSpec, ShiftMath, Grow. -/
import Derived.WalkKit
import Derived.ProofKit
import Derived.Laws.BitsAllLaws
import Derived.Lib.BitFns
import Derived.Test.YtiagfmkinefidaaGreatRows
import Derived.OpenShut
import Derived.Laws.EntriesVeiled
import Derived.Deep.QuietTactic
import Derived.BigQuiet
import Derived.Lib.Tables
import Derived.Deep.RegionHeld3
namespace Go.Proofs.YtiagfmkinefidaaGreat
set_option linter.unusedVariables false
set_option maxRecDepth 20000
def tb (f : Int) (i : Nat) : Bool := f.toNat.testBit i
def flg (b : Bool) (f : Int) : Int := if b then f else 0
def setF (f k : Int) (b : Bool) : Int := (if f / k % 2 = 1 then f - k else f) + flg b k
def hasF (f k : Int) : Bool := f / k % 2 == 1
def sgn (H x : Int) : Bool := decide (H ≤ x)
def ones (x : Int) : Int := Lib.onesCount (x % 256).toNat
def par (x : Int) : Bool := ones x % 2 == 0
def mkM (cf af vf : Bool) : Int := flg cf 1 + flg af 16 + flg vf 2048
def byF (H x f : Int) : Int := setF (setF (setF f 64 (x == 0)) 128 (sgn H x)) 4 (par x)
def Sz (s H M sp bt : Int) : Prop := (s = 1 ∧ H = 128 ∧ M = 256 ∧ sp = 24 ∧ bt = 8) ∨ (s = 2 ∧ H = 32768 ∧ M = 65536 ∧ sp = 16 ∧ bt = 16) ∨ (s = 4 ∧ H = 2147483648 ∧ M = 4294967296 ∧ sp = 0 ∧ bt = 32)
theorem tb_ext {a b : Int} (ha : 0 ≤ a) (hb : 0 ≤ b) (h : ∀ i, tb a i = tb b i) : a = b := by
  have e : a.toNat = b.toNat := Nat.eq_of_testBit_eq h
  omega
theorem tb_high {a : Int} (h : a < 4294967296) {i : Nat} (hi : 32 ≤ i) : tb a i = false := by
  unfold tb
  apply Nat.testBit_lt_two_pow
  have : (2 : Nat) ^ 32 ≤ 2 ^ i := Nat.pow_le_pow_right (by decide) hi
  have e : (2 : Nat) ^ 32 = 4294967296 := by decide
  omega
theorem lt32_or {a b : Nat} (ha : a < 4294967296) (hb : b < 4294967296) : a ||| b < 4294967296 := Nat.or_lt_two_pow (n := 32) ha hb
theorem lt32_xor {a b : Nat} (ha : a < 4294967296) (hb : b < 4294967296) : a ^^^ b < 4294967296 := Nat.xor_lt_two_pow (n := 32) ha hb
theorem lt32_and {a b : Nat} (hb : b < 4294967296) : a &&& b < 4294967296 := Nat.and_lt_two_pow (n := 32) a hb
theorem or_bd {a b : Int} (a0 : 0 ≤ a) (a1 : a < 4294967296) (b0 : 0 ≤ b) (b1 : b < 4294967296) : 0 ≤ bits .or .u32 a b ∧ bits .or .u32 a b < 4294967296 := by
  rw [u32_or a b a0 a1 b0 b1]
  have := lt32_or (a := a.toNat) (b := b.toNat) (by omega) (by omega)
  omega
theorem and_bd {a b : Int} (a0 : 0 ≤ a) (a1 : a < 4294967296) (b0 : 0 ≤ b) (b1 : b < 4294967296) : 0 ≤ bits .and .u32 a b ∧ bits .and .u32 a b < 4294967296 := by
  rw [u32_and a b a0 a1 b0 b1]
  have := lt32_and (a := a.toNat) (b := b.toNat) (by omega)
  omega
theorem xor_bd {a b : Int} (a0 : 0 ≤ a) (a1 : a < 4294967296) (b0 : 0 ≤ b) (b1 : b < 4294967296) : 0 ≤ bits .xor .u32 a b ∧ bits .xor .u32 a b < 4294967296 := by
  rw [u32_xor a b a0 a1 b0 b1]
  have := lt32_xor (a := a.toNat) (b := b.toNat) (by omega) (by omega)
  omega
theorem andNot_bd {a b : Int} (a0 : 0 ≤ a) (a1 : a < 4294967296) (b0 : 0 ≤ b) (b1 : b < 4294967296) : 0 ≤ bits .andNot .u32 a b ∧ bits .andNot .u32 a b < 4294967296 := by
  rw [u32_andNot a b a0 a1 b0 b1]
  have := lt32_and (a := a.toNat) (b := 4294967295 - b.toNat) (by omega)
  omega
theorem tb_or {a b : Int} (a0 : 0 ≤ a) (a1 : a < 4294967296) (b0 : 0 ≤ b) (b1 : b < 4294967296) (i : Nat) : tb (bits .or .u32 a b) i = (tb a i || tb b i) := by
  rw [u32_or a b a0 a1 b0 b1]; simp [tb]
theorem tb_and {a b : Int} (a0 : 0 ≤ a) (a1 : a < 4294967296) (b0 : 0 ≤ b) (b1 : b < 4294967296) (i : Nat) : tb (bits .and .u32 a b) i = (tb a i && tb b i) := by
  rw [u32_and a b a0 a1 b0 b1]; simp [tb]
theorem tb_xor {a b : Int} (a0 : 0 ≤ a) (a1 : a < 4294967296) (b0 : 0 ≤ b) (b1 : b < 4294967296) (i : Nat) : tb (bits .xor .u32 a b) i = (tb a i ^^ tb b i) := by
  rw [u32_xor a b a0 a1 b0 b1]; simp [tb]
theorem tb_not {b : Int} (b0 : 0 ≤ b) (b1 : b < 4294967296) {i : Nat} (hi : i < 32) : tb (4294967295 - b) i = !tb b i := by
  have e : (4294967295 - b).toNat = 2 ^ 32 - (b.toNat + 1) := by
    have : (2 : Nat) ^ 32 = 4294967296 := by decide
    omega
  unfold tb
  rw [e, Nat.testBit_two_pow_sub_succ (by have : (2 : Nat) ^ 32 = 4294967296 := (by decide); omega)]
  simp [hi]
theorem tb_andNot {a b : Int} (a0 : 0 ≤ a) (a1 : a < 4294967296) (b0 : 0 ≤ b) (b1 : b < 4294967296) (i : Nat) : tb (bits .andNot .u32 a b) i = (tb a i && !tb b i) := by
  rw [u32_andNot a b a0 a1 b0 b1]
  by_cases hi : i < 32
  · have h := tb_not b0 b1 hi
    have e : (4294967295 - b).toNat = 4294967295 - b.toNat := by omega
    unfold tb at h ⊢
    rw [e] at h
    simp [h]
  · have h := tb_high a1 (i := i) (by omega)
    unfold tb at h ⊢
    simp [h]
theorem tb_flg (b : Bool) (j : Nat) (i : Nat) : tb (flg b ((2 ^ j : Nat) : Int)) i = (b && decide (i = j)) := by
  cases b
  · simp [flg, tb]
  · simp only [flg, if_true, tb, Int.toNat_natCast, Nat.testBit_two_pow, Bool.true_and]
    simp [eq_comm]
/-- a number with its bit j laid anew -/
theorem lay_bit (m r j i : Nat) (c : Nat) (hr : r < 2 ^ j) (hc : c < 2) : (2 ^ j * (2 * m + c) + r).testBit i = if i = j then decide (c = 1) else if i < j then r.testBit i else m.testBit (i - j - 1) := by
  rw [Nat.testBit_two_pow_mul_add _ hr]
  by_cases h1 : i < j
  · simp [h1, Nat.ne_of_lt h1]
  · by_cases h2 : i = j
    · subst h2
      have : c = 0 ∨ c = 1 := by omega
      rcases this with rfl | rfl <;> simp [Nat.testBit_zero] <;> omega
    · obtain ⟨t, rfl⟩ : ∃ t, i = j + (t + 1) := ⟨i - j - 1, by omega⟩
      have e1 : j + (t + 1) - j = t + 1 := by omega
      have e2 : j + (t + 1) - j - 1 = t := by omega
      rw [if_neg h1, if_neg h2, if_neg h1, e2, e1, Nat.testBit_succ]
      congr 1
      omega
theorem setF_nat (f j : Nat) (b : Bool) : setF (f : Int) ((2 ^ j : Nat) : Int) b = ((2 ^ j * (2 * (f / 2 ^ j / 2) + b.toNat) + f % 2 ^ j : Nat) : Int) := by
  have hd := Nat.div_add_mod f (2 ^ j)
  have hq : f / 2 ^ j = 2 * (f / 2 ^ j / 2) + f / 2 ^ j % 2 := by omega
  have hc : f / 2 ^ j % 2 = 0 ∨ f / 2 ^ j % 2 = 1 := by omega
  have e1 : ((f : Int) / ((2 ^ j : Nat) : Int) % 2) = ((f / 2 ^ j % 2 : Nat) : Int) := by
    rw [Int.natCast_emod, Int.natCast_ediv]; rfl
  unfold setF
  rw [e1]
  generalize hm : f / 2 ^ j / 2 = m at *
  generalize hr : f % 2 ^ j = r at *
  generalize hp : 2 ^ j = p at *
  generalize hqq : f / p = q at *
  rcases hc with hc | hc
  · rw [hc] at hq ⊢
    have e2 : q = 2 * m := by omega
    rw [if_neg (by decide)]
    have e3 : f = p * (2 * m) + r := by rw [← e2]; exact hd.symm
    cases b
    · simp only [flg, Bool.toNat_false]; rw [e3]; push_cast; simp
    · simp only [flg, Bool.toNat_true, if_true]; rw [e3, Nat.mul_add]; push_cast; simp; omega
  · rw [hc] at hq ⊢
    have e3 : f = p * (2 * m) + p + r := by rw [← hd, hq, Nat.mul_add]; omega
    rw [if_pos (by decide)]
    cases b
    · simp only [flg, Bool.toNat_false]; rw [e3]; push_cast; simp; omega
    · simp only [flg, Bool.toNat_true, if_true]; rw [e3, Nat.mul_add]; push_cast; simp
theorem tb_setF (f : Int) (f0 : 0 ≤ f) (j : Nat) (b : Bool) (i : Nat) : tb (setF f ((2 ^ j : Nat) : Int) b) i = if i = j then b else tb f i := by
  obtain ⟨n, rfl⟩ := Int.eq_ofNat_of_zero_le f0
  rw [setF_nat]
  unfold tb
  rw [Int.toNat_natCast, Int.toNat_natCast, lay_bit _ _ _ _ _ (Nat.mod_lt _ (Nat.two_pow_pos j)) (by cases b <;> decide)]
  by_cases h : i = j
  · simp only [h, if_true]; cases b <;> rfl
  · rw [if_neg h, if_neg h]
    have e : n = 2 ^ j * (2 * (n / 2 ^ j / 2) + n / 2 ^ j % 2) + n % 2 ^ j := by
      have hd := Nat.div_add_mod n (2 ^ j)
      have hq : 2 * (n / 2 ^ j / 2) + n / 2 ^ j % 2 = n / 2 ^ j := by omega
      rw [hq]; exact hd.symm
    have := lay_bit (n / 2 ^ j / 2) (n % 2 ^ j) j i (n / 2 ^ j % 2) (Nat.mod_lt _ (Nat.two_pow_pos j)) (Nat.mod_lt _ (by decide))
    rw [← e, if_neg h] at this
    exact this.symm
theorem setF_bd {f : Int} (f0 : 0 ≤ f) (f1 : f < 4294967296) (k : Int) (hk : k = 1 ∨ k = 4 ∨ k = 16 ∨ k = 64 ∨ k = 128 ∨ k = 2048) (b : Bool) : 0 ≤ setF f k b ∧ setF f k b < 4294967296 := by
  unfold setF flg
  rcases hk with rfl | rfl | rfl | rfl | rfl | rfl <;> cases b <;> simp <;> split <;> omega
theorem tb_set4 {f : Int} (f0 : 0 ≤ f) (b : Bool) (i : Nat) : tb (setF f 4 b) i = if i = 2 then b else tb f i := tb_setF f f0 2 b i
theorem tb_set64 {f : Int} (f0 : 0 ≤ f) (b : Bool) (i : Nat) : tb (setF f 64 b) i = if i = 6 then b else tb f i := tb_setF f f0 6 b i
theorem tb_set128 {f : Int} (f0 : 0 ≤ f) (b : Bool) (i : Nat) : tb (setF f 128 b) i = if i = 7 then b else tb f i := tb_setF f f0 7 b i
theorem tb_flg4 (b : Bool) (i : Nat) : tb (flg b 4) i = (b && decide (i = 2)) := tb_flg b 2 i
theorem tb_flg64 (b : Bool) (i : Nat) : tb (flg b 64) i = (b && decide (i = 6)) := tb_flg b 6 i
theorem tb_flg128 (b : Bool) (i : Nat) : tb (flg b 128) i = (b && decide (i = 7)) := tb_flg b 7 i
theorem flg_bd (b : Bool) (k : Int) (h0 : 0 ≤ k) (h1 : k < 4294967296) : 0 ≤ flg b k ∧ flg b k < 4294967296 := by cases b <;> simp [flg] <;> omega
theorem tb_196 (i : Nat) : tb 196 i = (decide (i = 2) || decide (i = 6) || decide (i = 7)) := by
  have e : (196 : Int).toNat = 2 ^ 2 ||| 2 ^ 6 ||| 2 ^ 7 := by decide
  unfold tb; rw [e]; simp only [Nat.testBit_or, Nat.testBit_two_pow]; simp [eq_comm]
theorem mkM_bd (c a v : Bool) : 0 ≤ mkM c a v ∧ mkM c a v < 4294967296 := by cases c <;> cases a <;> cases v <;> decide
/-- the flags by a result, bit by bit -/
theorem by_bits {f : Int} (f0 : 0 ≤ f) (f1 : f < 4294967296) (z s p : Bool) :
    bits .or .u32 (bits .or .u32 (bits .or .u32 (bits .andNot .u32 f 196) (flg z 64)) (flg s 128)) (flg p 4) = setF (setF (setF f 64 z) 128 s) 4 p := by
  have a1 := andNot_bd f0 f1 (b := 196) (by decide) (by decide)
  have a2 := flg_bd z 64 (by decide) (by decide)
  have a3 := or_bd a1.1 a1.2 a2.1 a2.2
  have a4 := flg_bd s 128 (by decide) (by decide)
  have a5 := or_bd a3.1 a3.2 a4.1 a4.2
  have a6 := flg_bd p 4 (by decide) (by decide)
  have a7 := or_bd a5.1 a5.2 a6.1 a6.2
  have b1 := setF_bd f0 f1 64 (by simp) z
  have b2 := setF_bd b1.1 b1.2 128 (by simp) s
  have b3 := setF_bd b2.1 b2.2 4 (by simp) p
  refine tb_ext a7.1 b3.1 fun i => ?_
  rw [tb_or a5.1 a5.2 a6.1 a6.2, tb_or a3.1 a3.2 a4.1 a4.2, tb_or a1.1 a1.2 a2.1 a2.2, tb_andNot f0 f1 (by decide) (by decide), tb_196, tb_flg64, tb_flg128, tb_flg4, tb_set4 b2.1, tb_set128 b1.1, tb_set64 f0]
  by_cases h2 : i = 2
  · subst h2; simp
  · by_cases h6 : i = 6
    · subst h6; simp
    · by_cases h7 : i = 7
      · subst h7; simp
      · simp [h2, h6, h7]
theorem or_marks (c a v : Bool) : bits .or .u32 (bits .or .u32 (flg c 1) (flg v 2048)) (flg a 16) = mkM c a v := by
  cases c <;> cases a <;> cases v <;> decide
theorem and_two_pow' (n j : Nat) : n &&& 2 ^ j = if n.testBit j then 2 ^ j else 0 := by
  apply Nat.eq_of_testBit_eq
  intro i
  rw [Nat.testBit_and, Nat.testBit_two_pow]
  by_cases h : j = i
  · subst h
    cases hb : n.testBit j <;> simp
  · cases hb : n.testBit j <;> simp [h]
theorem and_pow {x : Int} (x0 : 0 ≤ x) (x1 : x < 4294967296) (j : Nat) (hj : j < 32) : (bits .and .u32 x ((2 ^ j : Nat) : Int) != 0) = tb x j := by
  have hp : (2 : Nat) ^ j < 2 ^ 32 := Nat.pow_lt_pow_right (by decide) hj
  have hq : (2 : Nat) ^ 32 = 4294967296 := by decide
  have h0 : 0 < (2 : Nat) ^ j := Nat.two_pow_pos j
  rw [u32_and x _ x0 x1 (by omega) (by omega), Int.toNat_natCast, and_two_pow']
  unfold tb
  cases x.toNat.testBit j
  · simp
  · simp only [if_true, bne_iff_ne, ne_eq]
    omega
theorem Sz.top {s H M sp bt : Int} (hS : Sz s H M sp bt) : M ≤ 4294967296 ∧ M = 2 * H ∧ 128 ≤ H ∧ M % 256 = 0 := by
  unfold Sz at hS; omega
theorem tb_div (x : Int) (x0 : 0 ≤ x) (j : Nat) : tb x j = decide (x / ((2 ^ j : Nat) : Int) % 2 = 1) := by
  obtain ⟨n, rfl⟩ := Int.eq_ofNat_of_zero_le x0
  unfold tb
  rw [Int.toNat_natCast, Nat.testBit_eq_decide_div_mod_eq]
  congr 1
  rw [← Int.natCast_ediv, show (2 : Int) = ((2 : Nat) : Int) from rfl, ← Int.natCast_emod]
  simp only [eq_iff_iff]
  omega
theorem Sz.sign {s H M sp bt : Int} (hS : Sz s H M sp bt) : ∃ j : Nat, j < 32 ∧ H = ((2 ^ j : Nat) : Int) ∧ ∀ x, 0 ≤ x → x < M → tb x j = sgn H x := by
  rcases hS with ⟨rfl, rfl, rfl, rfl, rfl⟩ | ⟨rfl, rfl, rfl, rfl, rfl⟩ | ⟨rfl, rfl, rfl, rfl, rfl⟩
  · refine ⟨7, by decide, rfl, fun x h0 h1 => ?_⟩
    rw [tb_div x h0 7]; unfold sgn
    have : ((2 ^ 7 : Nat) : Int) = 128 := rfl
    rw [this, Bool.eq_iff_iff]; simp only [decide_eq_true_eq]; omega
  · refine ⟨15, by decide, rfl, fun x h0 h1 => ?_⟩
    rw [tb_div x h0 15]; unfold sgn
    have : ((2 ^ 15 : Nat) : Int) = 32768 := rfl
    rw [this, Bool.eq_iff_iff]; simp only [decide_eq_true_eq]; omega
  · refine ⟨31, by decide, rfl, fun x h0 h1 => ?_⟩
    rw [tb_div x h0 31]; unfold sgn
    have : ((2 ^ 31 : Nat) : Int) = 2147483648 := by decide
    rw [this, Bool.eq_iff_iff]; simp only [decide_eq_true_eq]; omega
theorem and_sign {s H M sp bt : Int} (hS : Sz s H M sp bt) (x : Int) (h0 : 0 ≤ x) (h1 : x < M) : (bits .and .u32 x H != 0) = sgn H x := by
  have t := hS.top
  obtain ⟨j, hj, rfl, h⟩ := hS.sign
  rw [and_pow h0 (by omega) j hj, h x h0 h1]
def addR (M x y c : Int) : Int := (x + y + c) % M
def addC (M x y c : Int) : Bool := decide (M ≤ x + y + c)
def addA (x y c : Int) : Bool := decide (15 < x % 16 + y % 16 + c)
def addV (M H x y c : Int) : Bool := (sgn H x == sgn H y) && (sgn H (addR M x y c) != sgn H x)
def addM (M H x y c : Int) : Int := mkM (addC M x y c) (addA x y c) (addV M H x y c)
def subR (M x y c : Int) : Int := (x - y - c) % M
def subC (x y c : Int) : Bool := decide (x < y + c)
def subA (x y c : Int) : Bool := decide (x % 16 < y % 16 + c)
def subV (M H x y c : Int) : Bool := (sgn H x != sgn H y) && (sgn H (subR M x y c) == sgn H y)
def subM (M H x y c : Int) : Int := mkM (subC x y c) (subA x y c) (subV M H x y c)
theorem and_15 {x : Int} (x0 : 0 ≤ x) (x1 : x < 4294967296) : bits .and .u32 x 15 = x % 16 := by
  have h := Nat.and_two_pow_sub_one_eq_mod x.toNat 4
  have e : (15 : Int).toNat = 2 ^ 4 - 1 := by decide
  rw [u32_and x 15 x0 x1 (by decide) (by decide), e, h]
  omega
theorem not_bd {x : Int} (x0 : 0 ≤ x) (x1 : x < 4294967296) (i : Nat) (hi : i < 32) : tb (bits .xor .u32 4294967295 x) i = !tb x i := by
  rw [tb_xor (by decide) (by decide) x0 x1]
  have : tb 4294967295 i = true := by
    have h := tb_not (b := 0) (by decide) (by decide) hi
    rw [show (4294967295 : Int) - 0 = 4294967295 from rfl] at h
    rw [h]; simp [tb]
  rw [this]; simp
theorem add_over {s H M sp bt x y : Int} (hS : Sz s H M sp bt) (x0 : 0 ≤ x) (x1 : x < M) (y0 : 0 ≤ y) (y1 : y < M) (c : Int) :
    (bits .and .u32 (bits .and .u32 (bits .xor .u32 4294967295 (bits .xor .u32 x y)) (bits .xor .u32 x (addR M x y c))) H != 0) = addV M H x y c := by
  have t := hS.top
  have r0 : 0 ≤ addR M x y c := Int.emod_nonneg _ (by omega)
  have r1 : addR M x y c < M := Int.emod_lt_of_pos _ (by omega)
  unfold addV
  revert r0 r1
  generalize addR M x y c = r
  intro r0 r1
  obtain ⟨j, hj, rfl, h⟩ := hS.sign
  have a1 := xor_bd x0 (by omega) y0 (by omega : y < 4294967296)
  have a2 := xor_bd (by decide) (by decide) a1.1 a1.2 (a := 4294967295)
  have a3 := xor_bd x0 (by omega) r0 (by omega : r < 4294967296)
  have a4 := and_bd a2.1 a2.2 a3.1 a3.2
  rw [and_pow a4.1 a4.2 j hj, tb_and a2.1 a2.2 a3.1 a3.2, not_bd a1.1 a1.2 j hj, tb_xor x0 (by omega) y0 (by omega), tb_xor x0 (by omega) r0 (by omega), h x x0 x1, h y y0 y1, h r r0 r1]
  cases sgn ((2 ^ j : Nat) : Int) x <;> cases sgn ((2 ^ j : Nat) : Int) y <;> cases sgn ((2 ^ j : Nat) : Int) r <;> rfl
theorem sub_over {s H M sp bt x y : Int} (hS : Sz s H M sp bt) (x0 : 0 ≤ x) (x1 : x < M) (y0 : 0 ≤ y) (y1 : y < M) (c : Int) :
    (bits .and .u32 (bits .and .u32 (bits .xor .u32 x y) (bits .xor .u32 x (subR M x y c))) H != 0) = subV M H x y c := by
  have t := hS.top
  have r0 : 0 ≤ subR M x y c := Int.emod_nonneg _ (by omega)
  have r1 : subR M x y c < M := Int.emod_lt_of_pos _ (by omega)
  unfold subV
  revert r0 r1
  generalize subR M x y c = r
  intro r0 r1
  obtain ⟨j, hj, rfl, h⟩ := hS.sign
  have a1 := xor_bd x0 (by omega) y0 (by omega : y < 4294967296)
  have a3 := xor_bd x0 (by omega) r0 (by omega : r < 4294967296)
  have a4 := and_bd a1.1 a1.2 a3.1 a3.2
  rw [and_pow a4.1 a4.2 j hj, tb_and a1.1 a1.2 a3.1 a3.2, tb_xor x0 (by omega) y0 (by omega), tb_xor x0 (by omega) r0 (by omega), h x x0 x1, h y y0 y1, h r r0 r1]
  cases sgn ((2 ^ j : Nat) : Int) x <;> cases sgn ((2 ^ j : Nat) : Int) y <;> cases sgn ((2 ^ j : Nat) : Int) r <;> rfl
theorem add_carry {M x y c : Int} (x0 : 0 ≤ x) (x1 : x < M) (y0 : 0 ≤ y) (y1 : y < M) (c0 : 0 ≤ c) (c1 : c ≤ 1) : (x + y + c != (x + y + c) % M) = decide (M ≤ x + y + c) := by
  have r1 : (x + y + c) % M < M := Int.emod_lt_of_pos _ (by omega)
  by_cases h : M ≤ x + y + c
  · simp only [h, decide_true, bne_iff_ne, ne_eq]; omega
  · rw [Int.emod_eq_of_lt (by omega) (by omega)]; simp [h]
end Go.Proofs.YtiagfmkinefidaaGreat
namespace Go.Proofs.YtiagfmkinefidaaGreat
open Go.RowKit
set_option linter.unusedVariables false
set_option maxRecDepth 20000
theorem wrap_u64' (n : Int) : IntKind.u64.wrap n = n % 18446744073709551616 := rfl
def okSize (s : Int) : Bool := s == 1 || s == 2 || s == 4
def namedF (op : Int) : Int := if op = 9 ∨ op = 10 then 2064 else 2065
def workR (op M x y c : Int) : Int :=
  if op = 9 then addR M x 1 0 else if op = 0 then addR M x y 0 else if op = 2 then addR M x y c else if op = 11 then subR M 0 x 0 else if op = 10 then subR M x 1 0
  else if op = 5 then subR M x y 0 else if op = 7 then subR M x y 0 else if op = 3 then subR M x y c else if op = 1 then bits .or .u32 x y else if op = 6 then bits .xor .u32 x y else bits .and .u32 x y
def workM (op M H x y c : Int) : Int :=
  if op = 9 then addM M H x 1 0 else if op = 0 then addM M H x y 0 else if op = 2 then addM M H x y c else if op = 11 then subM M H 0 x 0 else if op = 10 then subM M H x 1 0
  else if op = 5 then subM M H x y 0 else if op = 7 then subM M H x y 0 else if op = 3 then subM M H x y c else 0
theorem Sz.ok {s H M sp bt : Int} (hS : Sz s H M sp bt) : okSize s = true := by
  rcases hS with ⟨rfl, rfl, rfl, rfl, rfl⟩ | ⟨rfl, rfl, rfl, rfl, rfl⟩ | ⟨rfl, rfl, rfl, rfl, rfl⟩ <;> rfl
theorem mod_bd {M : Int} (m : 0 < M) (a : Int) : 0 ≤ a % M ∧ a % M < M := ⟨Int.emod_nonneg _ (by omega), Int.emod_lt_of_pos _ m⟩
theorem bits_lt {s H M sp bt x y : Int} (hS : Sz s H M sp bt) (x0 : 0 ≤ x) (x1 : x < M) (y0 : 0 ≤ y) (y1 : y < M) :
    (0 ≤ bits .or .u32 x y ∧ bits .or .u32 x y < M) ∧ (0 ≤ bits .xor .u32 x y ∧ bits .xor .u32 x y < M) ∧ (0 ≤ bits .and .u32 x y ∧ bits .and .u32 x y < M) := by
  have mt := hS.top.1
  rw [u32_or x y x0 (by omega) y0 (by omega), u32_xor x y x0 (by omega) y0 (by omega), u32_and x y x0 (by omega) y0 (by omega)]
  rcases hS with ⟨rfl, rfl, rfl, rfl, rfl⟩ | ⟨rfl, rfl, rfl, rfl, rfl⟩ | ⟨rfl, rfl, rfl, rfl, rfl⟩
  · have a := Nat.or_lt_two_pow (n := 8) (x := x.toNat) (y := y.toNat) (by omega) (by omega)
    have b := Nat.xor_lt_two_pow (n := 8) (x := x.toNat) (y := y.toNat) (by omega) (by omega)
    have c := Nat.and_lt_two_pow (n := 8) x.toNat (y := y.toNat) (by omega)
    omega
  · have a := Nat.or_lt_two_pow (n := 16) (x := x.toNat) (y := y.toNat) (by omega) (by omega)
    have b := Nat.xor_lt_two_pow (n := 16) (x := x.toNat) (y := y.toNat) (by omega) (by omega)
    have c := Nat.and_lt_two_pow (n := 16) x.toNat (y := y.toNat) (by omega)
    omega
  · have a := lt32_or (a := x.toNat) (b := y.toNat) (by omega) (by omega)
    have b := lt32_xor (a := x.toNat) (b := y.toNat) (by omega) (by omega)
    have c := lt32_and (a := x.toNat) (b := y.toNat) (by omega)
    omega
theorem workR_bd {s H M sp bt x y : Int} (hS : Sz s H M sp bt) (x0 : 0 ≤ x) (x1 : x < M) (y0 : 0 ≤ y) (y1 : y < M) (op c : Int) : 0 ≤ workR op M x y c ∧ workR op M x y c < M := by
  have m0 : 0 < M := by have := hS.top; omega
  have b := bits_lt hS x0 x1 y0 y1
  unfold workR addR subR
  repeat' split
  all_goals first | exact mod_bd m0 _ | exact b.1 | exact b.2.1 | exact b.2.2
theorem workM_bd (op M H x y c : Int) : 0 ≤ workM op M H x y c ∧ workM op M H x y c < 4294967296 := by
  unfold workM addM subM
  repeat' split
  all_goals first | exact mkM_bd _ _ _ | decide
theorem namedF_bd (op : Int) : 0 ≤ namedF op ∧ namedF op < 4294967296 := by unfold namedF; split <;> decide
def layF (op M H x y f : Int) : Int := bits .or .u32 (bits .andNot .u32 f (namedF op)) (bits .and .u32 (workM op M H x y (f % 2)) (namedF op))
def doR (op M x y f : Int) : Int := if op = 12 then M - 1 - x else if op = 7 then x else if op = 8 then x else workR op M x y (f % 2)
theorem lay_bd (op M H x y c : Int) {f : Int} (f0 : 0 ≤ f) (f1 : f < 4294967296) :
    0 ≤ bits .or .u32 (bits .andNot .u32 f (namedF op)) (bits .and .u32 (workM op M H x y c) (namedF op)) ∧ bits .or .u32 (bits .andNot .u32 f (namedF op)) (bits .and .u32 (workM op M H x y c) (namedF op)) < 4294967296 := by
  have hM := workM_bd op M H x y c
  have hN := namedF_bd op
  have hA1 := andNot_bd f0 f1 hN.1 hN.2
  have hA2 := and_bd hM.1 hM.2 hN.1 hN.2
  exact or_bd hA1.1 hA1.2 hA2.1 hA2.2
def isFlag (k : Int) : Prop := k = 1 ∨ k = 4 ∨ k = 16 ∨ k = 64 ∨ k = 128 ∨ k = 2048
theorem fl1 : isFlag 1 := by simp [isFlag]
theorem sz2 : Sz 2 32768 65536 16 16 := Or.inr (Or.inl ⟨rfl, rfl, rfl, rfl, rfl⟩)
theorem sz1 : Sz 1 128 256 24 8 := Or.inl ⟨rfl, rfl, rfl, rfl, rfl⟩
theorem sz4 : Sz 4 2147483648 4294967296 0 32 := Or.inr (Or.inr ⟨rfl, rfl, rfl, rfl, rfl⟩)
end Go.Proofs.YtiagfmkinefidaaGreat
namespace Go.Proofs.YtiagfmkinefidaaGreat
open Go.RowKit
set_option linter.unusedVariables false
set_option maxRecDepth 20000
def Sw (s H M : Int) (W : Nat) : Prop := (s = 1 ∧ H = 128 ∧ M = 256 ∧ W = 8) ∨ (s = 2 ∧ H = 32768 ∧ M = 65536 ∧ W = 16) ∨ (s = 4 ∧ H = 2147483648 ∧ M = 4294967296 ∧ W = 32)
theorem Sw.sz {s H M : Int} {W : Nat} (h : Sw s H M W) : ∃ sp, Sz s H M sp (W : Int) := by
  rcases h with ⟨rfl, rfl, rfl, rfl⟩ | ⟨rfl, rfl, rfl, rfl⟩ | ⟨rfl, rfl, rfl, rfl⟩
  · exact ⟨24, sz1⟩
  · exact ⟨16, sz2⟩
  · exact ⟨0, sz4⟩
theorem Sw.ok {s H M : Int} {W : Nat} (h : Sw s H M W) : okSize s = true := by
  obtain ⟨sp, hS⟩ := h.sz
  exact hS.ok
theorem tb_cast (n : Nat) (i : Nat) : tb (n : Int) i = n.testBit i := by unfold tb; rw [Int.toNat_natCast]
theorem tb_shr {x : Int} (x0 : 0 ≤ x) (k i : Nat) : tb (x / ((2 ^ k : Nat) : Int)) i = tb x (k + i) := by
  obtain ⟨n, rfl⟩ := Int.eq_ofNat_of_zero_le x0
  rw [show ((n : Int) / ((2 ^ k : Nat) : Int)) = ((n / 2 ^ k : Nat) : Int) from (Int.natCast_ediv n (2 ^ k)).symm, tb_cast, tb_cast, Nat.testBit_div_two_pow, Nat.add_comm]
theorem tb_shl {x : Int} (x0 : 0 ≤ x) (k i : Nat) : tb (x * ((2 ^ k : Nat) : Int)) i = (decide (k ≤ i) && tb x (i - k)) := by
  obtain ⟨n, rfl⟩ := Int.eq_ofNat_of_zero_le x0
  rw [show ((n : Int) * ((2 ^ k : Nat) : Int)) = ((n * 2 ^ k : Nat) : Int) from (Int.natCast_mul n (2 ^ k)).symm, tb_cast, tb_cast, Nat.testBit_mul_two_pow]
end Go.Proofs.YtiagfmkinefidaaGreat
namespace Go.Proofs.YtiagfmkinefidaaGreat
open Go.ChangeShapes Go.WideShapes Go.ChangeAt Go.RowKit
set_option linter.unusedVariables false
set_option maxRecDepth 20000
theorem Grown.trans {a b c : World} (h : Grown a b) (k : Grown b c) : Grown a c :=
  ⟨World.keptBut_trans h.1 k.1, fun x => (k.2.1 x).trans (h.2.1 x), Nat.le_trans h.2.2 k.2.2⟩
theorem Grown.drewN {W w' : World} (h : Grown W w') (n : Nat) : Grown W (w'.drewN n) := by
  induction n with
  | zero => exact h
  | succ n ih => exact ih
theorem ret_int {k : IntKind} {a b : Int} (h : a = b) : Ending.returned (.int k a) = .returned (.int k b) := by rw [h]
theorem ret_bool {a b : Bool} (h : a = b) : Ending.returned (.bool a) = .returned (.bool b) := by rw [h]
theorem ret_two {k l : IntKind} {a b c d : Int} (h : a = b) (g : c = d) : Ending.returned (.tuple #[.int k a, .int l c]) = .returned (.tuple #[.int k b, .int l d]) := by rw [h, g]
theorem ret_three {k l m : IntKind} {a b c d e f : Int} (h : a = b) (g : c = d) (i : e = f) : Ending.returned (.tuple #[.int k a, .int l c, .int m e]) = .returned (.tuple #[.int k b, .int l d, .int m f]) := by rw [h, g, i]
theorem Grown.block {W w' : World} (h : Grown W w') {i : Nat} (hi : i < W.heap.size) : w'.heap[i]? = W.heap[i]? := by
  have k := h.1.2.2 i hi
  split at k
  · rename_i c t fr c' t' fr' e1 e2
    obtain ⟨rfl, rfl, hs, hj⟩ := k
    have : c' = c := Array.ext_getElem? fun j => hj j (fun f => f)
    rw [e1, e2, this]
  · rename_i e1 e2
    rcases k with f | ⟨rfl, rfl⟩
    · exact f.elim
    · rw [e1, e2]
  · exact k
theorem Grown.cell {W w' : World} (h : Grown W w') {p : Addr} (hp : p.block < W.heap.size) : w'.cell? p = W.cell? p := World.cell?_of_block (w := W) (Grown.block h hp)
end Go.Proofs.YtiagfmkinefidaaGreat
