/- Plain facts on single bits, on the first bit that is set, on wider values and on bytes turned round: no Go text in sight; each under the bounds that it names. -/
import Derived.Test.YtelclgelooljlaaShiftMath
namespace Go.Proofs.Ytelclgelooljlaa
open Go.RowKit
set_option linter.unusedVariables false

theorem tb_bit (j i : Nat) : tb ((2 ^ j : Nat) : Int) i = decide (i = j) := by
  rw [tb_cast, Nat.testBit_two_pow]; simp [eq_comm]

theorem pw_lt {j : Nat} (hj : j < 32) : ((2 ^ j : Nat) : Int) < 4294967296 := by
  have hp : (2 : Nat) ^ j < 2 ^ 32 := Nat.pow_lt_pow_right (by decide) hj
  have hq : (2 : Nat) ^ 32 = 4294967296 := by decide
  omega

theorem setB_nn {x : Int} (x0 : 0 ≤ x) (j : Nat) (b : Bool) : 0 ≤ setF x ((2 ^ j : Nat) : Int) b := by
  obtain ⟨n, rfl⟩ := Int.eq_ofNat_of_zero_le x0
  rw [setF_nat]; omega

theorem setB_bd {x : Int} {W : Nat} (x0 : 0 ≤ x) (x1 : x < ((2 ^ W : Nat) : Int)) {j : Nat} (hj : j < W) (b : Bool) : 0 ≤ setF x ((2 ^ j : Nat) : Int) b ∧ setF x ((2 ^ j : Nat) : Int) b < ((2 ^ W : Nat) : Int) := by
  have h0 := setB_nn x0 j b
  refine ⟨h0, ?_⟩
  have hm : setF x ((2 ^ j : Nat) : Int) b % ((2 ^ W : Nat) : Int) = setF x ((2 ^ j : Nat) : Int) b := by
    refine tb_ext (Int.emod_nonneg _ (by have := pw_pos W; omega)) h0 fun i => ?_
    rw [tb_mod h0, tb_setF x x0]
    by_cases hi : i < W
    · simp [hi]
    · rw [if_neg (by omega), tb_hi x1 (by omega)]; simp
  rw [← hm]
  exact Int.emod_lt_of_pos _ (pw_pos W)

theorem setB_same {x : Int} (x0 : 0 ≤ x) (j : Nat) : setF x ((2 ^ j : Nat) : Int) (tb x j) = x := by
  refine tb_ext (setB_nn x0 j _) x0 fun i => ?_
  rw [tb_setF x x0]
  by_cases h : i = j
  · simp [h]
  · simp [h]

theorem setB_twice {x : Int} (x0 : 0 ≤ x) (j : Nat) (b c : Bool) : setF (setF x ((2 ^ j : Nat) : Int) b) ((2 ^ j : Nat) : Int) c = setF x ((2 ^ j : Nat) : Int) c := by
  have h := setB_nn x0 j b
  refine tb_ext (setB_nn h j c) (setB_nn x0 j c) fun i => ?_
  rw [tb_setF _ h, tb_setF x x0, tb_setF x x0]
  by_cases h : i = j
  · simp [h]
  · simp [h]

theorem tb_setB {x : Int} (x0 : 0 ≤ x) (j : Nat) (b : Bool) : tb (setF x ((2 ^ j : Nat) : Int) b) j = b := by
  rw [tb_setF x x0]; simp

theorem or_bit {x : Int} (x0 : 0 ≤ x) (x1 : x < 4294967296) {j : Nat} (hj : j < 32) : bits .or .u32 x ((2 ^ j : Nat) : Int) = setF x ((2 ^ j : Nat) : Int) true := by
  have p := pw_pos j
  have a1 := or_bd x0 x1 (by omega) (pw_lt hj)
  refine tb_ext a1.1 (setB_nn x0 j _) fun i => ?_
  rw [tb_or x0 x1 (by omega) (pw_lt hj), tb_bit, tb_setF x x0]
  by_cases h : i = j
  · simp [h]
  · simp [h]

theorem not_bit {x : Int} (x0 : 0 ≤ x) (x1 : x < 4294967296) {j : Nat} (hj : j < 32) : bits .andNot .u32 x ((2 ^ j : Nat) : Int) = setF x ((2 ^ j : Nat) : Int) false := by
  have p := pw_pos j
  have a1 := andNot_bd x0 x1 (by omega) (pw_lt hj)
  refine tb_ext a1.1 (setB_nn x0 j _) fun i => ?_
  rw [tb_andNot x0 x1 (by omega) (pw_lt hj), tb_bit, tb_setF x x0]
  by_cases h : i = j
  · simp [h]
  · simp [h]

theorem xor_bit {x : Int} (x0 : 0 ≤ x) (x1 : x < 4294967296) {j : Nat} (hj : j < 32) : bits .xor .u32 x ((2 ^ j : Nat) : Int) = setF x ((2 ^ j : Nat) : Int) (!tb x j) := by
  have p := pw_pos j
  have a1 := xor_bd x0 x1 (by omega) (pw_lt hj)
  refine tb_ext a1.1 (setB_nn x0 j _) fun i => ?_
  rw [tb_xor x0 x1 (by omega) (pw_lt hj), tb_bit, tb_setF x x0]
  by_cases h : i = j
  · simp [h]
  · simp [h]

/-- what becomes of a bit -/
def bitB (op : Int) (b : Bool) : Bool := if op = 0 then b else if op = 1 then true else if op = 2 then false else !b

/-- what bitop.Bit answers, of a value and a place within it -/
def bitR (op x : Int) (j : Nat) : Int := setF x ((2 ^ j : Nat) : Int) (bitB op (tb x j))

theorem bitR_0 {x : Int} (x0 : 0 ≤ x) (j : Nat) : bitR 0 x j = x := setB_same x0 j

theorem bitR_bd {x : Int} {W : Nat} (x0 : 0 ≤ x) (x1 : x < ((2 ^ W : Nat) : Int)) {j : Nat} (hj : j < W) (op : Int) : 0 ≤ bitR op x j ∧ bitR op x j < ((2 ^ W : Nat) : Int) := setB_bd x0 x1 hj _

theorem bitR_33 {x : Int} (x0 : 0 ≤ x) (j : Nat) : bitR 3 (bitR 3 x j) j = x := by
  unfold bitR
  rw [setB_twice x0, tb_setB x0]
  show setF x ((2 ^ j : Nat) : Int) (!!tb x j) = x
  rw [Bool.not_not, setB_same x0]

theorem bitR_tb1 {x : Int} (x0 : 0 ≤ x) (j : Nat) : tb (bitR 1 x j) j = true := tb_setB x0 j true

theorem cf_mod {f : Int} (f0 : 0 ≤ f) : setF f 1 true % 2 = 1 := by
  unfold setF flg
  simp only [Int.ediv_one]
  split <;> simp <;> omega

/-- the first i from s on that p holds of, at most g steps on -/
def seek (p : Nat → Bool) : Nat → Nat → Nat
  | 0, i => i
  | g + 1, i => if p i then i else seek p g (i + 1)

theorem seek_is (p : Nat → Bool) : ∀ (g i k : Nat), i ≤ k → k < i + g → p k = true → (∀ j, i ≤ j → j < k → p j = false) → seek p g i = k
  | 0, i, k, h1, h2, h3, h4 => by omega
  | g + 1, i, k, h1, h2, h3, h4 => by
    unfold seek
    by_cases hi : i = k
    · subst hi; rw [if_pos h3]
    · have := h4 i (Nat.le_refl _) (by omega)
      rw [if_neg (by rw [this]; decide)]
      exact seek_is p g (i + 1) k (by omega) (by omega) h3 fun j a b => h4 j (by omega) b

theorem seek_finds (p : Nat → Bool) : ∀ (g i : Nat), (∃ k, i ≤ k ∧ k < i + g ∧ p k = true) → p (seek p g i) = true ∧ i ≤ seek p g i ∧ seek p g i < i + g ∧ ∀ j, i ≤ j → j < seek p g i → p j = false
  | 0, i, h => by obtain ⟨k, a, b, _⟩ := h; omega
  | g + 1, i, h => by
    unfold seek
    by_cases hi : p i = true
    · rw [if_pos hi]; exact ⟨hi, by omega, by omega, fun j a b => by omega⟩
    · rw [if_neg hi]
      obtain ⟨k, a, b, c⟩ := h
      have hk : i ≠ k := fun e => hi (by rw [e]; exact c)
      have ih := seek_finds p g (i + 1) ⟨k, by omega, by omega, c⟩
      refine ⟨ih.1, by omega, by omega, fun j ja jb => ?_⟩
      by_cases e : j = i
      · subst e; simpa using hi
      · exact ih.2.2.2 j (by omega) jb

/-- the place that is looked at behind k others, from below or from above -/
def lookAt (up : Bool) (k : Nat) : Nat := if up then k else 31 - k

/-- the place of the first bit that is set, from below or from above -/
def fstB (up : Bool) (x : Int) : Nat := lookAt up (seek (fun k => tb x (lookAt up k)) 32 0)

theorem some_bit {x : Int} (x0 : 0 ≤ x) (x1 : x < 4294967296) (h : x ≠ 0) : ∃ k, k < 32 ∧ tb x k = true := by
  refine Classical.byContradiction fun hn => h ?_
  refine tb_ext x0 (by decide) fun i => ?_
  rw [show tb 0 i = false by simp [tb]]
  by_cases hi : i < 32
  · cases hb : tb x i with
    | false => rfl
    | true => exact absurd ⟨i, hi, hb⟩ hn
  · exact tb_high x1 (by omega)

theorem some_look {x : Int} (x0 : 0 ≤ x) (x1 : x < 4294967296) (h : x ≠ 0) (up : Bool) : ∃ k, 0 ≤ k ∧ k < 0 + 32 ∧ tb x (lookAt up k) = true := by
  obtain ⟨k, a, b⟩ := some_bit x0 x1 h
  cases up
  · refine ⟨31 - k, by omega, by omega, ?_⟩
    show tb x (31 - (31 - k)) = true
    rw [show 31 - (31 - k) = k by omega]; exact b
  · exact ⟨k, by omega, by omega, b⟩

theorem fstB_lt {x : Int} (x0 : 0 ≤ x) (x1 : x < 4294967296) (h : x ≠ 0) (up : Bool) : fstB up x < 32 := by
  have := (seek_finds (fun k => tb x (lookAt up k)) 32 0 (some_look x0 x1 h up)).2.2.1
  unfold fstB
  generalize seek _ 32 0 = k at *
  cases up
  · show 31 - k < 32; omega
  · show k < 32; omega

theorem fstB_tb {x : Int} (x0 : 0 ≤ x) (x1 : x < 4294967296) (h : x ≠ 0) (up : Bool) : tb x (fstB up x) = true :=
  (seek_finds (fun k => tb x (lookAt up k)) 32 0 (some_look x0 x1 h up)).1

theorem fstB_low {x : Int} (x0 : 0 ≤ x) (x1 : x < 4294967296) (h : x ≠ 0) {j : Nat} (hj : j < fstB true x) : tb x j = false :=
  (seek_finds (fun k => tb x (lookAt true k)) 32 0 (some_look x0 x1 h true)).2.2.2 j (Nat.zero_le _) hj

theorem fstB_high {x : Int} (x0 : 0 ≤ x) (x1 : x < 4294967296) (h : x ≠ 0) {j : Nat} (hj : fstB false x < j) : tb x j = false := by
  by_cases h32 : j < 32
  · have s := seek_finds (fun k => tb x (lookAt false k)) 32 0 (some_look x0 x1 h false)
    have hj' : 31 - seek (fun k => tb x (lookAt false k)) 32 0 < j := hj
    have := s.2.2.2 (31 - j) (Nat.zero_le _) (by omega)
    have e : tb x (31 - (31 - j)) = false := this
    rw [show 31 - (31 - j) = j by omega] at e
    exact e
  · exact tb_high x1 (by omega)

/-- k places looked at in vain, and then one that is set: it is the first -/
theorem fstB_found {x : Int} {up : Bool} {k : Nat} (hk : k < 32) (ht : tb x (lookAt up k) = true) (hn : ∀ j, j < k → tb x (lookAt up j) = false) : fstB up x = lookAt up k := by
  unfold fstB
  rw [seek_is (fun k => tb x (lookAt up k)) 32 0 k (by omega) (by omega) ht fun j _ b => hn j b]

theorem fstB_up {x : Int} {k : Nat} (hk : k < 32) (ht : tb x k = true) (hn : ∀ j, j < k → tb x j = false) : fstB true x = k := fstB_found (up := true) hk ht hn

theorem fstB_down {x : Int} {k : Nat} (hk : k < 32) (ht : tb x k = true) (hn : ∀ j, k < j → j < 32 → tb x j = false) : fstB false x = k := by
  have e : lookAt false (31 - k) = k := by show 31 - (31 - k) = k; omega
  have := fstB_found (x := x) (up := false) (k := 31 - k) (by omega) (by rw [e]; exact ht) fun j hj => hn (31 - j) (by omega) (by omega)
  rw [this, e]

theorem low_back {x : Int} (x0 : 0 ≤ x) {k : Nat} (hn : ∀ j, j < k → tb x j = false) : x / ((2 ^ k : Nat) : Int) * ((2 ^ k : Nat) : Int) = x := by
  have h1 : 0 ≤ x / ((2 ^ k : Nat) : Int) := Int.ediv_nonneg x0 (by have := pw_pos k; omega)
  refine tb_ext (Int.mul_nonneg h1 (by have := pw_pos k; omega)) x0 fun i => ?_
  rw [tb_shl h1, tb_shr x0]
  by_cases h : k ≤ i
  · simp only [h, decide_true, Bool.true_and]; rw [show k + (i - k) = i by omega]
  · rw [hn i (by omega)]; simp [h]

theorem high_one {x : Int} (x0 : 0 ≤ x) {k : Nat} (ht : tb x k = true) (hn : ∀ j, k < j → tb x j = false) : x / ((2 ^ k : Nat) : Int) = 1 := by
  have h1 : 0 ≤ x / ((2 ^ k : Nat) : Int) := Int.ediv_nonneg x0 (by have := pw_pos k; omega)
  refine tb_ext h1 (by decide) fun i => ?_
  rw [tb_shr x0]
  by_cases h : i = 0
  · subst h; rw [Nat.add_zero, ht]; rfl
  · rw [hn _ (by omega)]
    have e : tb 1 i = decide (i = 0) := tb_bit 0 i
    rw [e]; simp [h]

/-- a value made wider -/
def extR (sg : Bool) (M N H x : Int) : Int := if sg && sgn H x then x + N - M else x

/-- a word with its bytes turned round -/
def swp (a : Int) : Int := a % 256 * 16777216 + a / 256 % 256 * 65536 + a / 65536 % 256 * 256 + a / 16777216

theorem nat_halves_or (p q r s : Nat) (hq : q < 2 ^ 16) (hs : s < 2 ^ 16) : (2 ^ 16 * p + q) ||| (2 ^ 16 * r + s) = 2 ^ 16 * (p ||| r) + (q ||| s) := by
  apply Nat.eq_of_testBit_eq
  intro i
  rw [Nat.testBit_or, Nat.testBit_two_pow_mul_add _ hq, Nat.testBit_two_pow_mul_add _ hs, Nat.testBit_two_pow_mul_add _ (Nat.or_lt_two_pow hq hs)]
  split <;> simp

theorem nat_halves_and (p q r s : Nat) (hq : q < 2 ^ 16) (hs : s < 2 ^ 16) : (2 ^ 16 * p + q) &&& (2 ^ 16 * r + s) = 2 ^ 16 * (p &&& r) + (q &&& s) := by
  apply Nat.eq_of_testBit_eq
  intro i
  rw [Nat.testBit_and, Nat.testBit_two_pow_mul_add _ hq, Nat.testBit_two_pow_mul_add _ hs, Nat.testBit_two_pow_mul_add _ (Nat.and_lt_two_pow _ hs)]
  split <;> simp

theorem nat_and_255 (p : Nat) : p &&& 255 = p % 256 := Nat.and_two_pow_sub_one_eq_mod p 8

theorem nat_or_8 (p q : Nat) (hq : q < 256) : q ||| (256 * p) = 256 * p + q := by
  rw [Nat.or_comm]; exact (Nat.two_pow_add_eq_or_of_lt (i := 8) hq p).symm

theorem nat_or_16 (p q : Nat) (hq : q < 65536) : q ||| (65536 * p) = 65536 * p + q := by
  rw [Nat.or_comm]; exact (Nat.two_pow_add_eq_or_of_lt (i := 16) hq p).symm

theorem nat_mask (n : Nat) (hn : n < 4294967296) : n &&& 16711935 = n / 65536 % 256 * 65536 + n % 256 := by
  have e : n = 2 ^ 16 * (n / 65536) + n % 65536 := by omega
  have e2 : (16711935 : Nat) = 2 ^ 16 * 255 + 255 := by decide
  have h := nat_halves_and (n / 65536) (n % 65536) 255 255 (by omega) (by decide)
  rw [← e, ← e2, nat_and_255, nat_and_255] at h
  rw [h]; omega

theorem nat_swap (n : Nat) (hn : n < 4294967296) :
    ((n / 256 &&& 16711935) ||| ((n &&& 16711935) * 256 % 4294967296)) = 65536 * (256 * (n / 65536 % 256) + n / 16777216) + (256 * (n % 256) + n / 256 % 256) := by
  rw [nat_mask n hn, nat_mask (n / 256) (by omega)]
  have e1 : n / 256 / 65536 % 256 * 65536 + n / 256 % 256 = 2 ^ 16 * (n / 16777216) + n / 256 % 256 := by omega
  have e2 : (n / 65536 % 256 * 65536 + n % 256) * 256 % 4294967296 = 2 ^ 16 * (256 * (n / 65536 % 256)) + 256 * (n % 256) := by omega
  rw [e1, e2, nat_halves_or _ _ _ _ (by omega) (by omega), nat_or_8 _ _ (by omega), nat_or_8 _ _ (by omega)]

theorem nat_turn (h l : Nat) (hh : h < 65536) (hl : l < 65536) : ((65536 * h + l) / 65536 ||| ((65536 * h + l) * 65536 % 4294967296)) = 65536 * l + h := by
  have e1 : (65536 * h + l) / 65536 = h := by omega
  have e2 : (65536 * h + l) * 65536 % 4294967296 = 65536 * l := by omega
  rw [e1, e2, nat_or_16 _ _ hh]

theorem swap_is {a : Int} (a0 : 0 ≤ a) (a1 : a < 4294967296) :
    bits .or .u32 (bits .or .u32 (bits .and .u32 (a / 256) 16711935) (bits .and .u32 a 16711935 * 256 % 4294967296) / 65536) (bits .or .u32 (bits .and .u32 (a / 256) 16711935) (bits .and .u32 a 16711935 * 256 % 4294967296) * 65536 % 4294967296) = swp a := by
  obtain ⟨n, rfl⟩ := Int.eq_ofNat_of_zero_le a0
  have hn : n < 4294967296 := by omega
  have b1 : bits .and .u32 ((n : Int) / 256) 16711935 = ((n / 256 &&& 16711935 : Nat) : Int) := by
    rw [u32_and _ _ (by omega) (by omega) (by decide) (by decide)]; rfl
  have b2 : bits .and .u32 (n : Int) 16711935 = ((n &&& 16711935 : Nat) : Int) := by
    rw [u32_and _ _ (by omega) (by omega) (by decide) (by decide)]; rfl
  have m1 := nat_mask n hn
  have m2 := nat_mask (n / 256) (by omega)
  rw [b1, b2]
  have b3 : bits .or .u32 ((n / 256 &&& 16711935 : Nat) : Int) (((n &&& 16711935 : Nat) : Int) * 256 % 4294967296) = (((n / 256 &&& 16711935) ||| ((n &&& 16711935) * 256 % 4294967296) : Nat) : Int) := by
    rw [u32_or _ _ (by omega) (by omega) (by omega) (by omega)]
    congr 1
  rw [b3, nat_swap n hn]
  generalize hp : 256 * (n / 65536 % 256) + n / 16777216 = p
  generalize hq : 256 * (n % 256) + n / 256 % 256 = q
  have p1 : p < 65536 := by omega
  have q1 : q < 65536 := by omega
  have ht := nat_turn p q p1 q1
  have b4 : bits .or .u32 (((65536 * p + q : Nat) : Int) / 65536) (((65536 * p + q : Nat) : Int) * 65536 % 4294967296) = (((65536 * p + q) / 65536 ||| ((65536 * p + q) * 65536 % 4294967296) : Nat) : Int) := by
    rw [u32_or _ _ (by omega) (by omega) (by omega) (by omega)]
    congr 1
  rw [b4, ht]
  unfold swp
  have d1 : (n : Int) / 256 % 256 = ((n / 256 % 256 : Nat) : Int) := rfl
  have d2 : (n : Int) / 65536 % 256 = ((n / 65536 % 256 : Nat) : Int) := rfl
  have d3 : (n : Int) / 16777216 = ((n / 16777216 : Nat) : Int) := rfl
  have d0 : (n : Int) % 256 = ((n % 256 : Nat) : Int) := rfl
  rw [d0, d1, d2, d3]
  generalize n / 256 % 256 = y1 at *
  generalize n / 65536 % 256 = y2 at *
  generalize n / 16777216 = y3 at *
  generalize n % 256 = y0 at *
  omega

theorem swp_bd {a : Int} (a0 : 0 ≤ a) (a1 : a < 4294967296) : 0 ≤ swp a ∧ swp a < 4294967296 := by unfold swp; omega

theorem swp_bytes {b c d e : Int} (b0 : 0 ≤ b) (b1 : b < 256) (c0 : 0 ≤ c) (c1 : c < 256) (d0 : 0 ≤ d) (d1 : d < 256) (e0 : 0 ≤ e) (e1 : e < 256) :
    swp (b * 16777216 + c * 65536 + d * 256 + e) = e * 16777216 + d * 65536 + c * 256 + b := by
  have h0 : (b * 16777216 + c * 65536 + d * 256 + e) % 256 = e := by omega
  have h1 : (b * 16777216 + c * 65536 + d * 256 + e) / 256 % 256 = d := by omega
  have h2 : (b * 16777216 + c * 65536 + d * 256 + e) / 65536 % 256 = c := by omega
  have h3 : (b * 16777216 + c * 65536 + d * 256 + e) / 16777216 = b := by omega
  unfold swp
  rw [h0, h1, h2, h3]

theorem bytes_of {a : Int} : a / 16777216 * 16777216 + a / 65536 % 256 * 65536 + a / 256 % 256 * 256 + a % 256 = a := by
  have h1 : a / 16777216 = a / 65536 / 256 := by omega
  have h2 : a / 65536 = a / 256 / 256 := by omega
  rw [h1, h2]; omega

theorem swp_swp {a : Int} (a0 : 0 ≤ a) (a1 : a < 4294967296) : swp (swp a) = a := by
  have h := swp_bytes (b := a % 256) (c := a / 256 % 256) (d := a / 65536 % 256) (e := a / 16777216) (by omega) (by omega) (by omega) (by omega) (by omega) (by omega) (by omega) (by omega)
  have hs : swp a = a % 256 * 16777216 + a / 256 % 256 * 65536 + a / 65536 % 256 * 256 + a / 16777216 := rfl
  rw [hs, h, bytes_of]

/-- whether a condition of an even number holds, by half that number -/
def condB (k f : Int) : Bool :=
  if k = 0 then hasF f 2048 else if k = 1 then hasF f 1 else if k = 2 then hasF f 64 else if k = 3 then hasF f 1 || hasF f 64
  else if k = 4 then hasF f 128 else if k = 5 then hasF f 4 else if k = 6 then hasF f 128 != hasF f 2048 else hasF f 64 || (hasF f 128 != hasF f 2048)

/-- whether a condition holds -/
def condR (cc f : Int) : Bool := condB (cc / 2) f != (cc % 2 == 1)
end Go.Proofs.Ytelclgelooljlaa
