/- The pair, line by line: plain facts on the bits of its numbers. -/
import Derived.Test.YtfpgijdfbgfkcaaPcOps
namespace Go.Proofs.Ytfpgijdfbgfkcaa
open Go.RowKit
set_option linter.unusedVariables false

theorem tb8_and {a b : Int} (ha : By a) (hb : By b) (i : Nat) : tb (bits .and .u8 a b) i = (tb a i && tb b i) := by
  rw [u8_and a b ha.1 ha.2 hb.1 hb.2]; simp [tb]
theorem tb8_or {a b : Int} (ha : By a) (hb : By b) (i : Nat) : tb (bits .or .u8 a b) i = (tb a i || tb b i) := by
  rw [u8_or a b ha.1 ha.2 hb.1 hb.2]; simp [tb]
theorem tb8_hi {a : Int} (ha : By a) {i : Nat} (h : 8 ≤ i) : tb a i = false := by
  unfold tb
  apply Nat.testBit_lt_two_pow
  have : (2 : Nat) ^ 8 ≤ 2 ^ i := Nat.pow_le_pow_right (by decide) h
  have e : (2 : Nat) ^ 8 = 256 := by decide
  have := ha.1; have := ha.2
  omega
theorem tb8_not {b : Int} (hb : By b) {i : Nat} (hi : i < 8) : tb (255 - b) i = !tb b i := by
  have := hb.1; have := hb.2
  have e : (255 - b).toNat = 2 ^ 8 - (b.toNat + 1) := by
    have : (2 : Nat) ^ 8 = 256 := by decide
    omega
  unfold tb
  rw [e, Nat.testBit_two_pow_sub_succ (by have : (2 : Nat) ^ 8 = 256 := by decide
                                          omega)]
  simp [hi]
theorem tb8_andNot {a b : Int} (ha : By a) (hb : By b) (i : Nat) : tb (bits .andNot .u8 a b) i = (tb a i && !tb b i) := by
  rw [u8_andNot a b ha.1 ha.2 hb.1 hb.2]
  by_cases hi : i < 8
  · have h := tb8_not hb hi
    have e : (255 - b).toNat = 255 - b.toNat := by have := hb.1; have := hb.2; omega
    unfold tb at h ⊢
    rw [e] at h
    simp [h]
  · have h := tb8_hi ha (i := i) (by omega)
    unfold tb at h ⊢
    simp [h]

theorem tb_pw (n i : Nat) : tb (pw (n : Int)) i = decide (i = n) := by
  unfold pw tb
  rw [show ((n : Int)).toNat = n from rfl, show (((2 ^ n : Nat) : Int)).toNat = 2 ^ n from rfl, Nat.testBit_two_pow]
  simp [eq_comm]

theorem by_ext {a b : Int} (ha : By a) (hb : By b) (h : ∀ i, i < 8 → tb a i = tb b i) : a = b := by
  refine tb_ext ha.1 hb.1 fun i => ?_
  by_cases hi : i < 8
  · exact h i hi
  · rw [tb8_hi ha (by omega), tb8_hi hb (by omega)]

theorem bt_pw {x : Int} (hx : By x) {n : Nat} (hn : n < 8) : bt x (pw (n : Int)) = tb x n := by
  have hp := by_pw (n := (n : Int)) (by omega) (by omega)
  have h := tb8_and hx hp
  unfold bt
  cases e : tb x n
  · have z : bits .and .u8 x (pw (n : Int)) = 0 := by
      refine by_ext (by_and hx hp) ⟨by decide, by decide⟩ fun i hi => ?_
      rw [h i, tb_pw]
      by_cases hin : i = n
      · subst hin; rw [e]; simp [tb]
      · simp [hin, tb]
    rw [z]; rfl
  · have z : ¬ bits .and .u8 x (pw (n : Int)) = 0 := fun z => by
      have := h n
      rw [z, e, tb_pw] at this
      simp [tb] at this
    simpa using z

theorem tz_all : ∀ n : Fin 256, ∀ k : Fin 9, (List.range k.val).all (fun j => !n.val.testBit j) = decide (k.val ≤ Lib.trailingZeros8 n.val) := by decide +kernel

theorem tz_ge {x : Int} (h : By x) {k : Nat} (hk : k ≤ 8) : (∀ j, j < k → tb x j = false) ↔ (k : Int) ≤ tz x := by
  have a := tz_all ⟨x.toNat, by have := h.1; have := h.2; omega⟩ ⟨k, by omega⟩
  simp only at a
  have b : ((k : Int) ≤ tz x) ↔ (k ≤ Lib.trailingZeros8 x.toNat) := by unfold tz; omega
  rw [b, ← decide_eq_true_iff (p := k ≤ Lib.trailingZeros8 x.toNat), ← a]
  simp [tb]

theorem tz_le {x : Int} (h : By x) {k : Nat} (hk : k < 8) (e : tb x k = true) : tz x ≤ k := by
  by_cases g : tz x ≤ k
  · exact g
  · have := (tz_ge h (k := k + 1) (by omega)).2 (by omega) k (by omega)
    rw [e] at this; cases this

theorem tz_is {x : Int} (h : By x) {k : Nat} (hk : k < 8) (e : tb x k = true) (f : ∀ j, j < k → tb x j = false) : tz x = k := by
  have a := tz_le h hk e
  have b := (tz_ge h (k := k) (by omega)).1 f
  omega

/-- Whether a line asks that is not masked. -/
def Ch.eff (c : Ch) (k : Nat) : Bool := tb c.asks k && !tb c.msk k

theorem eff_tb {c : Ch} (h : c.Ok) (k : Nat) : tb (bits .andNot .u8 c.asks c.msk) k = c.eff k := tb8_andNot h.asks h.msk k

theorem next_is {c : Ch} (h : c.Ok) {k : Nat} (hk : k < 8) (e : c.eff k = true) (f : ∀ j, j < k → c.eff j = false) (g : ∀ j, j ≤ k → tb c.srv j = false) : c.next = k := by
  have hy := by_andNot h.asks h.msk
  have a : tz (bits .andNot .u8 c.asks c.msk) = k := tz_is hy hk (by rw [eff_tb h]; exact e) (fun j hj => by rw [eff_tb h]; exact f j hj)
  have b := (tz_ge h.srv (k := k + 1) (by omega)).1 (fun j hj => g j (by omega))
  unfold Ch.next nextZ
  rw [a, if_neg (by omega)]

theorem next_none {c : Ch} (h : c.Ok) {k : Nat} (hk : k ≤ 8) (f : ∀ j, j < k → c.eff j = false) (g : k = 8 ∨ (k < 8 ∧ tb c.srv k = true)) : c.next = -1 := by
  have hy := by_andNot h.asks h.msk
  have a := (tz_ge hy hk).1 (fun j hj => by rw [eff_tb h]; exact f j hj)
  have b : tz c.srv ≤ k := by
    rcases g with g | ⟨g1, g2⟩
    · subst g; exact (tz_bd h.srv).2
    · exact tz_le h.srv g1 g2
  unfold Ch.next nextZ
  rw [if_pos (by omega)]

theorem zero_tb (i : Nat) : tb 0 i = false := by simp [tb]

/-! ### settle -/
theorem settle_asks {m : M2} (h : m.Ok) (k : Nat) : tb m.settle.a.asks k = if k = 2 then (m.b.next != -1) else tb m.a.asks k := by
  have f : By 4 := by_lit 4 (by decide) (by decide)
  have e4 : ∀ k, tb 4 k = decide (k = 2) := fun k => tb_pw 2 k
  show tb (if m.b.next = -1 then bits .andNot .u8 m.a.asks 4 else bits .or .u8 (bits .andNot .u8 m.a.asks 4) 4) k = _
  by_cases g : m.b.next = -1
  · rw [if_pos g, tb8_andNot h.a.asks f, e4, g]
    by_cases hk : k = 2
    · subst hk; simp
    · simp [hk]
  · rw [if_neg g, tb8_or (by_andNot h.a.asks f) f, tb8_andNot h.a.asks f, e4]
    by_cases hk : k = 2
    · subst hk; simp [g]
    · simp [hk]

theorem settle_eff {m : M2} (h : m.Ok) {k : Nat} (hk : k ≠ 2) : m.settle.a.eff k = m.a.eff k := by
  unfold Ch.eff
  rw [settle_asks h, if_neg hk]
  rfl

/-! ### a chip's steps, line by line -/
theorem told_f {c : Ch} (n : Nat) (he : c.ends = false) : c.told (n : Int) = { c with asks := bits .andNot .u8 c.asks (pw (n : Int)), srv := bits .or .u8 c.srv (pw (n : Int)) } := by
  unfold Ch.told
  rw [if_neg (by omega)]
  simp [he]

theorem told_eff {c : Ch} (h : c.Ok) {n : Nat} (hn : n < 8) (he : c.ends = false) (k : Nat) : (c.told (n : Int)).eff k = (c.eff k && !decide (k = n)) := by
  rw [told_f n he]
  unfold Ch.eff
  show (tb (bits .andNot .u8 c.asks (pw (n : Int))) k && !tb c.msk k) = _
  rw [tb8_andNot h.asks (by_pw (by omega) (by omega)), tb_pw]
  cases tb c.asks k <;> cases tb c.msk k <;> cases decide (k = n) <;> rfl

theorem told_srv {c : Ch} (h : c.Ok) {n : Nat} (hn : n < 8) (he : c.ends = false) (k : Nat) : tb (c.told (n : Int)).srv k = (tb c.srv k || decide (k = n)) := by
  rw [told_f n he]
  show tb (bits .or .u8 c.srv (pw (n : Int))) k = _
  rw [tb8_or h.srv (by_pw (by omega) (by omega)), tb_pw]

theorem cmd32 (c : Ch) : c.cmd 32 = { c with srv := bits .and .u8 c.srv ((c.srv - 1) % 256) } := by
  unfold Ch.cmd
  rw [if_neg (by decide), if_neg (by decide), if_pos (by decide)]

theorem low_pw : ∀ n : Fin 8, bits .and .u8 (pw (n.val : Int)) ((pw (n.val : Int) - 1) % 256) = 0 := by decide +kernel

theorem dat0 {c : Ch} (v : Int) (h : c.due = 0) : c.dat v = { c with msk := v } := by
  unfold Ch.dat Ch.dat1
  rw [h, if_pos (by decide)]
  have e : bits .and .u8 (0 : Int) ((0 - 1) % 256) = 0 := by decide
  rw [e]
end Go.Proofs.Ytfpgijdfbgfkcaa
