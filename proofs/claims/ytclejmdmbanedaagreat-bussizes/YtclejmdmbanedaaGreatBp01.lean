/- The bus and its devices: AluMath, AluSpec, Grow. -/
import Derived.WalkKit
import Derived.ProofKit
import Derived.Laws.BitsAllLaws
import Derived.Lib.BitFns
import Derived.Test.YtclejmdmbanedaaGreatRows
import Derived.OpenShut
import Derived.Laws.EntriesVeiled
import Derived.Deep.QuietTactic
import Derived.BigQuiet
import Derived.Lib.Tables
import Derived.Deep.RegionHeld3
namespace Go.Proofs.YtclejmdmbanedaaGreat
set_option linter.unusedVariables false
def tb (f : Int) (i : Nat) : Bool := f.toNat.testBit i
def flg (b : Bool) (f : Int) : Int := if b then f else 0
def setF (f k : Int) (b : Bool) : Int := (if f / k % 2 = 1 then f - k else f) + flg b k
def Sz (s H M sp bt : Int) : Prop := (s = 1 ∧ H = 128 ∧ M = 256 ∧ sp = 24 ∧ bt = 8) ∨ (s = 2 ∧ H = 32768 ∧ M = 65536 ∧ sp = 16 ∧ bt = 16) ∨ (s = 4 ∧ H = 2147483648 ∧ M = 4294967296 ∧ sp = 0 ∧ bt = 32)
theorem tb_ext {a b : Int} (ha : 0 ≤ a) (hb : 0 ≤ b) (h : ∀ i, tb a i = tb b i) : a = b := by
  have e : a.toNat = b.toNat := Nat.eq_of_testBit_eq h
  omega
theorem tb_high {a : Int} (h : a < 4294967296) {i : Nat} (hi : 32 ≤ i) : tb a i = false := by
  unfold tb
  apply Nat.testBit_lt_two_pow
  have : (2 : Nat) ^ 32 ≤ 2 ^ i := Nat.pow_le_pow_right (by decide) hi
  have e : (2 : Nat) ^ 32 = 4294967296 := by decide
  omega
theorem lt32_and {a b : Nat} (hb : b < 4294967296) : a &&& b < 4294967296 := Nat.and_lt_two_pow (n := 32) a hb
theorem andNot_bd {a b : Int} (a0 : 0 ≤ a) (a1 : a < 4294967296) (b0 : 0 ≤ b) (b1 : b < 4294967296) : 0 ≤ bits .andNot .u32 a b ∧ bits .andNot .u32 a b < 4294967296 := by
  rw [u32_andNot a b a0 a1 b0 b1]
  have := lt32_and (a := a.toNat) (b := 4294967295 - b.toNat) (by omega)
  omega
theorem tb_not {b : Int} (b0 : 0 ≤ b) (b1 : b < 4294967296) {i : Nat} (hi : i < 32) : tb (4294967295 - b) i = !tb b i := by
  have e : (4294967295 - b).toNat = 2 ^ 32 - (b.toNat + 1) := by
    have : (2 : Nat) ^ 32 = 4294967296 := by decide
    omega
  unfold tb
  rw [e, Nat.testBit_two_pow_sub_succ (by have : (2 : Nat) ^ 32 = 4294967296 := by decide
                                          omega)]
  simp [hi]
theorem tb_andNot {a b : Int} (a0 : 0 ≤ a) (a1 : a < 4294967296) (b0 : 0 ≤ b) (b1 : b < 4294967296) (i : Nat) : tb (bits .andNot .u32 a b) i = (tb a i && !tb b i) := by
  rw [u32_andNot a b a0 a1 b0 b1]
  by_cases hi : i < 32
  · have h := tb_not b0 b1 hi
    have e : (4294967295 - b).toNat = 4294967295 - b.toNat := by omega
    unfold tb at h ⊢
    rw [e] at h
    simp [h]
  · have h := tb_high a1 (i := i) (by omega)
    unfold tb at h ⊢
    simp [h]
/-- a number with its bit j laid anew -/
theorem lay_bit (m r j i : Nat) (c : Nat) (hr : r < 2 ^ j) (hc : c < 2) : (2 ^ j * (2 * m + c) + r).testBit i = if i = j then decide (c = 1) else if i < j then r.testBit i else m.testBit (i - j - 1) := by
  rw [Nat.testBit_two_pow_mul_add _ hr]
  by_cases h1 : i < j
  · simp [h1, Nat.ne_of_lt h1]
  · by_cases h2 : i = j
    · subst h2
      have : c = 0 ∨ c = 1 := by omega
      rcases this with rfl | rfl <;> simp [Nat.testBit_zero] <;> omega
    · obtain ⟨t, rfl⟩ : ∃ t, i = j + (t + 1) := ⟨i - j - 1, by omega⟩
      have e1 : j + (t + 1) - j = t + 1 := by omega
      have e2 : j + (t + 1) - j - 1 = t := by omega
      rw [if_neg h1, if_neg h2, if_neg h1, e2, e1, Nat.testBit_succ]
      congr 1
      omega
theorem setF_nat (f j : Nat) (b : Bool) : setF (f : Int) ((2 ^ j : Nat) : Int) b = ((2 ^ j * (2 * (f / 2 ^ j / 2) + b.toNat) + f % 2 ^ j : Nat) : Int) := by
  have hd := Nat.div_add_mod f (2 ^ j)
  have hq : f / 2 ^ j = 2 * (f / 2 ^ j / 2) + f / 2 ^ j % 2 := by omega
  have hc : f / 2 ^ j % 2 = 0 ∨ f / 2 ^ j % 2 = 1 := by omega
  have e1 : ((f : Int) / ((2 ^ j : Nat) : Int) % 2) = ((f / 2 ^ j % 2 : Nat) : Int) := by
    rw [Int.natCast_emod, Int.natCast_ediv]; rfl
  unfold setF
  rw [e1]
  generalize hm : f / 2 ^ j / 2 = m at *
  generalize hr : f % 2 ^ j = r at *
  generalize hp : 2 ^ j = p at *
  generalize hqq : f / p = q at *
  rcases hc with hc | hc
  · rw [hc] at hq ⊢
    have e2 : q = 2 * m := by omega
    rw [if_neg (by decide)]
    have e3 : f = p * (2 * m) + r := by rw [← e2]; exact hd.symm
    cases b
    · simp only [flg, Bool.toNat_false]; rw [e3]; push_cast; simp
    · simp only [flg, Bool.toNat_true, if_true]; rw [e3, Nat.mul_add]; push_cast; simp; omega
  · rw [hc] at hq ⊢
    have e3 : f = p * (2 * m) + p + r := by rw [← hd, hq, Nat.mul_add]; omega
    rw [if_pos (by decide)]
    cases b
    · simp only [flg, Bool.toNat_false]; rw [e3]; push_cast; simp; omega
    · simp only [flg, Bool.toNat_true, if_true]; rw [e3, Nat.mul_add]; push_cast; simp
theorem tb_setF (f : Int) (f0 : 0 ≤ f) (j : Nat) (b : Bool) (i : Nat) : tb (setF f ((2 ^ j : Nat) : Int) b) i = if i = j then b else tb f i := by
  obtain ⟨n, rfl⟩ := Int.eq_ofNat_of_zero_le f0
  rw [setF_nat]
  unfold tb
  rw [Int.toNat_natCast, Int.toNat_natCast, lay_bit _ _ _ _ _ (Nat.mod_lt _ (Nat.two_pow_pos j)) (by cases b <;> decide)]
  by_cases h : i = j
  · simp only [h, if_true]; cases b <;> rfl
  · rw [if_neg h, if_neg h]
    have e : n = 2 ^ j * (2 * (n / 2 ^ j / 2) + n / 2 ^ j % 2) + n % 2 ^ j := by
      have hd := Nat.div_add_mod n (2 ^ j)
      have hq : 2 * (n / 2 ^ j / 2) + n / 2 ^ j % 2 = n / 2 ^ j := by omega
      rw [hq]; exact hd.symm
    have := lay_bit (n / 2 ^ j / 2) (n % 2 ^ j) j i (n / 2 ^ j % 2) (Nat.mod_lt _ (Nat.two_pow_pos j)) (Nat.mod_lt _ (by decide))
    rw [← e, if_neg h] at this
    exact this.symm
theorem setF_bd {f : Int} (f0 : 0 ≤ f) (f1 : f < 4294967296) (k : Int) (hk : k = 1 ∨ k = 4 ∨ k = 16 ∨ k = 64 ∨ k = 128 ∨ k = 2048) (b : Bool) : 0 ≤ setF f k b ∧ setF f k b < 4294967296 := by
  unfold setF flg
  rcases hk with rfl | rfl | rfl | rfl | rfl | rfl <;> cases b <;> simp <;> split <;> omega
end Go.Proofs.YtclejmdmbanedaaGreat
namespace Go.Proofs.YtclejmdmbanedaaGreat
open Go.RowKit
set_option linter.unusedVariables false
def okSize (s : Int) : Bool := s == 1 || s == 2 || s == 4
theorem Sz.ok {s H M sp bt : Int} (hS : Sz s H M sp bt) : okSize s = true := by
  rcases hS with ⟨rfl, rfl, rfl, rfl, rfl⟩ | ⟨rfl, rfl, rfl, rfl, rfl⟩ | ⟨rfl, rfl, rfl, rfl, rfl⟩ <;> rfl
def isFlag (k : Int) : Prop := k = 1 ∨ k = 4 ∨ k = 16 ∨ k = 64 ∨ k = 128 ∨ k = 2048
theorem bd1 {f : Int} (f0 : 0 ≤ f) (f1 : f < 4294967296) (k : Int) (hk : isFlag k) (b : Bool) : 0 ≤ setF f k b ∧ setF f k b < 4294967296 := setF_bd f0 f1 k hk b
theorem bd2 {f : Int} (f0 : 0 ≤ f) (f1 : f < 4294967296) (k l : Int) (hk : isFlag k) (hl : isFlag l) (b c : Bool) : 0 ≤ setF (setF f k b) l c ∧ setF (setF f k b) l c < 4294967296 :=
  setF_bd (bd1 f0 f1 k hk b).1 (bd1 f0 f1 k hk b).2 l hl c
theorem bd3 {f : Int} (f0 : 0 ≤ f) (f1 : f < 4294967296) (k l m : Int) (hk : isFlag k) (hl : isFlag l) (hm : isFlag m) (b c d : Bool) : 0 ≤ setF (setF (setF f k b) l c) m d ∧ setF (setF (setF f k b) l c) m d < 4294967296 :=
  setF_bd (bd2 f0 f1 k l hk hl b c).1 (bd2 f0 f1 k l hk hl b c).2 m hm d
end Go.Proofs.YtclejmdmbanedaaGreat
namespace Go.Proofs.YtclejmdmbanedaaGreat
open Go.ChangeShapes Go.WideShapes Go.ChangeAt Go.RowKit
set_option linter.unusedVariables false
theorem Grown.trans {a b c : World} (h : Grown a b) (k : Grown b c) : Grown a c :=
  ⟨World.keptBut_trans h.1 k.1, fun x => (k.2.1 x).trans (h.2.1 x), Nat.le_trans h.2.2 k.2.2⟩
theorem Grown.drewN {W w' : World} (h : Grown W w') (n : Nat) : Grown W (w'.drewN n) := by
  induction n with
  | zero => exact h
  | succ n ih => exact ih
theorem ret_int {k : IntKind} {a b : Int} (h : a = b) : Ending.returned (.int k a) = .returned (.int k b) := by rw [h]
theorem ret_bool {a b : Bool} (h : a = b) : Ending.returned (.bool a) = .returned (.bool b) := by rw [h]
theorem Grown.block {W w' : World} (h : Grown W w') {i : Nat} (hi : i < W.heap.size) : w'.heap[i]? = W.heap[i]? := by
  have k := h.1.2.2 i hi
  split at k
  · rename_i c t fr c' t' fr' e1 e2
    obtain ⟨rfl, rfl, hs, hj⟩ := k
    have : c' = c := Array.ext_getElem? fun j => hj j (fun f => f)
    rw [e1, e2, this]
  · rename_i e1 e2
    rcases k with f | ⟨rfl, rfl⟩
    · exact f.elim
    · rw [e1, e2]
  · exact k
theorem Grown.cell {W w' : World} (h : Grown W w') {p : Addr} (hp : p.block < W.heap.size) : w'.cell? p = W.cell? p := World.cell?_of_block (w := W) (Grown.block h hp)
end Go.Proofs.YtclejmdmbanedaaGreat
