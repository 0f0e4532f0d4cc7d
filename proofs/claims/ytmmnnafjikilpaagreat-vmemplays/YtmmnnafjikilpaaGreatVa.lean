/- Texts on vmem, joined: AluMath, AluSpec, Grow, ShiftMath, RamBase, RamLeaf, RamNew2, RamNote, RamTell, RamLay, RamOps, RamOps2. -/
import Derived.WalkKit
import Derived.ProofKit
import Derived.Laws.BitsAllLaws
import Derived.Lib.BitFns
import Derived.Test.YtmmnnafjikilpaaGreatRows
import Derived.OpenShut
import Derived.Laws.EntriesVeiled
import Derived.Deep.QuietTactic
import Derived.BigQuiet
import Derived.Lib.Tables
import Derived.Deep.RegionHeld3
import Derived.Maps.OwnSet
import Derived.Maps.Range
import Derived.Laws.CopyOwn
import Derived.LoopTactic
import Derived.Laws.MakeOwn
/- Plain facts on 32-bit words, their bits and flags: no Go in sight; each says what a number's bit or a flag is, under the bounds that it names. -/
namespace Go.Proofs.YtmmnnafjikilpaaGreat
set_option linter.unusedVariables false

def tb (f : Int) (i : Nat) : Bool := f.toNat.testBit i
def flg (b : Bool) (f : Int) : Int := if b then f else 0
def setF (f k : Int) (b : Bool) : Int := (if f / k % 2 = 1 then f - k else f) + flg b k
def hasF (f k : Int) : Bool := f / k % 2 == 1
def Sz (s H M sp bt : Int) : Prop := (s = 1 ∧ H = 128 ∧ M = 256 ∧ sp = 24 ∧ bt = 8) ∨ (s = 2 ∧ H = 32768 ∧ M = 65536 ∧ sp = 16 ∧ bt = 16) ∨ (s = 4 ∧ H = 2147483648 ∧ M = 4294967296 ∧ sp = 0 ∧ bt = 32)

theorem tb_ext {a b : Int} (ha : 0 ≤ a) (hb : 0 ≤ b) (h : ∀ i, tb a i = tb b i) : a = b := by
  have e : a.toNat = b.toNat := Nat.eq_of_testBit_eq h
  omega

theorem tb_high {a : Int} (h : a < 4294967296) {i : Nat} (hi : 32 ≤ i) : tb a i = false := by
  unfold tb
  apply Nat.testBit_lt_two_pow
  have : (2 : Nat) ^ 32 ≤ 2 ^ i := Nat.pow_le_pow_right (by decide) hi
  have e : (2 : Nat) ^ 32 = 4294967296 := by decide
  omega

theorem lt32_or {a b : Nat} (ha : a < 4294967296) (hb : b < 4294967296) : a ||| b < 4294967296 := Nat.or_lt_two_pow (n := 32) ha hb
theorem lt32_and {a b : Nat} (hb : b < 4294967296) : a &&& b < 4294967296 := Nat.and_lt_two_pow (n := 32) a hb

theorem or_bd {a b : Int} (a0 : 0 ≤ a) (a1 : a < 4294967296) (b0 : 0 ≤ b) (b1 : b < 4294967296) : 0 ≤ bits .or .u32 a b ∧ bits .or .u32 a b < 4294967296 := by
  rw [u32_or a b a0 a1 b0 b1]
  have := lt32_or (a := a.toNat) (b := b.toNat) (by omega) (by omega)
  omega
theorem and_bd {a b : Int} (a0 : 0 ≤ a) (a1 : a < 4294967296) (b0 : 0 ≤ b) (b1 : b < 4294967296) : 0 ≤ bits .and .u32 a b ∧ bits .and .u32 a b < 4294967296 := by
  rw [u32_and a b a0 a1 b0 b1]
  have := lt32_and (a := a.toNat) (b := b.toNat) (by omega)
  omega
theorem andNot_bd {a b : Int} (a0 : 0 ≤ a) (a1 : a < 4294967296) (b0 : 0 ≤ b) (b1 : b < 4294967296) : 0 ≤ bits .andNot .u32 a b ∧ bits .andNot .u32 a b < 4294967296 := by
  rw [u32_andNot a b a0 a1 b0 b1]
  have := lt32_and (a := a.toNat) (b := 4294967295 - b.toNat) (by omega)
  omega

theorem tb_or {a b : Int} (a0 : 0 ≤ a) (a1 : a < 4294967296) (b0 : 0 ≤ b) (b1 : b < 4294967296) (i : Nat) : tb (bits .or .u32 a b) i = (tb a i || tb b i) := by
  rw [u32_or a b a0 a1 b0 b1]; simp [tb]
theorem tb_and {a b : Int} (a0 : 0 ≤ a) (a1 : a < 4294967296) (b0 : 0 ≤ b) (b1 : b < 4294967296) (i : Nat) : tb (bits .and .u32 a b) i = (tb a i && tb b i) := by
  rw [u32_and a b a0 a1 b0 b1]; simp [tb]
theorem tb_not {b : Int} (b0 : 0 ≤ b) (b1 : b < 4294967296) {i : Nat} (hi : i < 32) : tb (4294967295 - b) i = !tb b i := by
  have e : (4294967295 - b).toNat = 2 ^ 32 - (b.toNat + 1) := by
    have : (2 : Nat) ^ 32 = 4294967296 := by decide
    omega
  unfold tb
  rw [e, Nat.testBit_two_pow_sub_succ (by have : (2 : Nat) ^ 32 = 4294967296 := by decide
                                          omega)]
  simp [hi]
theorem tb_andNot {a b : Int} (a0 : 0 ≤ a) (a1 : a < 4294967296) (b0 : 0 ≤ b) (b1 : b < 4294967296) (i : Nat) : tb (bits .andNot .u32 a b) i = (tb a i && !tb b i) := by
  rw [u32_andNot a b a0 a1 b0 b1]
  by_cases hi : i < 32
  · have h := tb_not b0 b1 hi
    have e : (4294967295 - b).toNat = 4294967295 - b.toNat := by omega
    unfold tb at h ⊢
    rw [e] at h
    simp [h]
  · have h := tb_high a1 (i := i) (by omega)
    unfold tb at h ⊢
    simp [h]

theorem tb_flg (b : Bool) (j : Nat) (i : Nat) : tb (flg b ((2 ^ j : Nat) : Int)) i = (b && decide (i = j)) := by
  cases b
  · simp [flg, tb]
  · simp only [flg, if_true, tb, Int.toNat_natCast, Nat.testBit_two_pow, Bool.true_and]
    simp [eq_comm]

/-- a number with its bit j laid anew -/
theorem lay_bit (m r j i : Nat) (c : Nat) (hr : r < 2 ^ j) (hc : c < 2) : (2 ^ j * (2 * m + c) + r).testBit i = if i = j then decide (c = 1) else if i < j then r.testBit i else m.testBit (i - j - 1) := by
  rw [Nat.testBit_two_pow_mul_add _ hr]
  by_cases h1 : i < j
  · simp [h1, Nat.ne_of_lt h1]
  · by_cases h2 : i = j
    · subst h2
      have : c = 0 ∨ c = 1 := by omega
      rcases this with rfl | rfl <;> simp [Nat.testBit_zero] <;> omega
    · obtain ⟨t, rfl⟩ : ∃ t, i = j + (t + 1) := ⟨i - j - 1, by omega⟩
      have e1 : j + (t + 1) - j = t + 1 := by omega
      have e2 : j + (t + 1) - j - 1 = t := by omega
      rw [if_neg h1, if_neg h2, if_neg h1, e2, e1, Nat.testBit_succ]
      congr 1
      omega

theorem setF_nat (f j : Nat) (b : Bool) : setF (f : Int) ((2 ^ j : Nat) : Int) b = ((2 ^ j * (2 * (f / 2 ^ j / 2) + b.toNat) + f % 2 ^ j : Nat) : Int) := by
  have hd := Nat.div_add_mod f (2 ^ j)
  have hq : f / 2 ^ j = 2 * (f / 2 ^ j / 2) + f / 2 ^ j % 2 := by omega
  have hc : f / 2 ^ j % 2 = 0 ∨ f / 2 ^ j % 2 = 1 := by omega
  have e1 : ((f : Int) / ((2 ^ j : Nat) : Int) % 2) = ((f / 2 ^ j % 2 : Nat) : Int) := by
    rw [Int.natCast_emod, Int.natCast_ediv]; rfl
  unfold setF
  rw [e1]
  generalize hm : f / 2 ^ j / 2 = m at *
  generalize hr : f % 2 ^ j = r at *
  generalize hp : 2 ^ j = p at *
  generalize hqq : f / p = q at *
  rcases hc with hc | hc
  · rw [hc] at hq ⊢
    have e2 : q = 2 * m := by omega
    rw [if_neg (by decide)]
    have e3 : f = p * (2 * m) + r := by rw [← e2]; exact hd.symm
    cases b
    · simp only [flg, Bool.toNat_false]; rw [e3]; push_cast; simp
    · simp only [flg, Bool.toNat_true, if_true]; rw [e3, Nat.mul_add]; push_cast; simp; omega
  · rw [hc] at hq ⊢
    have e3 : f = p * (2 * m) + p + r := by rw [← hd, hq, Nat.mul_add]; omega
    rw [if_pos (by decide)]
    cases b
    · simp only [flg, Bool.toNat_false]; rw [e3]; push_cast; simp; omega
    · simp only [flg, Bool.toNat_true, if_true]; rw [e3, Nat.mul_add]; push_cast; simp

theorem tb_setF (f : Int) (f0 : 0 ≤ f) (j : Nat) (b : Bool) (i : Nat) : tb (setF f ((2 ^ j : Nat) : Int) b) i = if i = j then b else tb f i := by
  obtain ⟨n, rfl⟩ := Int.eq_ofNat_of_zero_le f0
  rw [setF_nat]
  unfold tb
  rw [Int.toNat_natCast, Int.toNat_natCast, lay_bit _ _ _ _ _ (Nat.mod_lt _ (Nat.two_pow_pos j)) (by cases b <;> decide)]
  by_cases h : i = j
  · simp only [h, if_true]; cases b <;> rfl
  · rw [if_neg h, if_neg h]
    have e : n = 2 ^ j * (2 * (n / 2 ^ j / 2) + n / 2 ^ j % 2) + n % 2 ^ j := by
      have hd := Nat.div_add_mod n (2 ^ j)
      have hq : 2 * (n / 2 ^ j / 2) + n / 2 ^ j % 2 = n / 2 ^ j := by omega
      rw [hq]; exact hd.symm
    have := lay_bit (n / 2 ^ j / 2) (n % 2 ^ j) j i (n / 2 ^ j % 2) (Nat.mod_lt _ (Nat.two_pow_pos j)) (Nat.mod_lt _ (by decide))
    rw [← e, if_neg h] at this
    exact this.symm

theorem setF_bd {f : Int} (f0 : 0 ≤ f) (f1 : f < 4294967296) (k : Int) (hk : k = 1 ∨ k = 4 ∨ k = 16 ∨ k = 64 ∨ k = 128 ∨ k = 2048) (b : Bool) : 0 ≤ setF f k b ∧ setF f k b < 4294967296 := by
  unfold setF flg
  rcases hk with rfl | rfl | rfl | rfl | rfl | rfl <;> cases b <;> simp <;> split <;> omega

theorem tb_div (x : Int) (x0 : 0 ≤ x) (j : Nat) : tb x j = decide (x / ((2 ^ j : Nat) : Int) % 2 = 1) := by
  obtain ⟨n, rfl⟩ := Int.eq_ofNat_of_zero_le x0
  unfold tb
  rw [Int.toNat_natCast, Nat.testBit_eq_decide_div_mod_eq]
  congr 1
  rw [← Int.natCast_ediv, show (2 : Int) = ((2 : Nat) : Int) from rfl, ← Int.natCast_emod]
  simp only [eq_iff_iff]
  omega

end Go.Proofs.YtmmnnafjikilpaaGreat

/- Plain facts on what the operations of layer 1 come to, result and flags: no Go text in sight; each under the bounds that it names. -/
namespace Go.Proofs.YtmmnnafjikilpaaGreat
open Go.RowKit
set_option linter.unusedVariables false

def okSize (s : Int) : Bool := s == 1 || s == 2 || s == 4

theorem Sz.ok {s H M sp bt : Int} (hS : Sz s H M sp bt) : okSize s = true := by
  rcases hS with ⟨rfl, rfl, rfl, rfl, rfl⟩ | ⟨rfl, rfl, rfl, rfl, rfl⟩ | ⟨rfl, rfl, rfl, rfl, rfl⟩ <;> rfl

theorem sz2 : Sz 2 32768 65536 16 16 := Or.inr (Or.inl ⟨rfl, rfl, rfl, rfl, rfl⟩)

theorem sz1 : Sz 1 128 256 24 8 := Or.inl ⟨rfl, rfl, rfl, rfl, rfl⟩

theorem sz4 : Sz 4 2147483648 4294967296 0 32 := Or.inr (Or.inr ⟨rfl, rfl, rfl, rfl, rfl⟩)
end Go.Proofs.YtmmnnafjikilpaaGreat

/- Small facts on worlds that have grown and on returned values. -/
namespace Go.Proofs.YtmmnnafjikilpaaGreat
open Go.ChangeShapes Go.WideShapes Go.ChangeAt Go.RowKit
set_option linter.unusedVariables false

theorem Grown.trans {a b c : World} (h : Grown a b) (k : Grown b c) : Grown a c :=
  ⟨World.keptBut_trans h.1 k.1, fun x => (k.2.1 x).trans (h.2.1 x), Nat.le_trans h.2.2 k.2.2⟩

theorem ret_int {k : IntKind} {a b : Int} (h : a = b) : Ending.returned (.int k a) = .returned (.int k b) := by rw [h]

theorem ret_bool {a b : Bool} (h : a = b) : Ending.returned (.bool a) = .returned (.bool b) := by rw [h]

theorem Grown.block {W w' : World} (h : Grown W w') {i : Nat} (hi : i < W.heap.size) : w'.heap[i]? = W.heap[i]? := by
  have k := h.1.2.2 i hi
  split at k
  · rename_i c t fr c' t' fr' e1 e2
    obtain ⟨rfl, rfl, hs, hj⟩ := k
    have : c' = c := Array.ext_getElem? fun j => hj j (fun f => f)
    rw [e1, e2, this]
  · rename_i e1 e2
    rcases k with f | ⟨rfl, rfl⟩
    · exact f.elim
    · rw [e1, e2]
  · exact k

theorem Grown.cell {W w' : World} (h : Grown W w') {p : Addr} (hp : p.block < W.heap.size) : w'.cell? p = W.cell? p := World.cell?_of_block (w := W) (Grown.block h hp)

end Go.Proofs.YtmmnnafjikilpaaGreat

/- Plain facts on turning and shifting numbers, bit by bit: no Go text in sight; each under the bounds that it names. -/
namespace Go.Proofs.YtmmnnafjikilpaaGreat
open Go.RowKit
set_option linter.unusedVariables false

def Sw (s H M : Int) (W : Nat) : Prop := (s = 1 ∧ H = 128 ∧ M = 256 ∧ W = 8) ∨ (s = 2 ∧ H = 32768 ∧ M = 65536 ∧ W = 16) ∨ (s = 4 ∧ H = 2147483648 ∧ M = 4294967296 ∧ W = 32)

theorem Sw.sz {s H M : Int} {W : Nat} (h : Sw s H M W) : ∃ sp, Sz s H M sp (W : Int) := by
  rcases h with ⟨rfl, rfl, rfl, rfl⟩ | ⟨rfl, rfl, rfl, rfl⟩ | ⟨rfl, rfl, rfl, rfl⟩
  · exact ⟨24, sz1⟩
  · exact ⟨16, sz2⟩
  · exact ⟨0, sz4⟩

theorem Sw.ok {s H M : Int} {W : Nat} (h : Sw s H M W) : okSize s = true := by
  obtain ⟨sp, hS⟩ := h.sz
  exact hS.ok

theorem pw_pos (k : Nat) : 0 < ((2 ^ k : Nat) : Int) := by have := Nat.two_pow_pos k; omega

theorem tb_cast (n : Nat) (i : Nat) : tb (n : Int) i = n.testBit i := by unfold tb; rw [Int.toNat_natCast]

theorem tb_shr {x : Int} (x0 : 0 ≤ x) (k i : Nat) : tb (x / ((2 ^ k : Nat) : Int)) i = tb x (k + i) := by
  obtain ⟨n, rfl⟩ := Int.eq_ofNat_of_zero_le x0
  rw [show ((n : Int) / ((2 ^ k : Nat) : Int)) = ((n / 2 ^ k : Nat) : Int) from (Int.natCast_ediv n (2 ^ k)).symm, tb_cast, tb_cast, Nat.testBit_div_two_pow, Nat.add_comm]

theorem tb_shl {x : Int} (x0 : 0 ≤ x) (k i : Nat) : tb (x * ((2 ^ k : Nat) : Int)) i = (decide (k ≤ i) && tb x (i - k)) := by
  obtain ⟨n, rfl⟩ := Int.eq_ofNat_of_zero_le x0
  rw [show ((n : Int) * ((2 ^ k : Nat) : Int)) = ((n * 2 ^ k : Nat) : Int) from (Int.natCast_mul n (2 ^ k)).symm, tb_cast, tb_cast, Nat.testBit_mul_two_pow]

theorem flg_tb {x : Int} (x0 : 0 ≤ x) (j : Nat) : x / ((2 ^ j : Nat) : Int) % 2 = flg (tb x j) 1 := by
  rw [tb_div x x0 j]
  unfold flg
  by_cases h : x / ((2 ^ j : Nat) : Int) % 2 = 1
  · rw [h]; rfl
  · rw [decide_eq_false h, if_neg (by decide)]; omega

end Go.Proofs.YtmmnnafjikilpaaGreat

/- Memory: a plain model of it, and what it means that a world holds that model from a block on. -/
namespace Go.Proofs.YtmmnnafjikilpaaGreat
open Go.ChangeShapes Go.WideShapes Go.ChangeAt Go.RowKit Go.Maps
set_option linter.unusedVariables false

/-- Outside the blocks of S the world is as it was. -/
structure Kp (S : Nat → Prop) (w w' : World) : Prop where
  os : w'.os = w.os
  tape : w'.tape = w.tape
  output : w'.output = w.output
  size : w.heap.size ≤ w'.heap.size
  block : ∀ k, k < w.heap.size → ¬ S k → w'.heap[k]? = w.heap[k]?

theorem Kp.refl (S : Nat → Prop) (w : World) : Kp S w w := ⟨rfl, rfl, rfl, Nat.le_refl _, fun _ _ _ => rfl⟩

theorem Kp.trans {S : Nat → Prop} {a b c : World} (h : Kp S a b) (k : Kp S b c) : Kp S a c :=
  ⟨k.os.trans h.os, k.tape.trans h.tape, k.output.trans h.output, Nat.le_trans h.size k.size, fun i hi hs => (k.block i (Nat.lt_of_lt_of_le hi h.size) hs).trans (h.block i hi hs)⟩

theorem Kp.mono {S T : Nat → Prop} {a b : World} (h : Kp S a b) (hST : ∀ k, k < a.heap.size → S k → T k) : Kp T a b :=
  ⟨h.os, h.tape, h.output, h.size, fun i hi hs => h.block i hi (fun g => hs (hST i hi g))⟩

theorem Kp.alloc (S : Nat → Prop) (w : World) (o : Obj) : Kp S w (w.alloc o) :=
  ⟨rfl, rfl, rfl, by simp, fun k hk _ => Below.heap_alloc _ _ _ hk⟩

theorem Kp.setCell {S : Nat → Prop} (w : World) {p : Addr} (hp : S p.block) (u : Value) : Kp S w (w.setCell p u) :=
  ⟨rfl, rfl, rfl, by simp [World.setCell], fun k hk hs => Below.heap_setCell _ _ _ _ (fun e => hs (e ▸ hp))⟩

theorem Kp.setRow {S : Nat → Prop} (w : World) {g : Nat} (hp : S g) (cs : Array Value) : Kp S w (w.setRow g cs) :=
  ⟨rfl, rfl, rfl, by simp [World.setRow], fun k hk hs => setRow_other w g k cs (fun e => hs (e ▸ hp))⟩

theorem Kp.turned {S : Nat → Prop} {w w' : World} {b : Nat} (h : w.mapTurned w' b) (hb : S b) : Kp S w w' := by
  have g := h.grown
  exact ⟨g.os, g.tape, g.output, g.size, fun k hk hs => g.block k hk (fun e => hs (by cases e; exact hb))⟩

theorem Kp.grownBy {S : Nat → Prop} {w w' : World} {r : Option Nat} (g : w.grownBy w' r) (hb : ∀ b, r = some b → S b) : Kp S w w' :=
  ⟨g.os, g.tape, g.output, g.size, fun k hk hs => g.block k hk (fun e => hs (hb k e.symm))⟩

theorem Kp.below {S : Nat → Prop} {w w' : World} {B : Nat} (h : Kp S w w') (hB : B ≤ w.heap.size) (hS : ∀ k, S k → B ≤ k) : Below B w w' :=
  ⟨h.os, h.tape, h.output, h.size, fun k hk => h.block k (by omega) (fun g => by have := hS k g; omega)⟩

theorem Kp.ofBelow {S : Nat → Prop} {w w' : World} {B : Nat} (h : Below B w w') (hS : ∀ k, k < w.heap.size → B ≤ k → S k) : Kp S w w' :=
  ⟨h.os, h.tape, h.output, h.size, fun k hk hs => h.block k (by rcases Nat.lt_or_ge k B with g | g; exact g; exact (hs (hS k hk g)).elim)⟩

theorem Kp.drew {S : Nat → Prop} {w w' : World} (h : Kp S w w') : Kp S w w'.drew := ⟨h.os, h.tape, h.output, h.size, h.block⟩
theorem Kp.drewN {S : Nat → Prop} {w w' : World} (h : Kp S w w') (n : Nat) : Kp S w (w'.drewN n) := ⟨h.os, h.tape, h.output, h.size, h.block⟩

/-! ### the plain model -/
structure Mem where
  n : Nat
  byte : Nat → Int
  only : Nat → Bool
  wt : Int → Bool
  nt : Int → Bool
  closed : Bool

def Mem.place (M : Mem) (a : Int) : Int := if M.closed = true ∧ a / 1048576 % 2 = 1 then a - 1048576 else a

/-- How a pointer to a page reads in the map of pages: its block's number; nil reads as -1. -/
def ptrElem : Value → Option (DataW Unit × List MemPlace)
  | .pointer none => some (.lit (.int .i64 (-1)), [])
  | .pointer (some ⟨b, 0, none⟩) => some (.lit (.int .i64 b), [])
  | _ => none

theorem ptrElem_nil : ptrElem (.pointer none) = some (.lit (.int .i64 (-1)), []) := rfl
theorem ptrElem_some (b : Nat) : ptrElem (.pointer (some ⟨b, 0, none⟩)) = some (.lit (.int .i64 b), []) := rfl

theorem ptrElem_inv {v : Value} {c : Int} {ps : List MemPlace} (h : ptrElem v = some (.lit (.int .i64 c), ps)) : (v = .pointer none ∧ c = -1) ∨ ∃ b : Nat, v = .pointer (some ⟨b, 0, none⟩) ∧ c = b := by
  unfold ptrElem at h
  split at h
  · left; simp at h; exact ⟨rfl, h.1.symm⟩
  · right; rename_i b; simp at h; exact ⟨b, rfl, h.1.symm⟩
  · cases h

def noPage : DataW Unit := .lit (.int .i64 (-1))
def pageAt (B n : Nat) (i : Int) : Int := if 0 ≤ i ∧ i < n then (B : Int) + 4 + i else -1

structure RamAt (w : World) (B : Nat) (M : Mem) : Prop where
  le : M.n ≤ 256
  r : w.heap[B + 3]? = some (.cells #[.map (some B), .bool M.closed, .map (some (B + 1)), .map (some (B + 2))] 99 (0, 0))
  p : ∃ D, w.ownsMap Tryz.prog 3 ptrElem B 256 D ∧ (∀ i : Int, D.atKey (.int .i64 i) noPage = .lit (.int .i64 (pageAt B M.n i))) ∧ (∀ i : Int, Maps.has D (.int .i64 i) = decide (0 ≤ i ∧ i < M.n)) ∧ Maps.size D = M.n
  pg : ∀ i, i < M.n → ∃ cs, w.heap[B + 4 + i]? = some (.cells cs 103 (0, 0)) ∧ cs.size = 4097 ∧ (∀ j, j < 4096 → cs[j]? = some (.int .u8 (M.byte (4096 * i + j)))) ∧ cs[4096]? = some (.bool (M.only i))
  wm : ∃ D : DataW Unit, w.ownsMap Tryz.prog 24 unitElem (B + 1) 16384 D ∧ ∀ x : Int, Maps.has D (.int .u32 x) = M.wt x
  nm : ∃ D : DataW Unit, w.ownsMap Tryz.prog 24 unitElem (B + 2) 16384 D ∧ ∀ x : Int, Maps.has D (.int .u32 x) = M.nt x
  wb : ∀ x, M.wt x = true → 0 ≤ x ∧ x < 4096 * M.n ∧ x % 64 = 0
  nb : ∀ x, M.nt x = true → 0 ≤ x ∧ x < 4096 * M.n ∧ x % 64 = 0
  bb : ∀ p, p < 4096 * M.n → 0 ≤ M.byte p ∧ M.byte p < 256

def inRam (B n k : Nat) : Prop := B ≤ k ∧ k < B + 4 + n

theorem RamAt.lt {w : World} {B : Nat} {M : Mem} (h : RamAt w B M) : B + 4 + M.n ≤ w.heap.size := by
  have h3 := (Array.getElem?_eq_some_iff.1 h.r).1
  rcases Nat.eq_zero_or_pos M.n with e | e
  · omega
  · obtain ⟨cs, hc, _⟩ := h.pg (M.n - 1) (by omega)
    have := (Array.getElem?_eq_some_iff.1 hc).1
    omega

theorem owns_at {H : Type} {P : Program} {k : TypeId} {R : Value → Option (DataW H × List MemPlace)} {w w' : World} {b n : Nat} {D : DataW H} (h : w.ownsMap P k R b n D) (e : w'.heap[b]? = w.heap[b]?) : w'.ownsMap P k R b n D := by
  obtain ⟨es, clock, hb, r⟩ := h
  exact ⟨es, clock, e.trans hb, r⟩

/-- What does not touch memory's own blocks leaves it as it is. -/
theorem RamAt.kept {w w' : World} {B : Nat} {M : Mem} (h : RamAt w B M) (e : ∀ k, inRam B M.n k → w'.heap[k]? = w.heap[k]?) : RamAt w' B M where
  le := h.le
  r := (e _ ⟨by omega, by omega⟩).trans h.r
  p := by obtain ⟨D, h1, h2⟩ := h.p; exact ⟨D, owns_at h1 (e _ ⟨by omega, by omega⟩), h2⟩
  pg := fun i hi => by obtain ⟨cs, h1, h2⟩ := h.pg i hi; exact ⟨cs, (e _ ⟨by omega, by omega⟩).trans h1, h2⟩
  wm := by obtain ⟨D, h1, h2⟩ := h.wm; exact ⟨D, owns_at h1 (e _ ⟨by omega, by omega⟩), h2⟩
  nm := by obtain ⟨D, h1, h2⟩ := h.nm; exact ⟨D, owns_at h1 (e _ ⟨by omega, by omega⟩), h2⟩
  wb := h.wb
  nb := h.nb
  bb := h.bb

theorem RamAt.kp {S : Nat → Prop} {w w' : World} {B : Nat} {M : Mem} (h : RamAt w B M) (k : Kp S w w') (hS : ∀ k, inRam B M.n k → ¬ S k) : RamAt w' B M :=
  h.kept fun i hi => k.block i (by have := h.lt; have := hi.2; omega) (hS i hi)

theorem RamAt.grown {w w' : World} {B : Nat} {M : Mem} (h : RamAt w B M) (g : Grown w w') : RamAt w' B M :=
  h.kept fun i hi => Grown.block g (by have := h.lt; have := hi.2; omega)

theorem RamAt.alloc {w : World} {B : Nat} {M : Mem} (h : RamAt w B M) (o : Obj) : RamAt (w.alloc o) B M :=
  h.kp (Kp.alloc (fun _ => False) w o) (fun _ _ f => f)

/-- The cells of the struct. -/
theorem RamAt.c0 {w : World} {B : Nat} {M : Mem} (h : RamAt w B M) : w.cell? ⟨B + 3, 0, none⟩ = some (.map (some B)) := by simp [World.cell?, h.r]
theorem RamAt.c1 {w : World} {B : Nat} {M : Mem} (h : RamAt w B M) : w.cell? ⟨B + 3, 1, none⟩ = some (.bool M.closed) := by simp [World.cell?, h.r]
theorem RamAt.c2 {w : World} {B : Nat} {M : Mem} (h : RamAt w B M) : w.cell? ⟨B + 3, 2, none⟩ = some (.map (some (B + 1))) := by simp [World.cell?, h.r]
theorem RamAt.c3 {w : World} {B : Nat} {M : Mem} (h : RamAt w B M) : w.cell? ⟨B + 3, 3, none⟩ = some (.map (some (B + 2))) := by simp [World.cell?, h.r]
/-! ### keys, and how many there are -/
theorem u32T : Tryz.prog.underlying 24 = some (.int .u32) := by kernel_rfl
theorem intT : Tryz.prog.underlying 3 = some (.int .i64) := by kernel_rfl
theorem setT : Tryz.prog.underlying 97 = some (.map 24 156) := by kernel_rfl
theorem pagesT : Tryz.prog.underlying 96 = some (.map 3 100) := by kernel_rfl
theorem zeroUnit (w : World) : (zeroValue 156).run Tryz.prog w = .ok (.agg #[]) w := by kernel_rfl
theorem zeroPtr (w : World) : (zeroValue 100).run Tryz.prog w = .ok (.pointer none) w := by kernel_rfl

theorem keyU {x : Int} (h0 : 0 ≤ x) (h1 : x < 4294967296) : keyOf Tryz.prog 24 (.int .u32 x) = some (.int .u32 x) :=
  keyOf_int_mk u32T (WalkArith.wf_u32 ⟨h0, by omega⟩)
theorem keyI {x : Int} (h0 : -9223372036854775808 ≤ x) (h1 : x ≤ 9223372036854775807) : keyOf Tryz.prog 3 (.int .i64 x) = some (.int .i64 x) :=
  keyOf_int_mk intT (WalkArith.wf_i64 ⟨h0, h1⟩)

theorem nodup_range_le : ∀ (n : Nat) (l : List Nat), l.Nodup → (∀ x ∈ l, x < n) → l.length ≤ n
  | 0, [], _, _ => Nat.le_refl _
  | 0, x :: _, _, h => absurd (h x (by simp)) (Nat.not_lt_zero _)
  | n + 1, l, hn, h => by
    have e : (l.filter (· ≠ n)).length ≤ n := nodup_range_le n _ (hn.filter _) (fun x hx => by
      rw [List.mem_filter] at hx
      have := h x hx.1
      have h2 : x ≠ n := by simpa using hx.2
      omega)
    have c : l.length ≤ (l.filter (· ≠ n)).length + 1 := by
      have hc : (l.filter (· ≠ n)).length + (l.filter (fun x => !decide (x ≠ n))).length = l.length := by
        clear e hn h
        induction l with
        | nil => rfl
        | cons a r ih => by_cases ha : a = n <;> simp_all <;> omega
      have hd : (l.filter (fun x => !decide (x ≠ n))).length ≤ 1 := by
        have hq : (l.filter (fun x => !decide (x ≠ n))).Nodup := hn.filter _
        have hall : ∀ x ∈ l.filter (fun x => !decide (x ≠ n)), x = n := fun x hx => by
          rw [List.mem_filter] at hx; simpa using hx.2
        match hl : l.filter (fun x => !decide (x ≠ n)), hq, hall with
        | [], _, _ => simp
        | [a], _, _ => simp
        | a :: b :: r, hq, hall =>
          have ea := hall a (by simp)
          have eb := hall b (by simp)
          rw [ea, eb] at hq
          simp at hq
      omega
    omega

/-- A set of granules is no greater than how many granules there are. -/
theorem set_size {w : World} {b n : Nat} {D : DataW Unit} (h : w.ownsMap Tryz.prog 24 unitElem b n D) (f : Int → Bool) (hf : ∀ x : Int, Maps.has D (.int .u32 x) = f x) (hb : ∀ x, f x = true → 0 ≤ x ∧ x < 1048576 ∧ x % 64 = 0) : Maps.size D ≤ 16384 := by
  obtain ⟨es, hD, hp, hk⟩ := h.entries (int_keyed u32T)
  obtain ⟨es', clock, _, F, _, hD'⟩ := h
  have ks : ∀ p ∈ es, ∃ x : Int, p.1 = .int .u32 x ∧ f x = true := by
    intro p hpm
    have hm : p ∈ (es'.toList.map (Go.WideElems.rg Tryz.prog 24 unitElem)) := by
      rw [hD] at hD'
      have e := DataW.map.inj hD'
      rw [e] at hpm
      exact mem_sorted.1 hpm
    obtain ⟨v, hv⟩ := fit_keys F p hm
    have hx : ∃ x : Int, p.1 = .int .u32 x := by
      cases v <;> simp [keyOf, mapKey] at hv
      exact ⟨_, hv.2.symm⟩
    obtain ⟨x, hx⟩ := hx
    refine ⟨x, hx, ?_⟩
    rw [← hf x, hD, Maps.has_eq, List.any_eq_true]
    exact ⟨p, hpm, by rw [hx]; simp [Lit.sameKey]⟩
  have q : (es.map fun p => match p.1 with | .int _ x => x.toNat / 64 | _ => 0).length ≤ 16384 := by
    refine nodup_range_le 16384 _ ?_ ?_
    · refine List.pairwise_map.2 (hp.imp_of_mem fun {p q} hp' hq' hne e => hne ?_)
      obtain ⟨a, ha, fa⟩ := ks p hp'
      obtain ⟨c, hc, fc⟩ := ks q hq'
      rw [ha, hc] at e ⊢
      simp only at e
      have := hb a fa
      have := hb c fc
      have : a = c := by omega
      rw [this]
    · intro y hy
      obtain ⟨p, hp', rfl⟩ := List.mem_map.1 hy
      obtain ⟨a, ha, fa⟩ := ks p hp'
      have := hb a fa
      rw [ha]
      simp only
      omega
  rw [hD, Maps.size_eq]
  simpa using q

theorem owns_tight {H : Type} {P : Program} {k : TypeId} {R : Value → Option (DataW H × List MemPlace)} {w : World} {b n m : Nat} {D : DataW H} (h : w.ownsMap P k R b n D) (hm : Maps.size D ≤ m) : w.ownsMap P k R b m D := by
  obtain ⟨es, clock, hb, F, hs, hD⟩ := h
  refine ⟨es, clock, hb, F, ?_, hD⟩
  rw [hD] at hm
  simpa [Maps.size, length_sorted] using hm

end Go.Proofs.YtmmnnafjikilpaaGreat

/- Contracts of ram's small functions. -/
namespace Go.Proofs.YtmmnnafjikilpaaGreat
open Go.ChangeShapes Go.WideShapes Go.ChangeAt Go.RowKit Go.Maps
set_option linter.unusedVariables false

theorem granuleOf_any (w : World) (x : Int) (h0 : 0 ≤ x) (h1 : x < 4294967296) :
    Calls Tryz.prog 86 #[.int .u32 x] w fun e w' => e = .returned (.int .u32 (x - x % 64)) ∧ w' = w := by
  go_enter Tryz.func86, Tryz.ntmps86
  go_wp2
  go_ret
  refine ⟨ret_int ?_, rfl⟩
  omega

theorem isSize_any (w : World) (x : Int) (h0 : -9223372036854775808 ≤ x) (h1 : x ≤ 9223372036854775807) :
    Calls Tryz.prog 40 #[.int .i64 x] w fun e w' => e = .returned (.bool (decide (x = 1 ∨ x = 2 ∨ x = 4))) ∧ w' = w := by
  go_enter Tryz.func40, Tryz.ntmps40
  go_wp2 <;> go_ret <;> refine ⟨ret_bool ?_, rfl⟩ <;> first | (subst_vars; rfl) | (by_cases h4 : x = 4 <;> simp_all)

theorem lengthInPage_any (w : World) (x n : Int) (h0 : 0 ≤ x) (h1 : x < 4294967296) (n0 : 0 ≤ n) (n1 : n < 9223372036854775808) :
    Calls Tryz.prog 71 #[.int .u32 x, .int .i64 n] w fun e w' => e = .returned (.int .i64 (min n (4096 - x % 4096))) ∧ w' = w := by
  go_enter Tryz.func71, Tryz.ntmps71
  go_wp2 <;> go_ret <;> refine ⟨ret_int ?_, rfl⟩ <;> omega

theorem tbp20 (i : Nat) : tb 1048576 i = decide (i = 20) := by
  unfold tb
  show (1048576 : Nat).testBit i = _
  rw [show (1048576 : Nat) = 2 ^ 20 by decide, Nat.testBit_two_pow]
  by_cases h : i = 20
  · simp [h]
  · have : ¬ 20 = i := fun e => h e.symm
    simp [h, this]

theorem not20 {f : Int} (f0 : 0 ≤ f) (f1 : f < 4294967296) : bits .andNot .u32 f 1048576 = if f / 1048576 % 2 = 1 then f - 1048576 else f := by
  have a1 := andNot_bd f0 f1 (b := 1048576) (by decide) (by decide)
  have e : (if f / 1048576 % 2 = 1 then f - 1048576 else f) = setF f 1048576 false := by unfold setF flg; simp
  rw [e]
  refine tb_ext a1.1 (by unfold setF flg; simp; split <;> omega) fun i => ?_
  have k := tb_setF f f0 20 false i
  rw [show ((2 ^ 20 : Nat) : Int) = 1048576 by decide] at k
  rw [tb_andNot f0 f1 (by decide) (by decide), tbp20, k]
  by_cases h : i = 20
  · simp [h]
  · simp [h]

theorem place_any (w : World) (B : Nat) (M : Mem) (h : RamAt w B M) (x : Int) (h0 : 0 ≤ x) (h1 : x < 4294967296) :
    Calls Tryz.prog 70 #[.pointer (some ⟨B + 3, 0, none⟩), .int .u32 x] w fun e w' => e = .returned (.int .u32 (M.place x)) ∧ w' = w := by
  have c1 := h.c1
  go_enter Tryz.func70, Tryz.ntmps70
  go_wp2
  all_goals go_ret
  all_goals refine ⟨ret_int ?_, rfl⟩
  · rename_i hc
    rw [not20 h0 h1]; unfold Mem.place; simp [hc]
  · rename_i hc
    unfold Mem.place; simp [hc]

theorem Mem.place_bd (M : Mem) {x : Int} (h0 : 0 ≤ x) (h1 : x < 4294967296) : 0 ≤ M.place x ∧ M.place x < 4294967296 := by
  unfold Mem.place; split <;> omega

/-- A look-up in the map of pages. -/
theorem wpList_page {P : Program} (w : World) {ops : Array Oper} {rest : List Oper} {o : Oper} {a : Act} {Q : Exit → Act → World → Prop}
    (hg : o.guard = none) (m x : Operand) (t : TypeId) (hop : o.op = Op.lookup t m x false)
    (k e : TypeId) (K : Keyed P k) (ht : P.underlying t = some (.map k e)) (hz : (zeroValue e).run P w = .ok (.pointer none) w) (b n : Nat) (D : DataW Unit)
    (hm : a.eval m = .map (some b)) (hown : w.ownsMap P k ptrElem b n D) (key : Value) (kl : Lit) (hx : a.eval x = key) (hkey : keyOf P k key = some kl)
    (c : Int) (hc : D.atKey kl noPage = .lit (.int .i64 c))
    (hK : wpList P ops Q rest (a.put o.dst (.pointer (if 0 ≤ c then some ⟨c.toNat, 0, none⟩ else none))) w) :
    wpList P ops Q (o :: rest) a w := by
  refine wpList_plain hg fun K' hK' => ?_
  obtain ⟨v, ps, hrun, hv⟩ := hown.lookup K ht hz ptrElem_nil hkey
  have hc' := hc
  unfold noPage at hc'
  rw [hc'] at hv
  have e1 : v = .pointer (if 0 ≤ c then some ⟨c.toNat, 0, none⟩ else none) := by
    rcases ptrElem_inv hv with ⟨rfl, rfl⟩ | ⟨b', rfl, rfl⟩
    · simp
    · simp
  rw [e1] at hrun
  unfold Oper.wp
  simp [execOp, hop, hm, hx, hrun, Result.andThen]
  exact hK' _ _ (by simpa using hK)

theorem pageOf_some (w : World) (B : Nat) (M : Mem) (h : RamAt w B M) (x : Int) (h0 : 0 ≤ x) (h1 : x < 4294967296) (hx : x < 4096 * M.n) :
    Calls Tryz.prog 72 #[.pointer (some ⟨B + 3, 0, none⟩), .int .u32 x] w fun e w' => e = .returned (.pointer (some ⟨B + 4 + (x / 4096).toNat, 0, none⟩)) ∧ w' = w := by
  have c0 := h.c0
  obtain ⟨D, hown, hat, _, _⟩ := h.p
  have hp : pageAt B M.n (x / 4096) = (B : Int) + 4 + x / 4096 := by unfold pageAt; rw [if_pos (by omega)]
  go_enter Tryz.func72, Tryz.ntmps72
  go_wp2_with (first
    | (at_lookup; refine wpList_page _ rfl _ _ 96 rfl 3 100 (int_keyed intT) pagesT (zeroPtr _) B 256 D rfl hown _ _ rfl (keyI (x := x / 4096) (by omega) (by omega)) _ (hat _) ?_; rw [hp, if_pos (by omega)])
    | go_in)
  go_ret
  refine ⟨?_, rfl⟩
  have : ((B : Int) + 4 + x / 4096).toNat = B + 4 + (x / 4096).toNat := by omega
  rw [this]
  rfl

theorem pageOf_none (w : World) (B : Nat) (M : Mem) (h : RamAt w B M) (x : Int) (h0 : 0 ≤ x) (h1 : x < 4294967296) (hx : 4096 * M.n ≤ x) :
    Calls Tryz.prog 72 #[.pointer (some ⟨B + 3, 0, none⟩), .int .u32 x] w fun e w' => e = .returned (.pointer none) ∧ w' = w := by
  have c0 := h.c0
  obtain ⟨D, hown, hat, _, _⟩ := h.p
  have hp : pageAt B M.n (x / 4096) = -1 := by unfold pageAt; rw [if_neg (by omega)]
  go_enter Tryz.func72, Tryz.ntmps72
  go_wp2_with (first
    | (at_lookup; refine wpList_page _ rfl _ _ 96 rfl 3 100 (int_keyed intT) pagesT (zeroPtr _) B 256 D rfl hown _ _ rfl (keyI (x := x / 4096) (by omega) (by omega)) _ (hat _) ?_; rw [hp, if_neg (by omega)])
    | go_in)
  go_ret
  exact ⟨rfl, rfl⟩
end Go.Proofs.YtmmnnafjikilpaaGreat

/- The contract of New: so many pages of noughts. -/
namespace Go.Proofs.YtmmnnafjikilpaaGreat
open Go.ChangeShapes Go.WideShapes Go.ChangeAt Go.RowKit Go.Maps
set_option linter.unusedVariables false

def pageL : List Value := List.replicate 4096 (.int .u8 0) ++ [.bool false]
def pageZ : Array Value := pageL.toArray

theorem zeroPage (w : World) : (zeroValue 103).run Tryz.prog w = .ok (.agg pageZ) w := by kernel_rfl

def mem0 (n : Nat) : Mem := { n := n, byte := fun _ => 0, only := fun _ => false, wt := fun _ => false, nt := fun _ => false, closed := false }

theorem pageL_len : pageL.length = 4097 := by unfold pageL; rw [List.length_append, List.length_replicate]; rfl
theorem pageZ_size : pageZ.size = 4097 := pageL_len
theorem pageZ_byte (j : Nat) (h : j < 4096) : pageZ[j]? = some (.int .u8 0) := by
  unfold pageZ
  rw [List.getElem?_toArray]
  unfold pageL
  rw [List.getElem?_append_left (by rw [List.length_replicate]; exact h), List.getElem?_replicate, if_pos h]
theorem pageZ_only : pageZ[4096]? = some (.bool false) := by
  unfold pageZ
  rw [List.getElem?_toArray]
  unfold pageL
  rw [List.getElem?_append_right (by rw [List.length_replicate]; exact Nat.le_refl _), List.length_replicate]
  rfl

theorem ram_start (w : World) : RamAt ((((w.alloc (.map #[] 0)).alloc (.map #[] 0)).alloc (.map #[] 0)).alloc (.cells #[.map (some w.heap.size), .bool false, .map (some (w.heap.size + 1)), .map (some (w.heap.size + 2))] 99)) w.heap.size (mem0 0) where
  le := Nat.zero_le _
  r := by
    have h := (MapKept.heap_alloc (((w.alloc (.map #[] 0)).alloc (.map #[] 0)).alloc (.map #[] 0)) (.cells #[.map (some w.heap.size), .bool false, .map (some (w.heap.size + 1)), .map (some (w.heap.size + 2))] 99)).1
    simpa [mem0] using h
  p := by
    refine ⟨.map [], ?_, ?_, fun i => (decide_eq_false (by simp only [mem0]; omega)).symm, rfl⟩
    · exact ((((World.ownsMap_made w Tryz.prog 3 ptrElem).mono (Nat.zero_le _)).alloc _).alloc _).alloc _
    · intro i; simp [pageAt, mem0, noPage, DataW.atKey]; omega
  pg := fun i hi => absurd hi (Nat.not_lt_zero _)
  wm := by
    have h := (World.ownsMap_made (H := Unit) (w.alloc (.map #[] 0)) Tryz.prog 24 unitElem).mono (Nat.zero_le 16384)
    refine ⟨.map [], ?_, fun _ => rfl⟩
    have := (h.alloc (.map #[] 0)).alloc (.cells #[.map (some w.heap.size), .bool false, .map (some (w.heap.size + 1)), .map (some (w.heap.size + 2))] 99)
    simpa using this
  nm := by
    have h := (World.ownsMap_made (H := Unit) ((w.alloc (.map #[] 0)).alloc (.map #[] 0)) Tryz.prog 24 unitElem).mono (Nat.zero_le 16384)
    refine ⟨.map [], ?_, fun _ => rfl⟩
    have := h.alloc (.cells #[.map (some w.heap.size), .bool false, .map (some (w.heap.size + 1)), .map (some (w.heap.size + 2))] 99)
    simpa using this
  wb := fun x h => by cases h
  nb := fun x h => by cases h
  bb := fun p h => by simp [mem0]

/-- One page more. -/
theorem ram_page {wr w1 : World} {B k : Nat} {D : DataW Unit} (h : RamAt wr B (mem0 k)) (hs : wr.heap.size = B + 4 + k) (hk : k < 256)
    (hhas : ∀ i : Int, Maps.has D (.int .i64 i) = decide (0 ≤ i ∧ i < (mem0 k).n)) (hat : ∀ i : Int, D.atKey (.int .i64 i) noPage = .lit (.int .i64 (pageAt B (mem0 k).n i))) (hsz : Maps.size D = (mem0 k).n) (hown : wr.ownsMap Tryz.prog 3 ptrElem B 256 D)
    (hown1 : w1.ownsMap Tryz.prog 3 ptrElem B (256 + 1) (D.put (.int .i64 k) (.lit (.int .i64 (B + 4 + k : Nat))))) (hturn : (wr.alloc (.cells pageZ 103)).mapTurned w1 B) :
    RamAt w1 B (mem0 (k + 1)) ∧ w1.heap.size = B + 4 + (k + 1) ∧ Below B wr w1 := by
  have hK : Kp (fun j => j = B) wr w1 := (Kp.alloc _ wr _).trans (Kp.turned hturn rfl)
  have hg := hturn.grown
  have hnew : w1.heap[B + 4 + k]? = some (.cells pageZ 103 (0, 0)) := by
    rw [hg.block _ (by simp; omega) (by simp; omega), ← hs]
    exact (MapKept.heap_alloc wr _).1
  have hsize : w1.heap.size = B + 4 + (k + 1) := by
    obtain ⟨es, clock, es', clock', hb, rfl⟩ := hturn
    simp [ChangeMaps.setBlock, hs]; omega
  have hold : ∀ j, inRam B k j → j ≠ B → w1.heap[j]? = wr.heap[j]? := fun j hj hne => hK.block j (by have := hj.2; omega) hne
  have hnot : Maps.has D (.int .i64 k) = false := by rw [hhas]; simp [mem0]
  have hsz1 : Maps.size (D.put (.int .i64 k) (.lit (.int .i64 (B + 4 + k : Nat)))) = k + 1 := by
    rw [Maps.size_put (hown.tidy (int_keyed intT)), hnot, if_neg (by simp), hsz]; rfl
  refine ⟨?_, hsize, hK.below (by omega) (fun j e => by omega)⟩
  exact {
    le := by simp [mem0]; omega
    r := (hold _ ⟨by omega, by omega⟩ (by omega)).trans h.r
    p := by
      refine ⟨_, owns_tight hown1 (by rw [hsz1]; omega), ?_, ?_, hsz1⟩
      · intro i
        by_cases hi : i = k
        · subst hi
          rw [Maps.atKey_put_same hown.isMap (by simp [WideAt.IsKeyLit])]
          unfold pageAt mem0; rw [if_pos (by simp only; omega)]; simp
        · rw [Maps.atKey_put_other (by simpa using hi), hat i]
          have e : pageAt B (mem0 k).n i = pageAt B (mem0 (k + 1)).n i := by
            unfold pageAt mem0
            simp only
            by_cases g : 0 ≤ i ∧ i < (k : Int)
            · rw [if_pos g, if_pos (by omega)]
            · rw [if_neg g, if_neg (by omega)]
          rw [e]
      · intro i
        by_cases hi : i = k
        · subst hi
          rw [Maps.has_put_same hown.isMap (by simp [WideAt.IsKeyLit])]
          simp [mem0]; omega
        · rw [Maps.has_put_other (by simpa using hi), hhas i]
          refine decide_eq_decide.2 ?_
          show (0 ≤ i ∧ i < (k : Int)) ↔ (0 ≤ i ∧ i < ((k + 1 : Nat) : Int))
          omega
    pg := fun i hi => by
      have hi' : i < k + 1 := hi
      by_cases e : i = k
      · subst e
        exact ⟨pageZ, hnew, pageZ_size, fun j hj => pageZ_byte j hj, pageZ_only⟩
      · obtain ⟨cs, h1, h2⟩ := h.pg i (by show i < k; omega)
        exact ⟨cs, (hold _ ⟨by omega, by omega⟩ (by omega)).trans h1, h2⟩
    wm := by obtain ⟨D', h1, h2⟩ := h.wm; exact ⟨D', owns_at h1 (hold _ ⟨by omega, by omega⟩ (by omega)), h2⟩
    nm := by obtain ⟨D', h1, h2⟩ := h.nm; exact ⟨D', owns_at h1 (hold _ ⟨by omega, by omega⟩ (by omega)), h2⟩
    wb := fun x h => by cases h
    nb := fun x h => by cases h
    bb := fun p h => by simp [mem0] }

set_option maxRecDepth 100000 in
theorem new_ok (w : World) (n : Nat) (h0 : 1 ≤ n) (h1 : n ≤ 256) :
    Calls Tryz.prog 13 #[.int .i64 n] w fun e w' => e = .returned (.tuple #[.pointer (some ⟨w.heap.size + 3, 0, none⟩), .int .i64 0]) ∧ RamAt w' w.heap.size (mem0 n) ∧ w'.heap.size = w.heap.size + 4 + n ∧ Below w.heap.size w w' := by
  have hmm := @run_makeMap Tryz.prog
  have hs := ram_start w
  have hz := zeroPage
  have hze : pageZ ≠ #[] := fun e => by have := pageZ_size; rw [e] at this; cases this
  have hzs := pageZ_size
  have g1 : ¬ (n : Int) < 1 := by omega
  have g2 : ¬ (256 : Int) < (n : Int) := by omega
  go_enter Tryz.func13, Tryz.ntmps13
  go_wp2
  go_loopw [18] (fun i wr => ∃ k : Nat, k ≤ n ∧ i = .int .i64 k ∧ RamAt wr w.heap.size (mem0 k) ∧ wr.heap.size = w.heap.size + 4 + k ∧ Below w.heap.size w wr) (fun i _ => n - (intOf i).toNat)
  case atStart => exact ⟨0, Nat.zero_le _, rfl, hs, by simp, (((((Below.refl _ w).alloc (Nat.le_refl _) _).alloc (by simp) _).alloc (by simp; omega) _).alloc (by simp; omega) _)⟩
  case round =>
    obtain ⟨k, hk, rfl, hr, hsz, hb⟩ := hrel
    have c0 : wr.cell? ⟨w.heap.size + 1 + 1 + 1, 0, none⟩ = some (.map (some w.heap.size)) := hr.c0
    obtain ⟨D, hown, hat, hhas, hsize⟩ := hr.p
    go_wp2_with (first
      | (at_mapUpdate; refine wpList_mapUpdate_in _ rfl _ _ _ 96 rfl 3 100 (int_keyed intT) pagesT ptrElem w.heap.size 256 D rfl (hown.alloc _) (by unfold maxLen; omega) _ _ _ rfl rfl (keyI (x := (k : Int)) (by omega) (by omega)) _ [] (ptrElem_some _) ?_; intro w1 hown1 hturn1)
      | go_in)
    · have R := ram_page hr hsz (by omega) hhas hat hsize hown hown1 hturn1
      clear hown1 hturn1 hown hat hhas hsize c0
      go_wp2
      go_roundw
      case rel => exact ⟨k + 1, by omega, by go_num, R.1, R.2.1, hb.trans R.2.2⟩
      case measure => simp [intOf]; omega
    · have e : k = n := by omega
      subst e
      exact bodyPost_ret (v := .tuple #[.pointer (some ⟨w.heap.size + 3, 0, none⟩), .int .i64 0]) (by simp [results, Tryz.results13, go_sem]) rfl ⟨rfl, hr, hsz, hb⟩

end Go.Proofs.YtmmnnafjikilpaaGreat

/- What is watched and noted: the contracts of note, and what a store into the sets does to memory. -/
namespace Go.Proofs.YtmmnnafjikilpaaGreat
open Go.ChangeShapes Go.WideShapes Go.ChangeAt Go.RowKit Go.Maps
set_option linter.unusedVariables false

theorem RamAt.as {w : World} {B : Nat} {M M' : Mem} (h : RamAt w B M) (e : M = M') : RamAt w B M' := e ▸ h

/-- The granules from lo on, below hi, that are watched are noted, and watched no more. -/
def Mem.note (M : Mem) (lo hi : Int) : Mem := { M with wt := fun x => M.wt x && !decide (lo ≤ x ∧ x < hi), nt := fun x => M.nt x || (M.wt x && decide (lo ≤ x ∧ x < hi)) }

theorem ram_unwatch {w w1 : World} {B : Nat} {M : Mem} (h : RamAt w B M) {D : DataW Unit} (hD : ∀ x : Int, Maps.has D (.int .u32 x) = M.wt x) (g : Int)
    (hown : w1.ownsMap Tryz.prog 24 unitElem (B + 1) 16384 (D.del (.int .u32 g))) (hturn : w.mapTurned w1 (B + 1)) :
    RamAt w1 B { M with wt := fun x => M.wt x && !decide (x = g) } := by
  have hK : Kp (fun j => j = B + 1) w w1 := Kp.turned hturn rfl
  have hold : ∀ j, inRam B M.n j → j ≠ B + 1 → w1.heap[j]? = w.heap[j]? := fun j hj hne => hK.block j (by have := h.lt; have := hj.2; omega) hne
  exact {
    le := h.le
    r := (hold _ ⟨by omega, by omega⟩ (by omega)).trans h.r
    p := by obtain ⟨D', h1, h2⟩ := h.p; exact ⟨D', owns_at h1 (hold _ ⟨by omega, by omega⟩ (by omega)), h2⟩
    pg := fun i hi => by obtain ⟨cs, h1, h2⟩ := h.pg i hi; exact ⟨cs, (hold _ ⟨by omega, by have : i < M.n := hi; omega⟩ (by omega)).trans h1, h2⟩
    wm := by
      refine ⟨_, hown, fun x => ?_⟩
      by_cases e : x = g
      · subst e; rw [Maps.has_del_same]; simp
      · rw [Maps.has_del_other (by simpa using e), hD]; simp [e]
    nm := by obtain ⟨D', h1, h2⟩ := h.nm; exact ⟨D', owns_at h1 (hold _ ⟨by omega, by omega⟩ (by omega)), h2⟩
    wb := fun x hx => h.wb x (by simp at hx; exact hx.1)
    nb := h.nb
    bb := h.bb }

theorem ram_watch {w w1 : World} {B : Nat} {M : Mem} (h : RamAt w B M) {D : DataW Unit} (hD : ∀ x : Int, Maps.has D (.int .u32 x) = M.wt x) (hm : Maps.IsMap D) (g : Int) (g0 : 0 ≤ g) (g1 : g < 4096 * M.n) (g2 : g % 64 = 0)
    (hown : w1.ownsMap Tryz.prog 24 unitElem (B + 1) (16384 + 1) (D.put (.int .u32 g) (.agg []))) (hturn : w.mapTurned w1 (B + 1)) :
    RamAt w1 B { M with wt := fun x => M.wt x || decide (x = g) } := by
  have hK : Kp (fun j => j = B + 1) w w1 := Kp.turned hturn rfl
  have hold : ∀ j, inRam B M.n j → j ≠ B + 1 → w1.heap[j]? = w.heap[j]? := fun j hj hne => hK.block j (by have := h.lt; have := hj.2; omega) hne
  have hb : ∀ x, (M.wt x || decide (x = g)) = true → 0 ≤ x ∧ x < 4096 * M.n ∧ x % 64 = 0 := fun x hx => by
    simp at hx
    rcases hx with hx | rfl
    · exact h.wb x hx
    · exact ⟨g0, g1, g2⟩
  have hhas : ∀ x : Int, Maps.has (D.put (.int .u32 g) (.agg [])) (.int .u32 x) = (M.wt x || decide (x = g)) := fun x => by
    by_cases e : x = g
    · subst e; rw [Maps.has_put_same hm (by simp [WideAt.IsKeyLit])]; simp
    · rw [Maps.has_put_other (by simpa using e), hD]; simp [e]
  have hle := h.le
  exact {
    le := h.le
    r := (hold _ ⟨by omega, by omega⟩ (by omega)).trans h.r
    p := by obtain ⟨D', h1, h2⟩ := h.p; exact ⟨D', owns_at h1 (hold _ ⟨by omega, by omega⟩ (by omega)), h2⟩
    pg := fun i hi => by obtain ⟨cs, h1, h2⟩ := h.pg i hi; exact ⟨cs, (hold _ ⟨by omega, by have : i < M.n := hi; omega⟩ (by omega)).trans h1, h2⟩
    wm := ⟨_, owns_tight hown (set_size hown _ hhas (fun x hx => by have := hb x hx; omega)), hhas⟩
    nm := by obtain ⟨D', h1, h2⟩ := h.nm; exact ⟨D', owns_at h1 (hold _ ⟨by omega, by omega⟩ (by omega)), h2⟩
    wb := hb
    nb := h.nb
    bb := h.bb }

theorem ram_mark {w w1 : World} {B : Nat} {M : Mem} (h : RamAt w B M) {D : DataW Unit} (hD : ∀ x : Int, Maps.has D (.int .u32 x) = M.nt x) (hm : Maps.IsMap D) (g : Int) (g0 : 0 ≤ g) (g1 : g < 4096 * M.n) (g2 : g % 64 = 0)
    (hown : w1.ownsMap Tryz.prog 24 unitElem (B + 2) (16384 + 1) (D.put (.int .u32 g) (.agg []))) (hturn : w.mapTurned w1 (B + 2)) :
    RamAt w1 B { M with nt := fun x => M.nt x || decide (x = g) } := by
  have hK : Kp (fun j => j = B + 2) w w1 := Kp.turned hturn rfl
  have hold : ∀ j, inRam B M.n j → j ≠ B + 2 → w1.heap[j]? = w.heap[j]? := fun j hj hne => hK.block j (by have := h.lt; have := hj.2; omega) hne
  have hb : ∀ x, (M.nt x || decide (x = g)) = true → 0 ≤ x ∧ x < 4096 * M.n ∧ x % 64 = 0 := fun x hx => by
    simp at hx
    rcases hx with hx | rfl
    · exact h.nb x hx
    · exact ⟨g0, g1, g2⟩
  have hhas : ∀ x : Int, Maps.has (D.put (.int .u32 g) (.agg [])) (.int .u32 x) = (M.nt x || decide (x = g)) := fun x => by
    by_cases e : x = g
    · subst e; rw [Maps.has_put_same hm (by simp [WideAt.IsKeyLit])]; simp
    · rw [Maps.has_put_other (by simpa using e), hD]; simp [e]
  have hle := h.le
  exact {
    le := h.le
    r := (hold _ ⟨by omega, by omega⟩ (by omega)).trans h.r
    p := by obtain ⟨D', h1, h2⟩ := h.p; exact ⟨D', owns_at h1 (hold _ ⟨by omega, by omega⟩ (by omega)), h2⟩
    pg := fun i hi => by obtain ⟨cs, h1, h2⟩ := h.pg i hi; exact ⟨cs, (hold _ ⟨by omega, by have : i < M.n := hi; omega⟩ (by omega)).trans h1, h2⟩
    wm := by obtain ⟨D', h1, h2⟩ := h.wm; exact ⟨D', owns_at h1 (hold _ ⟨by omega, by omega⟩ (by omega)), h2⟩
    nm := ⟨_, owns_tight hown (set_size hown _ hhas (fun x hx => by have := hb x hx; omega)), hhas⟩
    wb := h.wb
    nb := hb
    bb := h.bb }

theorem note_pt (a b : Bool) (P Q E : Prop) [Decidable P] [Decidable Q] [Decidable E] (k : a = true → (P ↔ Q ∨ E)) (e : E → a = true) :
    (a && !decide P) = ((a && !decide Q) && !decide E) ∧ (b || (a && decide P)) = ((b || (a && decide Q)) || decide E) := by
  cases a
  · have : ¬ E := fun h => by simpa using e h
    simp [this]
  · have := k rfl
    by_cases hq : Q <;> by_cases he : E <;> simp_all

theorem note_pu (a b : Bool) (P Q : Prop) [Decidable P] [Decidable Q] (k : a = true → (P ↔ Q)) :
    (a && !decide P) = (a && !decide Q) ∧ (b || (a && decide P)) = (b || (a && decide Q)) := by
  cases a
  · simp
  · have := k rfl
    by_cases hq : Q <;> simp_all

theorem note_step (M : Mem) (lo g : Int) (hg : lo ≤ g) (hw : ∀ x, M.wt x = true → (x - g) % 64 = 0) :
    M.note lo (g + 64) = if M.wt g = true then { M.note lo g with wt := fun x => (M.note lo g).wt x && !decide (x = g), nt := fun x => (M.note lo g).nt x || decide (x = g) } else M.note lo g := by
  have key : ∀ x, M.wt x = true → (lo ≤ x ∧ x < g + 64 ↔ (lo ≤ x ∧ x < g) ∨ x = g) := fun x hx => by have := hw x hx; omega
  split
  · rename_i hg1
    have q := fun x => note_pt (M.wt x) (M.nt x) (lo ≤ x ∧ x < g + 64) (lo ≤ x ∧ x < g) (x = g) (key x) (fun e => by rw [e]; exact hg1)
    unfold Mem.note
    congr 1
    · funext x; exact (q x).1
    · funext x; exact (q x).2
  · rename_i hg1
    have q := fun x => note_pu (M.wt x) (M.nt x) (lo ≤ x ∧ x < g + 64) (lo ≤ x ∧ x < g) (fun hx => by
      have := key x hx
      have e : x ≠ g := fun e => hg1 (e ▸ hx)
      omega)
    unfold Mem.note
    congr 1
    · funext x; exact (q x).1
    · funext x; exact (q x).2

theorem note_none (M : Mem) (lo : Int) : M.note lo lo = M := by
  have f : ∀ x, decide (lo ≤ x ∧ x < lo) = false := fun x => decide_eq_false (by omega)
  unfold Mem.note
  simp [f]

theorem note_any (w : World) (B : Nat) (M : Mem) (h : RamAt w B M) (pl n : Int) (h0 : 0 ≤ pl) (n1 : 1 ≤ n) (h1 : pl + n ≤ 4096 * M.n) :
    Calls Tryz.prog 73 #[.pointer (some ⟨B + 3, 0, none⟩), .int .u32 pl, .int .i64 n] w fun e w' => e = .returned (.tuple #[]) ∧ RamAt w' B (M.note (pl - pl % 64) ((pl + n - 1) - (pl + n - 1) % 64 + 64)) ∧ Kp (fun j => j = B + 1 ∨ j = B + 2) w w' := by
  have hle := h.le
  have a1 : pl + n < 4294967296 := by omega
  have a2 : n < 4294967296 := by omega
  go_enter Tryz.func73, Tryz.ntmps73
  go_wp2_with (first
    | (go_at_call 86; refine (granuleOf_any _ _ (by omega) (by omega)).mono ?_; rintro e w' ⟨rfl, hw⟩; replace hw := hw.symm; subst hw)
    | go_in)
  obtain ⟨lo, hlo⟩ : ∃ lo, lo = pl - pl % 64 := ⟨_, rfl⟩
  obtain ⟨hi, hhi⟩ : ∃ hi, hi = pl + n - 1 - (pl + n - 1) % 64 := ⟨_, rfl⟩
  rw [← hlo, ← hhi]
  have b0 : 0 ≤ lo := by omega
  have b1 : lo ≤ hi := by omega
  have b2 : hi + 64 ≤ 4096 * M.n := by omega
  have b3 : lo % 64 = 0 := by omega
  have b4 : hi % 64 = 0 := by omega
  have HLO : Hid (lo = pl - pl % 64) := hlo
  have HHI : Hid (hi = pl + n - 1 - (pl + n - 1) % 64) := hhi
  clear hlo hhi
  go_loopw [7] (fun i wr => ∃ g : Int, i = .int .u32 g ∧ lo ≤ g ∧ g ≤ hi + 64 ∧ g % 64 = 0 ∧ RamAt wr B (M.note lo g) ∧ Kp (fun j => j = B + 1 ∨ j = B + 2) w wr) (fun i _ => (hi + 64 - intOf i).toNat)
  case atStart => exact ⟨lo, rfl, Int.le_refl _, by omega, b3, h.as (note_none M lo).symm, Kp.refl _ _⟩
  case round =>
    obtain ⟨g, rfl, g0, g1, g2, hr, hk⟩ := hrel
    have c2 := hr.c2
    obtain ⟨D, hown, hD⟩ := hr.wm
    have hra := hr.alloc (.cells #[] 156)
    have c2a := hra.c2
    have hka : Kp (fun j => j = B + 1 ∨ j = B + 2) w (wr.alloc (.cells #[] 156)) := hk.trans (Kp.alloc _ wr _)
    have hwt : ∀ x, M.wt x = true → (x - g) % 64 = 0 := fun x hx => by have := h.wb x hx; omega
    have hstep := note_step M lo g g0 hwt
    have hng : (M.note lo g).wt g = M.wt g := by simp [Mem.note]
    have HS : Hid (M.note lo (g + 64) = if M.wt g = true then { M.note lo g with wt := fun x => (M.note lo g).wt x && !decide (x = g), nt := fun x => (M.note lo g).nt x || decide (x = g) } else M.note lo g) := hstep
    have HN : Hid ((M.note lo g).wt g = M.wt g) := hng
    clear hstep hng
    go_wp2_with (first
      | (at_lookup; refine wpList_lookup_own_unit _ rfl _ _ 97 rfl 24 156 (int_keyed u32T) setT (zeroUnit _) (B + 1) 16384 D rfl hown _ _ rfl (keyU (x := g) (by omega) (by omega)) ?_)
      | (at_delete; refine wpList_delete_own _ rfl _ _ 97 24 rfl 156 (int_keyed u32T) setT unitElem (B + 1) 16384 D rfl (hown.alloc _) _ _ rfl (keyU (x := g) (by omega) (by omega)) ?_; intro w2 hown2 hturn2; have hr2 := ram_unwatch hra hD g hown2 hturn2; have hk2 : Kp (fun j => j = B + 1 ∨ j = B + 2) w w2 := hka.trans (Kp.turned hturn2 (Or.inl rfl)); have c3 := hr2.c3; obtain ⟨D3, hown3, hD3⟩ := hr2.nm; clear hown2 hturn2)
      | (at_mapUpdate; refine wpList_mapUpdate_in _ rfl _ _ _ 97 rfl 24 156 (int_keyed u32T) setT unitElem (B + 2) 16384 D3 rfl hown3 (by unfold maxLen; omega) _ _ _ rfl rfl (keyU (x := g) (by omega) (by omega)) _ [] unitElem_mk ?_; intro w3 hown4 hturn4; have hr4 := ram_mark hr2 hD3 hown3.isMap g (by omega) (by show g < 4096 * M.n; omega) g2 hown4 hturn4; have hk4 : Kp (fun j => j = B + 1 ∨ j = B + 2) w w3 := hk2.trans (Kp.turned hturn4 (Or.inr rfl)); clear hown4 hturn4)
      | go_in)
    · have hwg : M.wt g = true := by rw [← HN.out]; assumption
      go_roundw
      case rel =>
        refine ⟨g + 64, rfl, by omega, by omega, by omega, hr4.as ?_, hk4⟩
        rw [HS.out, if_pos hwg]
      case measure => simp [intOf]; omega
    · have hwg : ¬ M.wt g = true := by rw [← HN.out]; simp; assumption
      go_roundw
      case rel =>
        refine ⟨g + 64, rfl, by omega, by omega, by omega, hra.as ?_, hka⟩
        rw [HS.out, if_neg hwg]
      case measure => simp [intOf]; omega
    · have e : g = hi + 64 := by omega
      subst e
      go_end0
      refine ⟨rfl, ?_, hk⟩
      rw [← HLO.out, ← HHI.out]
      exact hr
end Go.Proofs.YtmmnnafjikilpaaGreat

/- Reading: the contracts of fill and tell. -/
namespace Go.Proofs.YtmmnnafjikilpaaGreat
open Go.ChangeShapes Go.WideShapes Go.ChangeAt Go.RowKit Go.Maps
set_option linter.unusedVariables false

/-- cur' is cur with the cells f 0, f 1 .. laid at the L places from o on. -/
def Laid (cur cur' : Array Value) (o L : Nat) (f : Nat → Value) : Prop := cur'.size = cur.size ∧ ∀ j, cur'[j]? = if o ≤ j ∧ j < o + L then some (f (j - o)) else cur[j]?

theorem Laid.none (cur : Array Value) (o : Nat) (f : Nat → Value) : Laid cur cur o 0 f := ⟨rfl, fun j => by rw [if_neg (by omega)]⟩

theorem Laid.then {c1 c2 c3 : Array Value} {o L K : Nat} {f g : Nat → Value} (h : Laid c1 c2 o L f) (k : Laid c2 c3 (o + L) K g) (e : ∀ j, j < K → g j = f (L + j)) : Laid c1 c3 o (L + K) f := by
  refine ⟨k.1.trans h.1, fun j => ?_⟩
  rw [k.2 j]
  by_cases a : o + L ≤ j ∧ j < o + L + K
  · rw [if_pos a, if_pos (by omega), e _ (by omega)]; congr 2; omega
  · rw [if_neg a, h.2 j]
    by_cases b : o ≤ j ∧ j < o + L
    · rw [if_pos b, if_pos (by omega)]
    · rw [if_neg b, if_neg (by omega)]

theorem Laid.one {cur : Array Value} {o : Nat} (ho : o < cur.size) (v : Value) : Laid cur (cur.setIfInBounds o v) o 1 (fun _ => v) := by
  refine ⟨by simp, fun j => ?_⟩
  rw [Array.getElem?_setIfInBounds]
  by_cases e : o = j
  · subst e; rw [if_pos rfl, if_pos ho, if_pos (by omega)]
  · rw [if_neg e, if_neg (by omega)]

theorem Laid.splice {cur : Array Value} {o : Nat} {cs : List Value} (ho : o + cs.length ≤ cur.size) (f : Nat → Value) (hf : ∀ j, j < cs.length → cs[j]? = some (f j)) :
    Laid cur (cur.toList.take o ++ cs ++ cur.toList.drop (o + cs.length)).toArray o cs.length f := by
  refine ⟨by simp; omega, fun j => ?_⟩
  rw [List.getElem?_toArray]
  by_cases a : j < o
  · rw [if_neg (by omega), List.append_assoc, List.getElem?_append_left (by simp; omega), List.getElem?_take_of_lt a, Array.getElem?_toList]
  · by_cases b : j < o + cs.length
    · rw [if_pos (by omega), List.getElem?_append_left (by simp; omega), List.getElem?_append_right (by simp; omega)]
      have e : j - (cur.toList.take o).length = j - o := by simp; omega
      rw [e, hf _ (by omega)]
    · rw [if_neg (by omega), List.getElem?_append_right (by simp; omega)]
      have e : j - (cur.toList.take o ++ cs).length = j - (o + cs.length) := by simp; omega
      rw [e, List.getElem?_drop, Array.getElem?_toList]
      congr 1; omega

theorem heap_setCell_at {w : World} {S o : Nat} {cur : Array Value} {t : TypeId} (h : w.heap[S]? = some (.cells cur t (0, 0))) (v : Value) : (w.setCell ⟨S, o, none⟩ v).heap[S]? = some (.cells (cur.setIfInBounds o v) t (0, 0)) := by
  rw [setCell_eq_setRow w S o cur t (0, 0) v h]
  exact setRow_heap w S cur _ t _ h

theorem cell_at {w : World} {S o : Nat} {cur : Array Value} {t : TypeId} (h : w.heap[S]? = some (.cells cur t (0, 0))) : w.cell? ⟨S, o, none⟩ = cur[o]? := by simp [World.cell?, h]
theorem frozen_at {w : World} {S o : Nat} {cur : Array Value} {t : TypeId} (h : w.heap[S]? = some (.cells cur t (0, 0))) : w.frozen? ⟨S, o, none⟩ = false := by simp [World.frozen?, h]

theorem fill_any (w : World) (S o L c : Nat) (v : Int) (cur : Array Value) (t : TypeId) (h : w.heap[S]? = some (.cells cur t (0, 0))) (ho : o + L ≤ cur.size) (hL : L < 9223372036854775808) (hc : L ≤ c) :
    Calls Tryz.prog 81 #[.slice (some ⟨S, o, none⟩) L c, .int .u8 v] w fun e w' => e = .returned (.tuple #[]) ∧ (∃ cur', w'.heap[S]? = some (.cells cur' t (0, 0)) ∧ Laid cur cur' o L (fun _ => .int .u8 v)) ∧ Kp (fun j => j = S) w w' := by
  go_enter Tryz.func81, Tryz.ntmps81
  go_wp2
  go_loopw [7] (fun i wr => ∃ k : Nat, k ≤ L ∧ i = .int .i64 k ∧ (∃ cur', wr.heap[S]? = some (.cells cur' t (0, 0)) ∧ Laid cur cur' o k (fun _ => .int .u8 v)) ∧ Kp (fun j => j = S) w wr) (fun i _ => L - (intOf i).toNat)
  case atStart => exact ⟨0, Nat.zero_le _, rfl, ⟨cur, h, Laid.none _ _ _⟩, Kp.refl _ _⟩
  case round =>
    obtain ⟨k, hk, rfl, ⟨cur', hh, hl⟩, hkp⟩ := hrel
    have hcell : k < L → ∃ u, wr.cell? ⟨S, o + k, none⟩ = some u := fun hkL => by
      rw [cell_at hh]; have := hl.1; exact ⟨_, Array.getElem?_eq_getElem (by omega)⟩
    have hfz := frozen_at (o := o + k) hh
    by_cases hkL : k < L
    · obtain ⟨u, hu⟩ := hcell hkL
      clear hcell
      have R : ∃ cur'', (wr.setCell ⟨S, o + k, none⟩ (.int .u8 v)).heap[S]? = some (.cells cur'' t (0, 0)) ∧ Laid cur cur'' o (k + 1) (fun _ => .int .u8 v) :=
        ⟨_, heap_setCell_at hh _, hl.then (Laid.one (by have := hl.1; omega) _) (fun _ _ => rfl)⟩
      have hkp' : Kp (fun j => j = S) w (wr.setCell ⟨S, o + k, none⟩ (.int .u8 v)) := hkp.trans (Kp.setCell (S := fun j => j = S) wr (p := ⟨S, o + k, none⟩) rfl _)
      go_wp2
      go_roundw
      case rel => exact ⟨k + 1, by omega, by go_num, R, hkp'⟩
      case measure => simp [intOf]; omega
    · clear hcell
      have e : k = L := by omega
      subst e
      go_wp2
      go_end0
      exact ⟨rfl, ⟨cur', hh, hl⟩, hkp⟩

/-- How long a slice is. -/
def slLen : Value → Nat | .slice _ l _ => l | _ => 0

/-- The byte that is read at an address. -/
def Mem.rd (M : Mem) (a : Int) : Int := if M.place a < 4096 * M.n then M.byte (M.place a).toNat else 255

theorem byteT : (Tryz.prog.info? 5).map (·.size) = some 1 := by kernel_rfl
theorem bytesT : Tryz.prog.underlying 85 = some (.slice 5) := by kernel_rfl

theorem arrayT : Tryz.prog.underlying 101 = some (.array 4096 5) := by kernel_rfl
theorem run_pageSlice (w : World) (b q : Nat) (h : q < 4096) : (Instr.sliceAt 101 (.pointer (some ⟨b, 0, none⟩)) (some (.int .u32 q)) none none).run Tryz.prog w = .ok (.slice (some ⟨b, q, none⟩) (4096 - q) (4096 - q)) w := by
  have hq : ¬ 4096 = q := by omega
  have hz : q = 0 → 0 = q := fun e => e.symm
  have h2 : (q : Int) ≤ 4096 := by omega
  cases hi : Tryz.prog.info? 5 with
  | none => have := byteT; rw [hi] at this; cases this
  | some i =>
    have hs : i.size = 1 := by have := byteT; rw [hi] at this; simpa using this
    simp [Instr.sliceAt, Instr.sureAddr, run_underlying arrayT, Instr.sliceBounds, run_sliceBound, sizeOf, typeInfo, hi, hs, hq, h2, Addr.add]
    exact hz

theorem place_add (M : Mem) {a : Int} (a0 : 0 ≤ a) (a1 : a < 4294967296) (j : Nat) (h : M.place a % 4096 + j < 4096) : M.place ((a + j) % 4294967296) = M.place a + j := by
  unfold Mem.place at h ⊢
  by_cases c : M.closed = true
  · simp only [c, true_and] at h ⊢
    split at h
    · rw [if_pos (by omega), if_pos (by omega)]; omega
    · rw [if_neg (by omega), if_neg (by omega)]; omega
  · simp only [c] at h ⊢
    simp at h ⊢
    omega

theorem rd_in (M : Mem) {at_ a : Int} {k j : Nat} (ha : a = (at_ + k) % 4294967296) (j0 : M.place a % 4096 + j < 4096) (i q : Nat) (hq : q < 4096) (hi : M.place a = 4096 * i + q) (hn : i < M.n) : M.rd ((at_ + (k + j : Nat)) % 4294967296) = M.byte (4096 * i + (q + j)) := by
  have e : (at_ + (k + j : Nat)) % 4294967296 = (a + j) % 4294967296 := by omega
  have p := place_add M (a := a) (by omega) (by omega) j j0
  unfold Mem.rd
  rw [e, p, hi, if_pos (by omega)]
  congr 1
  omega

theorem rd_out (M : Mem) {at_ a : Int} {k j : Nat} (ha : a = (at_ + k) % 4294967296) (j0 : M.place a % 4096 + j < 4096) (hn : 4096 * M.n ≤ M.place a) : M.rd ((at_ + (k + j : Nat)) % 4294967296) = 255 := by
  have e : (at_ + (k + j : Nat)) % 4294967296 = (a + j) % 4294967296 := by omega
  have p := place_add M (a := a) (by omega) (by omega) j j0
  unfold Mem.rd
  rw [e, p, if_neg (by omega)]

/-- A copy of bytes. -/
theorem copy_any (w : World) (S o dLen dCap b q sLen sCap n : Nat) (hn : n = Nat.min sLen dLen) (cur : Array Value) (t : TypeId) (hS : w.heap[S]? = some (.cells cur t (0, 0))) (ho : o + n ≤ cur.size) (f : Nat → Int)
    (hsrc : ∀ j, j < n → w.cell? ⟨b, q + j, none⟩ = some (.int .u8 (f j))) :
    ∃ w2, (Builtin.copy_ #[85, 85] 3 #[.slice (some ⟨S, o, none⟩) dLen dCap, .slice (some ⟨b, q, none⟩) sLen sCap]).run Tryz.prog w = .ok (.int .i64 n) w2 ∧
      (∃ cur', w2.heap[S]? = some (.cells cur' t (0, 0)) ∧ Laid cur cur' o n (fun j => .int .u8 (f j))) ∧ Kp (fun j => j = S) w w2 := by
  obtain ⟨cs, hcs⟩ : ∃ cs : List Value, cs = (List.range n).map (fun j => Value.int .u8 (f j)) := ⟨_, rfl⟩
  have hlen : cs.length = n := by rw [hcs]; simp
  have hget : ∀ j, j < cs.length → cs[j]? = some (.int .u8 (f j)) := fun j hj => by
    rw [hlen] at hj
    rw [hcs, List.getElem?_map, List.getElem?_range hj]
    rfl
  have hl := Laid.splice (cur := cur) (o := o) (cs := cs) (by omega) (fun j => .int .u8 (f j)) hget
  have hrun := run_copy_row Tryz.prog w 85 85 3 5 S o dLen dCap ⟨b, q, none⟩ sLen sCap cur t cs bytesT byteT hS (by omega) (fun j v hv => by
      have hj : j < cs.length := (List.getElem?_eq_some_iff.1 hv).1
      rw [hget j hj] at hv
      cases hv
      have e : (⟨b, q, none⟩ : Addr).add j = ⟨b, q + j, none⟩ := by unfold Addr.add; split <;> simp_all
      rw [e]
      exact hsrc j (by omega)) (by omega) (fun v hv => by rw [hcs] at hv; simp at hv; obtain ⟨j, _, rfl⟩ := hv; rfl)
  rw [hlen] at hrun hl
  refine ⟨_, hrun, ⟨_, setRow_heap w S _ _ t _ hS, hl⟩, Kp.setRow (S := fun j => j = S) w rfl _⟩

set_option maxRecDepth 100000 in
theorem tell_any (w : World) (B : Nat) (M : Mem) (h : RamAt w B M) (at_ : Int) (a0 : 0 ≤ at_) (a1 : at_ < 4294967296) (S o L c : Nat) (cur : Array Value) (t : TypeId) (hS : w.heap[S]? = some (.cells cur t (0, 0))) (ho : o + L ≤ cur.size) (hL : L < 4611686018427387904) (hc : L ≤ c) (hn : ¬ inRam B M.n S) :
    Calls Tryz.prog 58 #[.pointer (some ⟨B + 3, 0, none⟩), .int .u32 at_, .slice (some ⟨S, o, none⟩) L c] w fun e w' => e = .returned (.tuple #[]) ∧ (∃ cur', w'.heap[S]? = some (.cells cur' t (0, 0)) ∧ Laid cur cur' o L (fun i => .int .u8 (M.rd ((at_ + i) % 4294967296)))) ∧ Kp (fun j => j = S) w w' := by
  go_enter Tryz.func58, Tryz.ntmps58
  go_wp2
  go_loopw [1, 2] (fun a sl wr => ∃ k : Nat, k ≤ L ∧ a = .int .u32 ((at_ + k) % 4294967296) ∧ (∃ p c', sl = .slice p (L - k) c' ∧ (k < L → p = some ⟨S, o + k, none⟩ ∧ L - k ≤ c')) ∧ (∃ cur', wr.heap[S]? = some (.cells cur' t (0, 0)) ∧ Laid cur cur' o k (fun i => .int .u8 (M.rd ((at_ + i) % 4294967296)))) ∧ Kp (fun j => j = S) w wr) (fun _ sl _ => slLen sl)
  case atStart => exact ⟨0, Nat.zero_le _, by simp; omega, ⟨_, c, rfl, fun _ => ⟨rfl, hc⟩⟩, ⟨cur, hS, Laid.none _ _ _⟩, Kp.refl _ _⟩
  case round =>
    obtain ⟨k, hk, rfl, ⟨p, c', rfl, hp⟩, ⟨cur', hh, hl⟩, hkp⟩ := hrel
    have hr : RamAt wr B M := h.kp hkp (fun j hj e => hn (e ▸ hj))
    by_cases hkL : k < L
    · obtain ⟨rfl, hc'⟩ := hp hkL
      obtain ⟨a, ha⟩ : ∃ a, a = (at_ + k) % 4294967296 := ⟨_, rfl⟩
      rw [← ha]
      have b0 : 0 ≤ a := by omega
      have b1 : a < 4294967296 := by omega
      have HA : Hid (a = (at_ + k) % 4294967296) := ha
      clear ha
      have pb := M.place_bd b0 b1
      obtain ⟨pl, hpl⟩ : ∃ pl, pl = M.place a := ⟨_, rfl⟩
      have cP := place_any wr B M hr a b0 b1
      rw [← hpl] at cP pb
      have HP : Hid (pl = M.place a) := hpl
      clear hpl
      obtain ⟨p0, p1⟩ := pb
      obtain ⟨n, hn⟩ : ∃ n : Nat, n = (min ((L - k : Nat) : Int) (4096 - pl % 4096)).toNat := ⟨_, rfl⟩
      have cL := lengthInPage_any wr pl (L - k : Nat) p0 p1 (by omega) (by omega)
      have en : min ((L - k : Nat) : Int) (4096 - pl % 4096) = n := by omega
      rw [en] at cL
      have n0 : 1 ≤ n := by omega
      have n1 : n ≤ L - k := by omega
      have n2 : n ≤ 4096 := by omega
      obtain ⟨q, hq⟩ : ∃ q : Nat, pl % 4096 = q := ⟨(pl % 4096).toNat, by omega⟩
      have q1 : q + n ≤ 4096 := by omega
      have q2 : q < 4096 := by omega
      clear hn en
      by_cases hpn : pl < 4096 * M.n
      · have cO := pageOf_some wr B M hr pl p0 p1 hpn
        obtain ⟨i, hi⟩ : ∃ i : Nat, i = (pl / 4096).toNat := ⟨_, rfl⟩
        rw [← hi] at cO
        have HI : Hid (pl = 4096 * i + q) := show _ = _ by omega
        obtain ⟨cs, hcs, hz, hby, hon⟩ := hr.pg i (by omega)
        have HIN : Hid (i < M.n) := show _ < _ by omega
        clear hi hpn
        have hsl := run_pageSlice wr (B + 4 + i) q q2
        obtain ⟨w2, hcp, ⟨cur2, hh2, hl2⟩, hk2⟩ := copy_any wr S (o + k) n c' (B + 4 + i) q (4096 - q) (4096 - q) n (Nat.min_eq_right (by omega)).symm cur' t hh (by have := hl.1; omega) (fun j => M.byte (4096 * i + (q + j))) (fun j hj => by rw [cell_at hcs]; exact hby _ (by omega))
        have hkp2 := hkp.trans hk2
        have hlF := hl.then hl2 (fun j hj => by
          show Value.int .u8 _ = Value.int .u8 _
          congr 1
          have e2 := HP.out
          have e3 := HI.out
          exact (rd_in M HA.out (by rw [← e2]; omega) i q q2 (by rw [← e2]; exact e3) HIN.out).symm)
        clear hl2 hl hk2 hh hcs hz hby hon hr
        go_wp2_with fail
        refine cP.mono ?_; rintro e w' ⟨rfl, hw⟩; replace hw := hw.symm; subst hw
        go_wp2_with fail
        refine cL.mono ?_; rintro e w' ⟨rfl, hw⟩; replace hw := hw.symm; subst hw
        go_wp2_with fail
        refine cO.mono ?_; rintro e w' ⟨rfl, hw⟩; replace hw := hw.symm; subst hw
        go_wp2
        go_roundw
        case rel =>
          refine ⟨k + n, by omega, ?_, ?_, ⟨cur2, hh2, hlF⟩, hkp2⟩
          · congr 1; have := HA.out; omega
          · refine ⟨_, _, by congr 1; omega, fun hlt => ?_⟩
            rw [if_neg (by omega)]
            exact ⟨by congr 2; omega, by omega⟩
        case measure => simp [slLen]; omega
      · have cO := pageOf_none wr B M hr pl p0 p1 (by omega)
        have cF := fill_any wr S (o + k) n c' 255 cur' t hh (by have := hl.1; omega) (by omega) (by omega)
        have HPN : Hid (4096 * M.n ≤ pl) := show _ ≤ _ by omega
        clear hpn
        go_wp2_with fail
        refine cP.mono ?_; rintro e w' ⟨rfl, hw⟩; replace hw := hw.symm; subst hw
        go_wp2_with fail
        refine cL.mono ?_; rintro e w' ⟨rfl, hw⟩; replace hw := hw.symm; subst hw
        go_wp2_with fail
        refine cO.mono ?_; rintro e w' ⟨rfl, hw⟩; replace hw := hw.symm; subst hw
        go_wp2_with fail
        refine cF.mono ?_; rintro e w2 ⟨rfl, ⟨cur2, hh2, hl2⟩, hk2⟩
        have hkp2 := hkp.trans hk2
        have hlF := hl.then hl2 (fun j hj => by
          show Value.int .u8 _ = Value.int .u8 _
          congr 1
          have e2 := HP.out
          exact (rd_out M HA.out (by rw [← e2]; omega) (by rw [← e2]; exact HPN.out)).symm)
        clear hl2 hl hk2 hh hr
        go_wp2
        go_roundw
        case rel =>
          refine ⟨k + n, by omega, ?_, ?_, ⟨cur2, hh2, hlF⟩, hkp2⟩
          · congr 1; have := HA.out; omega
          · refine ⟨_, _, by congr 1; omega, fun hlt => ?_⟩
            rw [if_neg (by omega)]
            exact ⟨by congr 2; omega, by omega⟩
        case measure => simp [slLen]; omega
    · have e : k = L := by omega
      subst e
      clear hp
      go_wp2
      go_end0
      exact ⟨rfl, ⟨cur', hh, hl⟩, hkp⟩
end Go.Proofs.YtmmnnafjikilpaaGreat

/- Writing: bytes laid one by one, and page by page; the contract of lay. -/
namespace Go.Proofs.YtmmnnafjikilpaaGreat
open Go.ChangeShapes Go.WideShapes Go.ChangeAt Go.RowKit Go.Maps
set_option linter.unusedVariables false

/-- A byte at an address; all: also where it can only be read. -/
def Mem.put (M : Mem) (all : Bool) (a v : Int) : Mem :=
  if M.place a < 4096 * M.n ∧ (all = true ∨ M.only (M.place a / 4096).toNat = false) then
    { M.note (M.place a - M.place a % 64) (M.place a - M.place a % 64 + 64) with byte := fun x => if x = (M.place a).toNat then v else M.byte x }
  else M

def Mem.lay (M : Mem) (all : Bool) (a : Int) : List Int → Mem
  | [] => M
  | v :: r => (M.put all a v).lay all ((a + 1) % 4294967296) r

theorem put_n (M : Mem) (all : Bool) (a v : Int) : (M.put all a v).n = M.n := by unfold Mem.put; split <;> rfl
theorem put_only (M : Mem) (all : Bool) (a v : Int) : (M.put all a v).only = M.only := by unfold Mem.put; split <;> rfl
theorem put_closed (M : Mem) (all : Bool) (a v : Int) : (M.put all a v).closed = M.closed := by unfold Mem.put; split <;> rfl
theorem put_place (M : Mem) (all : Bool) (a v x : Int) : (M.put all a v).place x = M.place x := by unfold Mem.place; rw [put_closed]

theorem lay_same (all : Bool) : ∀ (vs : List Int) (M : Mem) (a : Int), (M.lay all a vs).n = M.n ∧ (M.lay all a vs).only = M.only ∧ (M.lay all a vs).closed = M.closed
  | [], _, _ => ⟨rfl, rfl, rfl⟩
  | v :: r, M, a => by
    have h := lay_same all r (M.put all a v) ((a + 1) % 4294967296)
    rw [put_n, put_only, put_closed] at h
    exact h

theorem lay_append (all : Bool) : ∀ (xs ys : List Int) (M : Mem) (a : Int), 0 ≤ a → a < 4294967296 → M.lay all a (xs ++ ys) = (M.lay all a xs).lay all ((a + xs.length) % 4294967296) ys
  | [], ys, M, a, a0, a1 => by
    simp only [List.nil_append, Mem.lay, List.length_nil]
    congr 1; omega
  | v :: r, ys, M, a, a0, a1 => by
    simp only [List.cons_append, Mem.lay, List.length_cons]
    rw [lay_append all r ys _ _ (by omega) (by omega)]
    congr 1; omega

theorem note_pv (a b : Bool) (P Q R : Prop) [Decidable P] [Decidable Q] [Decidable R] (k : R ↔ P ∨ Q) :
    ((a && !decide P) && !decide Q) = (a && !decide R) ∧ ((b || (a && decide P)) || ((a && !decide P) && decide Q)) = (b || (a && decide R)) := by
  cases a
  · simp
  · by_cases hp : P <;> by_cases hq : Q <;> simp_all

theorem note_note (M : Mem) (a b c d : Int) (h1 : a ≤ c) (h2 : c ≤ b) (h3 : b ≤ d) : (M.note a b).note c d = M.note a d := by
  have q := fun x => note_pv (M.wt x) (M.nt x) (a ≤ x ∧ x < b) (c ≤ x ∧ x < d) (a ≤ x ∧ x < d) (by omega)
  unfold Mem.note
  simp only
  congr 1
  · funext x; exact (q x).1
  · funext x; exact (q x).2

/-- Bytes of one page, laid at once. -/
theorem lay_page (all : Bool) : ∀ (vs : List Int) (M : Mem) (a : Int), vs ≠ [] → 0 ≤ a → a < 4294967296 → M.place a % 4096 + vs.length ≤ 4096 → 0 ≤ M.place a →
    M.lay all a vs = if M.place a < 4096 * M.n ∧ (all = true ∨ M.only (M.place a / 4096).toNat = false) then
      { M.note (M.place a - M.place a % 64) (M.place a + vs.length - 1 - (M.place a + vs.length - 1) % 64 + 64) with byte := fun x => if (M.place a).toNat ≤ x ∧ x < (M.place a).toNat + vs.length then vs.getD (x - (M.place a).toNat) 0 else M.byte x }
    else M
  | [], _, _, h, _, _, _, _ => absurd rfl h
  | [v], M, a, _, a0, a1, hp, p0 => by
    have e : M.place a + (([v].length : Nat) : Int) - 1 = M.place a := by simp
    rw [e]
    show M.put all a v = _
    unfold Mem.put
    have eb : (fun x => if x = (M.place a).toNat then v else M.byte x) = (fun x => if (M.place a).toNat ≤ x ∧ x < (M.place a).toNat + [v].length then [v].getD (x - (M.place a).toNat) 0 else M.byte x) := by
      funext x
      have l1 : [v].length = 1 := rfl
      rw [l1]
      by_cases e : x = (M.place a).toNat
      · subst e; rw [if_pos rfl, if_pos (by omega)]; simp
      · rw [if_neg e, if_neg (by omega)]
    rw [eb]
  | v :: u :: r, M, a, _, a0, a1, hp, p0 => by
    have hlen : (v :: u :: r).length = (u :: r).length + 1 := rfl
    have l1 : 1 ≤ (u :: r).length := by simp
    rw [hlen] at hp ⊢
    have hpl : M.place ((a + 1) % 4294967296) = M.place a + 1 := place_add M a0 a1 1 (by omega)
    have ih := lay_page all (u :: r) (M.put all a v) ((a + 1) % 4294967296) (by simp) (by omega) (by omega) (by rw [put_place, hpl]; omega) (by rw [put_place, hpl]; omega)
    rw [put_place, hpl, put_n, put_only] at ih
    show (M.put all a v).lay all ((a + 1) % 4294967296) (u :: r) = _
    rw [ih]
    generalize (u :: r) = s at *
    generalize hP : M.place a = P at *
    have e1 : (P + 1) / 4096 = P / 4096 := by omega
    rw [e1]
    by_cases ok : P < 4096 * M.n ∧ (all = true ∨ M.only (P / 4096).toNat = false)
    · have ok' : P + 1 < 4096 * M.n ∧ (all = true ∨ M.only (P / 4096).toNat = false) := ⟨by omega, ok.2⟩
      rw [if_pos ok, if_pos ok']
      have hput : M.put all a v = { M.note (P - P % 64) (P - P % 64 + 64) with byte := fun x => if x = P.toNat then v else M.byte x } := by
        unfold Mem.put; rw [hP, if_pos ok]
      rw [hput]
      have en := note_note M (P - P % 64) (P - P % 64 + 64) (P + 1 - (P + 1) % 64) (P + 1 + s.length - 1 - (P + 1 + s.length - 1) % 64 + 64) (by omega) (by omega) (by omega)
      have e2 : P + 1 + (s.length : Int) - 1 = P + ((s.length + 1 : Nat) : Int) - 1 := by omega
      rw [e2] at en ⊢
      have eb : (fun x => if (P + 1).toNat ≤ x ∧ x < (P + 1).toNat + s.length then s.getD (x - (P + 1).toNat) 0 else (if x = P.toNat then v else M.byte x)) = (fun x => if P.toNat ≤ x ∧ x < P.toNat + (s.length + 1) then (v :: s).getD (x - P.toNat) 0 else M.byte x) := by
        funext x
        by_cases c1 : x = P.toNat
        · subst c1
          rw [if_neg (by omega), if_pos rfl, if_pos (by omega)]; simp
        · by_cases c2 : P.toNat ≤ x ∧ x < P.toNat + (s.length + 1)
          · rw [if_pos c2, if_pos (by omega)]
            have : x - P.toNat = (x - (P + 1).toNat) + 1 := by omega
            rw [this]; simp
          · rw [if_neg c2, if_neg (by omega), if_neg c1]
      rw [← eb]
      have en' := congrArg (fun N : Mem => { N with byte := (fun x => if (P + 1).toNat ≤ x ∧ x < (P + 1).toNat + s.length then s.getD (x - (P + 1).toNat) 0 else (if x = P.toNat then v else M.byte x)) }) en
      exact en'
    · have ok' : ¬ (P + 1 < 4096 * M.n ∧ (all = true ∨ M.only (P / 4096).toNat = false)) := fun h => ok ⟨by omega, h.2⟩
      rw [if_neg ok, if_neg ok']
      unfold Mem.put; rw [hP, if_neg ok]

/-- Bytes of a page are written. -/
theorem ram_bytes {w w2 : World} {B : Nat} {M : Mem} (h : RamAt w B M) {i q n : Nat} {cs cs' : Array Value} {f : Nat → Int} (hi : i < M.n) (hq : q + n ≤ 4096) (hcs : w.heap[B + 4 + i]? = some (.cells cs 103 (0, 0))) (hcs' : w2.heap[B + 4 + i]? = some (.cells cs' 103 (0, 0)))
    (hl : Laid cs cs' q n (fun j => .int .u8 (f j))) (hk : Kp (fun j => j = B + 4 + i) w w2) (hf : ∀ j, j < n → 0 ≤ f j ∧ f j < 256) :
    RamAt w2 B { M with byte := fun x => if 4096 * i + q ≤ x ∧ x < 4096 * i + q + n then f (x - (4096 * i + q)) else M.byte x } := by
  have hold : ∀ j, inRam B M.n j → j ≠ B + 4 + i → w2.heap[j]? = w.heap[j]? := fun j hj hne => hk.block j (by have := h.lt; have := hj.2; omega) hne
  exact {
    le := h.le
    r := (hold _ ⟨by omega, by omega⟩ (by omega)).trans h.r
    p := by obtain ⟨D', h1, h2⟩ := h.p; exact ⟨D', owns_at h1 (hold _ ⟨by omega, by omega⟩ (by omega)), h2⟩
    pg := fun i' hi' => by
      have hi'' : i' < M.n := hi'
      by_cases e : i' = i
      · subst e
        obtain ⟨cs0, g1, g2, g3, g4⟩ := h.pg i' hi
        rw [hcs] at g1
        obtain rfl : cs = cs0 := by simpa using g1
        refine ⟨cs', hcs', by rw [hl.1, g2], fun j hj => ?_, ?_⟩
        · rw [hl.2 j]
          by_cases c : q ≤ j ∧ j < q + n
          · rw [if_pos c]
            simp only
            rw [if_pos (by omega)]
            have : 4096 * i' + j - (4096 * i' + q) = j - q := by omega
            rw [this]
          · rw [if_neg c]
            simp only
            rw [if_neg (by omega), g3 j hj]
        · rw [hl.2 4096, if_neg (by omega), g4]
      · obtain ⟨cs0, g1, g2, g3, g4⟩ := h.pg i' hi''
        refine ⟨cs0, (hold _ ⟨by omega, by omega⟩ (by omega)).trans g1, g2, fun j hj => ?_, g4⟩
        rw [g3 j hj]
        simp only
        rw [if_neg (by omega)]
    wm := by obtain ⟨D', h1, h2⟩ := h.wm; exact ⟨D', owns_at h1 (hold _ ⟨by omega, by omega⟩ (by omega)), h2⟩
    nm := by obtain ⟨D', h1, h2⟩ := h.nm; exact ⟨D', owns_at h1 (hold _ ⟨by omega, by omega⟩ (by omega)), h2⟩
    wb := h.wb
    nb := h.nb
    bb := fun x hx => by
      simp only
      split
      · exact hf _ (by omega)
      · exact h.bb x hx }

theorem RamAt.pc {w : World} {B : Nat} {M : Mem} (h : RamAt w B M) {i : Nat} (hi : i < M.n) : w.cell? ⟨B + 4 + i, 4096, none⟩ = some (.bool (M.only i)) := by
  obtain ⟨cs, g1, g2, g3, g4⟩ := h.pg i hi
  rw [cell_at g1, g4]

set_option maxRecDepth 100000 in
theorem lay_any (w : World) (B : Nat) (M : Mem) (h : RamAt w B M) (all : Bool) (at_ : Int) (a0 : 0 ≤ at_) (a1 : at_ < 4294967296) (p : Option Addr) (S o L c : Nat) (vs : List Int) (hv : vs.length = L) (hL : L < 4611686018427387904)
    (hp : 0 < L → p = some ⟨S, o, none⟩ ∧ L ≤ c ∧ ¬ inRam B M.n S ∧ S < w.heap.size ∧ ∀ j, j < L → w.cell? ⟨S, o + j, none⟩ = some (.int .u8 (vs.getD j 0))) (hb : ∀ j, j < L → 0 ≤ vs.getD j 0 ∧ vs.getD j 0 < 256) :
    Calls Tryz.prog 41 #[.pointer (some ⟨B + 3, 0, none⟩), .int .u32 at_, .slice p L c, .bool all] w fun e w' => e = .returned (.tuple #[]) ∧ RamAt w' B (M.lay all at_ vs) ∧ Kp (inRam B M.n) w w' := by
  go_enter Tryz.func41, Tryz.ntmps41
  go_wp2
  go_loopw [1, 2] (fun a sl wr => ∃ k : Nat, k ≤ L ∧ a = .int .u32 ((at_ + k) % 4294967296) ∧ (∃ p' c', sl = .slice p' (L - k) c' ∧ (k < L → p' = some ⟨S, o + k, none⟩ ∧ L - k ≤ c')) ∧ RamAt wr B (M.lay all at_ (vs.take k)) ∧ Kp (inRam B M.n) w wr) (fun _ sl _ => slLen sl)
  case atStart => exact ⟨0, Nat.zero_le _, by simp; omega, ⟨_, c, rfl, fun hk => ⟨(hp hk).1, (hp hk).2.1⟩⟩, by simpa [Mem.lay] using h, Kp.refl _ _⟩
  case round =>
    obtain ⟨k, hk, rfl, ⟨p', c', rfl, hp'⟩, hr, hkp⟩ := hrel
    by_cases hkL : k < L
    · obtain ⟨rfl, hc'⟩ := hp' hkL
      obtain ⟨hp1, hp2, hp3, hp4, hp5⟩ := hp (by omega)
      have hsrc : ∀ j, j < L → wr.cell? ⟨S, o + j, none⟩ = some (.int .u8 (vs.getD j 0)) := fun j hj => by
        rw [← hp5 j hj]; exact World.cell?_of_block (hkp.block S hp4 hp3)
      clear hp hp' hp1 hp2
      obtain ⟨N, hN⟩ : ∃ N, N = M.lay all at_ (vs.take k) := ⟨_, rfl⟩
      have hNn : N.n = M.n := by rw [hN]; exact (lay_same _ _ _ _).1
      rw [← hN] at hr
      have HNN : Hid (N = M.lay all at_ (vs.take k)) := hN
      clear hN
      obtain ⟨a, ha⟩ : ∃ a, a = (at_ + k) % 4294967296 := ⟨_, rfl⟩
      rw [← ha]
      have b0 : 0 ≤ a := by omega
      have b1 : a < 4294967296 := by omega
      have HA : Hid (a = (at_ + k) % 4294967296) := ha
      clear ha
      have pb := N.place_bd b0 b1
      obtain ⟨pl, hpl⟩ : ∃ pl, pl = N.place a := ⟨_, rfl⟩
      have cP := place_any wr B N hr a b0 b1
      rw [← hpl] at cP pb
      have HP : Hid (pl = N.place a) := hpl
      clear hpl
      obtain ⟨p0, p1⟩ := pb
      obtain ⟨n, hn⟩ : ∃ n : Nat, n = (min ((L - k : Nat) : Int) (4096 - pl % 4096)).toNat := ⟨_, rfl⟩
      have cL := lengthInPage_any wr pl (L - k : Nat) p0 p1 (by omega) (by omega)
      have en : min ((L - k : Nat) : Int) (4096 - pl % 4096) = n := by omega
      rw [en] at cL
      have n0 : 1 ≤ n := by omega
      have n1 : n ≤ L - k := by omega
      have n2 : n ≤ 4096 := by omega
      obtain ⟨q, hq⟩ : ∃ q : Nat, pl % 4096 = q := ⟨(pl % 4096).toNat, by omega⟩
      have q1 : q + n ≤ 4096 := by omega
      have q2 : q < 4096 := by omega
      clear hn en
      obtain ⟨us, hus⟩ : ∃ us, us = (vs.drop k).take n := ⟨_, rfl⟩
      have ul : us.length = n := by rw [hus]; simp; omega
      have ug : ∀ j, j < n → us.getD j 0 = vs.getD (k + j) 0 := fun j hj => by rw [hus]; simp [List.getD_eq_getElem?_getD, List.getElem?_take_of_lt hj, List.getElem?_drop]
      have hstep : M.lay all at_ (vs.take (k + n)) = N.lay all a us := by
        have e : vs.take (k + n) = vs.take k ++ us := by rw [hus, List.take_add]
        rw [e, lay_append all _ _ _ _ a0 a1, ← HNN.out, HA.out]
        congr 2
        simp; omega
      have hpage := lay_page all us N a (by intro e; rw [e] at ul; simp at ul; omega) b0 b1 (by rw [← HP.out, ul, hq]; omega) (by rw [← HP.out]; exact p0)
      rw [← HP.out, ul] at hpage
      have HST : Hid (M.lay all at_ (vs.take (k + n)) = N.lay all a us) := hstep
      have HPG : Hid (N.lay all a us = if pl < 4096 * N.n ∧ (all = true ∨ N.only (pl / 4096).toNat = false) then { N.note (pl - pl % 64) (pl + n - 1 - (pl + n - 1) % 64 + 64) with byte := fun x => if pl.toNat ≤ x ∧ x < pl.toNat + n then us.getD (x - pl.toNat) 0 else N.byte x } else N) := hpage
      clear hpage hstep
      have HUL : Hid (us.length = n) := ul
      have HUS : Hid (us = (vs.drop k).take n) := hus
      clear hus ul
      by_cases hpn : pl < 4096 * N.n
      · have cO := pageOf_some wr B N hr pl p0 p1 hpn
        obtain ⟨i, hi⟩ : ∃ i : Nat, i = (pl / 4096).toNat := ⟨_, rfl⟩
        rw [← hi] at cO
        have HI : Hid (pl = 4096 * i + q) := show _ = _ by omega
        have HIN : Hid (i < N.n) := show _ < _ by omega
        have hc4 := hr.pc HIN.out
        have hsl := run_pageSlice wr (B + 4 + i) q q2
        by_cases ok : all = true ∨ N.only i = false
        · obtain ⟨cs, hcs, hz, hby, hon⟩ := hr.pg i HIN.out
          obtain ⟨w2, hcp, ⟨cs2, hh2, hl2⟩, hk2⟩ := copy_any wr (B + 4 + i) q (4096 - q) (4096 - q) S (o + k) n c' n (Nat.min_eq_left (by omega)).symm cs 103 hcs (by omega) (fun j => us.getD j 0) (fun j hj => by rw [ug j hj, Nat.add_assoc]; exact hsrc _ (by omega))
          have hr2 := ram_bytes hr HIN.out q1 hcs hh2 hl2 hk2 (fun j hj => by rw [ug j hj]; exact hb _ (by omega))
          have cT := note_any w2 B _ hr2 pl n p0 (by omega) (by show pl + n ≤ 4096 * N.n; have := HI.out; have := HIN.out; omega)
          have hfin : N.lay all a us = Mem.note { N with byte := fun x => if 4096 * i + q ≤ x ∧ x < 4096 * i + q + n then us.getD (x - (4096 * i + q)) 0 else N.byte x } (pl - pl % 64) (pl + n - 1 - (pl + n - 1) % 64 + 64) := by
            rw [HPG.out, if_pos ⟨hpn, by rw [← hi]; exact ok⟩]
            have e : pl.toNat = 4096 * i + q := by have := HI.out; omega
            rw [e]
            rfl
          have HF : Hid (N.lay all a us = Mem.note { N with byte := fun x => if 4096 * i + q ≤ x ∧ x < 4096 * i + q + n then us.getD (x - (4096 * i + q)) 0 else N.byte x } (pl - pl % 64) (pl + n - 1 - (pl + n - 1) % 64 + 64)) := hfin
          have hkp2 : Kp (inRam B M.n) w w2 := hkp.trans (hk2.mono fun j hj e => by rw [e]; have := HIN.out; exact ⟨by omega, by omega⟩)
          clear hi hpn hfin hl2 hk2 hh2 hcs hz hby hon hr2
          rcases ok with ok | ok
          · subst ok
            clear hc4
            go_wp2_with fail
            refine cP.mono ?_; rintro e w' ⟨rfl, hw⟩; replace hw := hw.symm; subst hw
            go_wp2_with fail
            refine cL.mono ?_; rintro e w' ⟨rfl, hw⟩; replace hw := hw.symm; subst hw
            go_wp2_with fail
            refine cO.mono ?_; rintro e w' ⟨rfl, hw⟩; replace hw := hw.symm; subst hw
            go_wp2_with fail
            refine cT.mono ?_; rintro e w3 ⟨rfl, hr3, hk3⟩
            have hr4 : RamAt w3 B (M.lay true at_ (vs.take (k + n))) := hr3.as (by rw [HST.out, HF.out])
            have hkp3 : Kp (inRam B M.n) w w3 := hkp2.trans (hk3.mono fun j hj e => by rcases e with e | e <;> rw [e] <;> exact ⟨by omega, by omega⟩)
            clear hr3 hk3
            go_wp2
            go_roundw
            case rel =>
              refine ⟨k + n, by omega, ?_, ?_, hr4, hkp3⟩
              · congr 1; have := HA.out; omega
              · refine ⟨_, _, by congr 1; omega, fun hlt => ?_⟩
                rw [if_neg (by omega)]
                exact ⟨by congr 2; omega, by omega⟩
            case measure => simp [slLen]; omega
          · rw [ok] at hc4
            cases all
            · go_wp2_with fail
              refine cP.mono ?_; rintro e w' ⟨rfl, hw⟩; replace hw := hw.symm; subst hw
              go_wp2_with fail
              refine cL.mono ?_; rintro e w' ⟨rfl, hw⟩; replace hw := hw.symm; subst hw
              go_wp2_with fail
              refine cO.mono ?_; rintro e w' ⟨rfl, hw⟩; replace hw := hw.symm; subst hw
              go_wp2_with fail
              refine cT.mono ?_; rintro e w3 ⟨rfl, hr3, hk3⟩
              have hr4 : RamAt w3 B (M.lay false at_ (vs.take (k + n))) := hr3.as (by rw [HST.out, HF.out])
              have hkp3 : Kp (inRam B M.n) w w3 := hkp2.trans (hk3.mono fun j hj e => by rcases e with e | e <;> rw [e] <;> exact ⟨by omega, by omega⟩)
              clear hr3 hk3
              go_wp2
              go_roundw
              case rel =>
                refine ⟨k + n, by omega, ?_, ?_, hr4, hkp3⟩
                · congr 1; have := HA.out; omega
                · refine ⟨_, _, by congr 1; omega, fun hlt => ?_⟩
                  rw [if_neg (by omega)]
                  exact ⟨by congr 2; omega, by omega⟩
              case measure => simp [slLen]; omega
            · go_wp2_with fail
              refine cP.mono ?_; rintro e w' ⟨rfl, hw⟩; replace hw := hw.symm; subst hw
              go_wp2_with fail
              refine cL.mono ?_; rintro e w' ⟨rfl, hw⟩; replace hw := hw.symm; subst hw
              go_wp2_with fail
              refine cO.mono ?_; rintro e w' ⟨rfl, hw⟩; replace hw := hw.symm; subst hw
              go_wp2_with fail
              refine cT.mono ?_; rintro e w3 ⟨rfl, hr3, hk3⟩
              have hr4 : RamAt w3 B (M.lay true at_ (vs.take (k + n))) := hr3.as (by rw [HST.out, HF.out])
              have hkp3 : Kp (inRam B M.n) w w3 := hkp2.trans (hk3.mono fun j hj e => by rcases e with e | e <;> rw [e] <;> exact ⟨by omega, by omega⟩)
              clear hr3 hk3
              go_wp2
              go_roundw
              case rel =>
                refine ⟨k + n, by omega, ?_, ?_, hr4, hkp3⟩
                · congr 1; have := HA.out; omega
                · refine ⟨_, _, by congr 1; omega, fun hlt => ?_⟩
                  rw [if_neg (by omega)]
                  exact ⟨by congr 2; omega, by omega⟩
              case measure => simp [slLen]; omega
        · have hall : all = false := by cases all; rfl; exact absurd (Or.inl rfl) ok
          have honly : N.only i = true := by cases e : N.only i; exact absurd (Or.inr e) ok; rfl
          subst hall
          rw [honly] at hc4
          have hfin : M.lay false at_ (vs.take (k + n)) = N := by rw [HST.out, HPG.out, if_neg (by rw [← hi]; exact fun g => ok g.2)]
          have hr4 : RamAt wr B (M.lay false at_ (vs.take (k + n))) := hr.as hfin.symm
          clear hi hpn hfin ok honly hr
          go_wp2_with fail
          refine cP.mono ?_; rintro e w' ⟨rfl, hw⟩; replace hw := hw.symm; subst hw
          go_wp2_with fail
          refine cL.mono ?_; rintro e w' ⟨rfl, hw⟩; replace hw := hw.symm; subst hw
          go_wp2_with fail
          refine cO.mono ?_; rintro e w' ⟨rfl, hw⟩; replace hw := hw.symm; subst hw
          go_wp2
          go_roundw
          case rel =>
            refine ⟨k + n, by omega, ?_, ?_, hr4, hkp⟩
            · congr 1; have := HA.out; omega
            · refine ⟨_, _, by congr 1; omega, fun hlt => ?_⟩
              rw [if_neg (by omega)]
              exact ⟨by congr 2; omega, by omega⟩
          case measure => simp [slLen]; omega
      · have cO := pageOf_none wr B N hr pl p0 p1 (by omega)
        have hfin : M.lay all at_ (vs.take (k + n)) = N := by rw [HST.out, HPG.out, if_neg (fun g => hpn g.1)]
        have hr4 : RamAt wr B (M.lay all at_ (vs.take (k + n))) := hr.as hfin.symm
        clear hpn hfin hr
        go_wp2_with fail
        refine cP.mono ?_; rintro e w' ⟨rfl, hw⟩; replace hw := hw.symm; subst hw
        go_wp2_with fail
        refine cL.mono ?_; rintro e w' ⟨rfl, hw⟩; replace hw := hw.symm; subst hw
        go_wp2_with fail
        refine cO.mono ?_; rintro e w' ⟨rfl, hw⟩; replace hw := hw.symm; subst hw
        go_wp2
        go_roundw
        case rel =>
          refine ⟨k + n, by omega, ?_, ?_, hr4, hkp⟩
          · congr 1; have := HA.out; omega
          · refine ⟨_, _, by congr 1; omega, fun hlt => ?_⟩
            rw [if_neg (by omega)]
            exact ⟨by congr 2; omega, by omega⟩
        case measure => simp [slLen]; omega
    · have e : k = L := by omega
      subst e
      clear hp hp'
      go_wp2
      go_end0
      refine ⟨rfl, ?_, hkp⟩
      rw [← hv, List.take_length] at hr
      exact hr
end Go.Proofs.YtmmnnafjikilpaaGreat

/- The contracts of ram's methods. -/
namespace Go.Proofs.YtmmnnafjikilpaaGreat
open Go.ChangeShapes Go.WideShapes Go.ChangeAt Go.RowKit Go.Maps
set_option linter.unusedVariables false

def okS (s : Int) : Bool := decide (s = 1 ∨ s = 2 ∨ s = 4)

theorem rd_bd {w : World} {B : Nat} {M : Mem} (h : RamAt w B M) (a : Int) (a0 : 0 ≤ a) (a1 : a < 4294967296) : 0 ≤ M.rd a ∧ M.rd a < 256 := by
  unfold Mem.rd
  have := M.place_bd a0 a1
  split
  · exact h.bb _ (by omega)
  · omega

def noB (k : Nat) : Prop := False

/-- One step more, in blocks that were not there before, or that may turn. -/
theorem Kp.over {S T : Nat → Prop} {a b c : World} (h : Kp T a b) (k : Kp S b c) (hS : ∀ j, j < a.heap.size → S j → T j) : Kp T a c :=
  ⟨k.os.trans h.os, k.tape.trans h.tape, k.output.trans h.output, Nat.le_trans h.size k.size, fun i hi hs => (k.block i (Nat.lt_of_lt_of_le hi h.size) (fun g => hs (hS i hi g))).trans (h.block i hi hs)⟩

theorem or_add {a b : Int} (i : Nat) (a0 : 0 ≤ a) (b0 : 0 ≤ b) (h : a < ((2 ^ i : Nat) : Int)) (hi : a < 4294967296) (h2 : b * ((2 ^ i : Nat) : Int) < 4294967296) : bits .or .u32 a (b * ((2 ^ i : Nat) : Int)) = a + b * ((2 ^ i : Nat) : Int) := by
  have hb : 0 ≤ b * ((2 ^ i : Nat) : Int) := Int.mul_nonneg b0 (Int.natCast_nonneg _)
  rw [u32_or a _ a0 hi hb h2]
  obtain ⟨x, rfl⟩ := Int.eq_ofNat_of_zero_le a0
  obtain ⟨y, rfl⟩ := Int.eq_ofNat_of_zero_le b0
  have e : ((y : Int) * ((2 ^ i : Nat) : Int)) = ((2 ^ i * y : Nat) : Int) := by rw [Int.natCast_mul, Int.mul_comm]
  rw [e, Int.toNat_natCast, Int.toNat_natCast, Nat.or_comm]
  have := Nat.two_pow_add_eq_or_of_lt (b := x) (i := i) (by omega) y
  rw [← this]
  omega

theorem or4 {b0 b1 b2 b3 : Int} (e0 : 0 ≤ b0) (f0 : b0 < 256) (e1 : 0 ≤ b1) (f1 : b1 < 256) (e2 : 0 ≤ b2) (f2 : b2 < 256) (e3 : 0 ≤ b3) (f3 : b3 < 256) :
    bits .or .u32 (bits .or .u32 (bits .or .u32 b0 (b1 * 256)) (b2 * 65536)) (b3 * 16777216) = b0 + b1 * 256 + b2 * 65536 + b3 * 16777216 := by
  have h1 := or_add (a := b0) (b := b1) 8 e0 e1 (by simpa using f0) (by omega) (by simp; omega)
  rw [show ((2 ^ 8 : Nat) : Int) = 256 by decide] at h1
  rw [h1]
  have h2 := or_add (a := b0 + b1 * 256) (b := b2) 16 (by omega) e2 (by simp; omega) (by omega) (by simp; omega)
  rw [show ((2 ^ 16 : Nat) : Int) = 65536 by decide] at h2
  rw [h2]
  have h3 := or_add (a := b0 + b1 * 256 + b2 * 65536) (b := b3) 24 (by omega) e3 (by simp; omega) (by omega) (by simp; omega)
  rw [show ((2 ^ 24 : Nat) : Int) = 16777216 by decide] at h3
  exact h3

theorem array4T : Tryz.prog.underlying 106 = some (.array 4 5) := by kernel_rfl
theorem run_slice4 (w : World) (b n : Nat) (h0 : 1 ≤ n) (h : n ≤ 4) : (Instr.sliceAt 106 (.pointer (some ⟨b, 0, none⟩)) none (some (.int .i64 n)) none).run Tryz.prog w = .ok (.slice (some ⟨b, 0, none⟩) n 4) w := by
  have h2 : (n : Int) ≤ 4 := by omega
  cases hi : Tryz.prog.info? 5 with
  | none => have := byteT; rw [hi] at this; cases this
  | some i =>
    simp [Instr.sliceAt, Instr.sureAddr, run_underlying array4T, Instr.sliceBounds, run_sliceBound, sizeOf, typeInfo, hi, h2, Addr.add]

/-- What stands in the j-th of four cells, n of which were read. -/
def cellB (M : Mem) (x : Int) (n j : Nat) : Int := if j < n then M.rd ((x + j) % 4294967296) else 0

def Mem.read (M : Mem) (x : Int) (n : Nat) : Int := cellB M x n 0 + cellB M x n 1 * 256 + cellB M x n 2 * 65536 + cellB M x n 3 * 16777216

set_option maxRecDepth 100000 in
theorem read_ok (w : World) (B : Nat) (M : Mem) (h : RamAt w B M) (x s : Int) (x0 : 0 ≤ x) (x1 : x < 4294967296) (hs : okS s = true) :
    Calls Tryz.prog 69 #[.pointer (some ⟨B + 3, 0, none⟩), .int .u32 x, .int .i64 s] w fun e w' => e = .returned (.tuple #[.int .u32 (M.read x s.toNat), .int .i64 0]) ∧ Kp noB w w' := by
  have h' : decide (s = 1 ∨ s = 2 ∨ s = 4) = true := hs
  have hs1 : s = 1 ∨ s = 2 ∨ s = 4 := by simpa [okS] using hs
  obtain ⟨n, rfl⟩ : ∃ n : Nat, s = n := ⟨s.toNat, by omega⟩
  have n1 : n ≤ 4 := by omega
  have n0 : 1 ≤ n := by omega
  have hlt := h.lt
  have hnew := (MapKept.heap_alloc w (.cells #[.int .u8 0, .int .u8 0, .int .u8 0, .int .u8 0] 106)).1
  have cT := tell_any (w.alloc (.cells #[.int .u8 0, .int .u8 0, .int .u8 0, .int .u8 0] 106)) B M (h.alloc _) x x0 x1 w.heap.size 0 n 4 _ _ hnew (by simp; omega) (by omega) (by omega) (fun hi => by have := hi.2; omega)
  have cI := isSize_any w n (by omega) (by omega)
  rw [h'] at cI
  clear hs h' hs1 hnew
  go_enter Tryz.func69, Tryz.ntmps69
  go_wp2_with fail
  refine cI.mono ?_; rintro e w' ⟨rfl, hw⟩; replace hw := hw.symm; subst hw
  have hsl := run_slice4 (w.alloc (.cells #[.int .u8 0, .int .u8 0, .int .u8 0, .int .u8 0] 106)) w.heap.size n n0 n1
  go_wp2_with fail
  refine cT.mono ?_; rintro e w2 ⟨rfl, ⟨cur, hh, hl⟩, hk⟩
  have hkp : Kp noB w w2 := (Kp.alloc noB w _).over hk (fun j hj e => by omega)
  have hc : ∀ j, j < 4 → w2.cell? ⟨w.heap.size, j, none⟩ = some (.int .u8 (cellB M x n j)) := fun j hj => by
    rw [cell_at hh, hl.2 j]
    unfold cellB
    by_cases e : j < n
    · rw [if_pos (by omega), if_pos e]; simp
    · rw [if_neg (by omega), if_neg e]
      rcases (by omega : j = 0 ∨ j = 1 ∨ j = 2 ∨ j = 3) with rfl | rfl | rfl | rfl <;> rfl
  have hcb : ∀ j, j < 4 → 0 ≤ cellB M x n j ∧ cellB M x n j < 256 := fun j hj => by
    unfold cellB; split
    · exact rd_bd h _ (by omega) (by omega)
    · omega
  have d0 := hc 0 (by decide); have d1 := hc 1 (by decide); have d2 := hc 2 (by decide); have d3 := hc 3 (by decide)
  have e0 := hcb 0 (by decide); have e1 := hcb 1 (by decide); have e2 := hcb 2 (by decide); have e3 := hcb 3 (by decide)
  have HR : Hid (M.read x n = cellB M x n 0 + cellB M x n 1 * 256 + cellB M x n 2 * 65536 + cellB M x n 3 * 16777216) := rfl
  generalize cellB M x n 0 = b0 at *
  generalize cellB M x n 1 = b1 at *
  generalize cellB M x n 2 = b2 at *
  generalize cellB M x n 3 = b3 at *
  clear hc hcb hl hh hk
  obtain ⟨e0, f0⟩ := e0; obtain ⟨e1, f1⟩ := e1; obtain ⟨e2, f2⟩ := e2; obtain ⟨e3, f3⟩ := e3
  have HO : Hid (bits .or .u32 (bits .or .u32 (bits .or .u32 b0 (b1 * 256)) (b2 * 65536)) (b3 * 16777216) = b0 + b1 * 256 + b2 * 65536 + b3 * 16777216) := or4 e0 f0 e1 f1 e2 f2 e3 f3
  go_wp2
  refine bodyPost_ret (v := .tuple #[.int .u32 (M.read x n), .int .i64 0]) ?_ rfl ⟨rfl, hkp⟩
  rw [HR.out, ← HO.out]
  simp [results, Tryz.results69, go_sem]

/-- The four bytes of a value, the lowest first. -/
def bytesV (v : Int) : List Int := [v % 256, v / 256 % 256, v / 65536 % 256, v / 16777216]

set_option maxRecDepth 100000 in
theorem write_ok (w : World) (B : Nat) (M : Mem) (h : RamAt w B M) (x s v : Int) (x0 : 0 ≤ x) (x1 : x < 4294967296) (v0 : 0 ≤ v) (v1 : v < 4294967296) (hs : okS s = true) :
    Calls Tryz.prog 15 #[.pointer (some ⟨B + 3, 0, none⟩), .int .u32 x, .int .i64 s, .int .u32 v] w fun e w' => e = .returned (.int .i64 0) ∧ RamAt w' B (M.lay false x ((bytesV v).take s.toNat)) ∧ Kp (inRam B M.n) w w' := by
  have h' : decide (s = 1 ∨ s = 2 ∨ s = 4) = true := hs
  have hs1 : s = 1 ∨ s = 2 ∨ s = 4 := by simpa [okS] using hs
  obtain ⟨n, rfl⟩ : ∃ n : Nat, s = n := ⟨s.toNat, by omega⟩
  have n1 : n ≤ 4 := by omega
  have n0 : 1 ≤ n := by omega
  have hlt := h.lt
  have cI := isSize_any w n (by omega) (by omega)
  rw [h'] at cI
  clear hs h' hs1
  obtain ⟨wv, hwv⟩ : ∃ wv, wv = w.alloc (.cells #[.int .u8 (v % 256), .int .u8 (v / 256 % 256), .int .u8 (v / 65536 % 256), .int .u8 (v / 16777216)] 106) := ⟨_, rfl⟩
  have hnew : wv.heap[w.heap.size]? = some (.cells #[.int .u8 (v % 256), .int .u8 (v / 256 % 256), .int .u8 (v / 65536 % 256), .int .u8 (v / 16777216)] 106 (0, 0)) := by rw [hwv]; exact (MapKept.heap_alloc w _).1
  have hsz : w.heap.size < wv.heap.size := by rw [hwv]; simp
  have hrv : RamAt wv B M := by rw [hwv]; exact h.alloc _
  have hkv : Kp (inRam B M.n) w wv := by rw [hwv]; exact Kp.alloc _ _ _
  have hget : ∀ j, j < n → ((bytesV v).take n).getD j 0 = (bytesV v).getD j 0 := fun j hj => by simp [List.getD_eq_getElem?_getD, List.getElem?_take_of_lt hj]
  have cW := lay_any wv B M hrv false x x0 x1 (some ⟨w.heap.size, 0, none⟩) w.heap.size 0 n 4 ((bytesV v).take n) (by simp [bytesV]; omega) (by omega) (fun _ => ⟨rfl, n1, fun hi => by have := hi.2; omega, hsz, fun j hj => by
      rw [hget j hj, cell_at hnew]
      rcases (by omega : j = 0 ∨ j = 1 ∨ j = 2 ∨ j = 3) with rfl | rfl | rfl | rfl <;> rfl⟩) (fun j hj => by
      rw [hget j hj]
      rcases (by omega : j = 0 ∨ j = 1 ∨ j = 2 ∨ j = 3) with rfl | rfl | rfl | rfl <;> simp [bytesV] <;> omega)
  have hsl := run_slice4 wv w.heap.size n n0 n1
  rw [hwv] at cW hsl
  have HWV : Hid (wv = w.alloc (.cells #[.int .u8 (v % 256), .int .u8 (v / 256 % 256), .int .u8 (v / 65536 % 256), .int .u8 (v / 16777216)] 106)) := hwv
  clear hnew hsz hrv hget hwv
  go_enter Tryz.func15, Tryz.ntmps15
  go_wp2_with fail
  refine cI.mono ?_; rintro e w' ⟨rfl, hw⟩; replace hw := hw.symm; subst hw
  go_wp2_with fail
  refine cW.mono ?_; rintro e w2 ⟨rfl, hr2, hk2⟩
  rw [← HWV.out] at hk2
  have hk3 := hkv.trans hk2
  clear hk2 hkv
  go_wp2
  go_ret
  exact ⟨rfl, by simpa using hr2, hk3⟩

theorem ram_rom {w : World} {B : Nat} {M : Mem} (h : RamAt w B M) {i : Nat} (hi : i < M.n) (b : Bool) : RamAt (w.setCell ⟨B + 4 + i, 4096, none⟩ (.bool b)) B { M with only := fun j => if j = i then b else M.only j } := by
  have hold : ∀ j, inRam B M.n j → j ≠ B + 4 + i → (w.setCell ⟨B + 4 + i, 4096, none⟩ (.bool b)).heap[j]? = w.heap[j]? := fun j hj hne => Below.heap_setCell _ _ _ _ hne
  exact {
    le := h.le
    r := (hold _ ⟨by omega, by omega⟩ (by omega)).trans h.r
    p := by obtain ⟨D', h1, h2⟩ := h.p; exact ⟨D', owns_at h1 (hold _ ⟨by omega, by omega⟩ (by omega)), h2⟩
    pg := fun i' hi' => by
      have hi'' : i' < M.n := hi'
      by_cases e : i' = i
      · subst e
        obtain ⟨cs, h1, h2, h3, h4⟩ := h.pg i' hi''
        refine ⟨cs.setIfInBounds 4096 (.bool b), heap_setCell_at h1 _, by simp [h2], fun j hj => ?_, ?_⟩
        · rw [Array.getElem?_setIfInBounds, if_neg (by omega)]; exact h3 j hj
        · rw [Array.getElem?_setIfInBounds, if_pos rfl, if_pos (by omega)]; simp
      · obtain ⟨cs, h1, h2, h3, h4⟩ := h.pg i' hi''
        refine ⟨cs, (hold _ ⟨by omega, by omega⟩ (by omega)).trans h1, h2, h3, ?_⟩
        rw [h4]; simp [e]
    wm := by obtain ⟨D', h1, h2⟩ := h.wm; exact ⟨D', owns_at h1 (hold _ ⟨by omega, by omega⟩ (by omega)), h2⟩
    nm := by obtain ⟨D', h1, h2⟩ := h.nm; exact ⟨D', owns_at h1 (hold _ ⟨by omega, by omega⟩ (by omega)), h2⟩
    wb := h.wb
    nb := h.nb
    bb := h.bb }

set_option maxRecDepth 100000 in
theorem rom_ok (w : World) (B : Nat) (M : Mem) (h : RamAt w B M) (i : Nat) (b : Bool) (hi : i < M.n) :
    Calls Tryz.prog 17 #[.pointer (some ⟨B + 3, 0, none⟩), .int .i64 i, .bool b] w fun e w' => e = .returned (.int .i64 0) ∧ RamAt w' B { M with only := fun j => if j = i then b else M.only j } ∧ Kp (inRam B M.n) w w' := by
  have c0 := h.c0
  have cp := h.pc hi
  have cf : w.frozen? ⟨B + 4 + i, 4096, none⟩ = false := by obtain ⟨cs, h1, _⟩ := h.pg i hi; exact frozen_at h1
  have R := ram_rom h hi b
  have K := Kp.setCell (S := inRam B M.n) w (p := ⟨B + 4 + i, 4096, none⟩) (show inRam B M.n (B + 4 + i) from ⟨by omega, by omega⟩) (.bool b)
  have hle := h.le
  obtain ⟨D, hown, hat, _, _⟩ := h.p
  have hp : pageAt B M.n i = (B : Int) + 4 + i := by unfold pageAt; rw [if_pos (by omega)]
  have ht : ((B : Int) + 4 + i).toNat = B + 4 + i := by omega
  go_enter Tryz.func17, Tryz.ntmps17
  go_wp2_with (first
    | (at_lookup; refine wpList_page _ rfl _ _ 96 rfl 3 100 (int_keyed intT) pagesT (zeroPtr _) B 256 D rfl hown _ _ rfl (keyI (x := (i : Int)) (by omega) (by omega)) _ (hat _) ?_; rw [hp, if_pos (by omega), ht])
    | go_in)
  go_ret
  exact ⟨rfl, R, K⟩

theorem rom_no (w : World) (B : Nat) (M : Mem) (h : RamAt w B M) (i : Int) (b : Bool) (i0 : -9223372036854775808 ≤ i) (i1 : i ≤ 9223372036854775807) (hi : i < 0 ∨ M.n ≤ i) :
    Calls Tryz.prog 17 #[.pointer (some ⟨B + 3, 0, none⟩), .int .i64 i, .bool b] w fun e w' => e = .returned (.int .i64 1) ∧ w' = w := by
  have c0 := h.c0
  obtain ⟨D, hown, hat, _, _⟩ := h.p
  have hp : pageAt B M.n i = -1 := by unfold pageAt; rw [if_neg (by omega)]
  go_enter Tryz.func17, Tryz.ntmps17
  go_wp2_with (first
    | (at_lookup; refine wpList_page _ rfl _ _ 96 rfl 3 100 (int_keyed intT) pagesT (zeroPtr _) B 256 D rfl hown _ _ rfl (keyI (x := i) (by omega) (by omega)) _ (hat _) ?_; rw [hp, if_neg (by omega)])
    | go_in)
  go_ret
  exact ⟨rfl, rfl⟩

theorem len_ok (w : World) (B : Nat) (M : Mem) (h : RamAt w B M) : Calls Tryz.prog 32 #[.pointer (some ⟨B + 3, 0, none⟩)] w fun e w' => e = .returned (.int .i64 (4096 * M.n)) ∧ w' = w := by
  have c0 := h.c0
  have hle := h.le
  obtain ⟨D, hown, _, _, hsz⟩ := h.p
  go_enter Tryz.func32, Tryz.ntmps32
  go_wp2_with (first
    | (at_len; refine wpList_len_own _ rfl _ 96 rfl 3 100 pagesT _ B 256 D rfl hown ?_; rw [hsz])
    | go_in)
  go_ret
  exact ⟨ret_int (by omega), rfl⟩

end Go.Proofs.YtmmnnafjikilpaaGreat

/- The contract of Watch, and what calls of none answer. -/
namespace Go.Proofs.YtmmnnafjikilpaaGreat
open Go.ChangeShapes Go.WideShapes Go.ChangeAt Go.RowKit Go.Maps
set_option linter.unusedVariables false

theorem RamAt.drewN {w : World} {B : Nat} {M : Mem} (h : RamAt w B M) (n : Nat) : RamAt (w.drewN n) B M := h.kept (fun _ _ => rfl)

end Go.Proofs.YtmmnnafjikilpaaGreat
