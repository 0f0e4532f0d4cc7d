/- Plain facts on descriptors' words, and what a segment's type lets: no Go in sight. -/
import Derived.Test.YtmmnnafjikilpaaAluSpec
import Derived.Laws.Bits128
namespace Go.Proofs.Ytmmnnafjikilpaa.Sg
open Go.RowKit
set_option linter.unusedVariables false

theorem nat_even (n : Nat) (hn : n < 18446744073709551616) : n &&& 18446744073709551614 = n / 2 * 2 := by
  have h1 : (n &&& 18446744073709551614) / 2 = n / 2 := by
    have e := Nat.and_div_two_pow (a := n) (b := 18446744073709551614) (n := 1)
    rw [show (2 : Nat) ^ 1 = 2 from rfl] at e
    rw [e]
    have m := Nat.and_two_pow_sub_one_eq_mod (n / 2) 63
    rw [show (18446744073709551614 : Nat) / 2 = 2 ^ 63 - 1 from by decide, m]
    exact Nat.mod_eq_of_lt (by omega)
  have h2 : (n &&& 18446744073709551614) % 2 = 0 := by
    have e := Nat.and_mod_two_pow (a := n) (b := 18446744073709551614) (n := 1)
    rw [show (2 : Nat) ^ 1 = 2 from rfl] at e
    rw [e]
    simp
  omega

theorem type_even (t : Int) (t0 : -9223372036854775808 ≤ t) (t1 : t < 9223372036854775808) : bits .andNot .i64 t 1 = t - t % 2 := by
  show IntKind.i64.wrap ((BitVec.ofInt 64 t &&& ~~~BitVec.ofInt 64 1).toNat : Int) = _
  have hw : ∀ n : Int, IntKind.i64.wrap n = (n + 9223372036854775808) % 18446744073709551616 - 9223372036854775808 := fun n => by
    simp [IntKind.wrap, IntKind.bits, IntKind.signed]
    have := Int.bmod_def n 18446744073709551616
    omega
  rw [BitVec.toNat_and]
  have e1 : (~~~BitVec.ofInt 64 1).toNat = 18446744073709551614 := by decide
  have e2 : (BitVec.ofInt 64 t).toNat = (t % 18446744073709551616).toNat := by rw [BitVec.toNat_ofInt]; rfl
  rw [e1, e2, nat_even _ (by omega), hw]
  omega

/-- What a segment is, by System and Type. -/
def isD (s : Bool) (t : Int) : Bool := !s && decide (0 ≤ t) && decide (t < 8)
def isC (s : Bool) (t : Int) : Bool := !s && decide (8 ≤ t) && decide (t < 16)
def two (t : Int) : Bool := decide (t / 2 % 2 = 1)
def four (t : Int) : Bool := decide (t / 4 % 2 = 1)

/-- What it lets. -/
def rF (s : Bool) (t : Int) : Bool := isC s t && four t
def rR (s : Bool) (t : Int) : Bool := isD s t || isC s t && two t
def rW (s : Bool) (t : Int) : Bool := isD s t && two t
def rD (s : Bool) (t : Int) : Bool := isD s t && four t

def szB (n : Int) : Bool := n == 1 || n == 2 || n == 4 || n == 8
def topB (g : Bool) : Int := if g then 4294967295 else 65535

def reachX (wr R Wt p D g : Bool) (l off size : Int) : Bool :=
  (if wr then Wt else R) && p && szB size && (if D then decide (l < off) && decide (off + size - 1 ≤ topB g) else decide (off + size - 1 ≤ l))
def reachB (l t : Int) (s p g : Bool) (off size : Int) (wr : Bool) : Bool :=
  reachX wr (rR s t) (rW s t) p (rD s t) g l off size

def presB (p : Bool) (v : Int) : Int := if p then -1 else v
def fitS (t d : Int) (s p : Bool) (rpl cpl : Int) : Int := if rpl = cpl ∧ d = cpl ∧ rW s t = true then presB p 12 else 13
def fitD (t d : Int) (s p : Bool) (rpl cpl : Int) : Int := if rR s t = true ∧ (rF s t = true ∨ cpl ≤ d ∧ rpl ≤ d) then presB p 11 else 13
def fitB (reg t d : Int) (s p : Bool) (rpl cpl : Int) : Int :=
  if reg = 2 then fitS t d s p rpl cpl else if reg = 0 ∨ reg = 3 ∨ reg = 4 ∨ reg = 5 then fitD t d s p rpl cpl else 13
def ringsB (f : Bool) (rpl d cpl : Int) : Bool := if f then decide (d ≤ cpl) else decide (d = cpl) && decide (rpl ≤ cpl)
def codeB (t d : Int) (s p g : Bool) (rpl cpl : Int) : Int := if isC s t = true ∧ g = true ∧ ringsB (rF s t) rpl d cpl = true then presB p 11 else 13

/-- The kind's number: half its marks, or 8. -/
def kindN (s : Bool) (t : Int) : Nat := if s = false ∧ 0 ≤ t ∧ t < 16 then (t / 2).toNat else 8
end Go.Proofs.Ytmmnnafjikilpaa.Sg
