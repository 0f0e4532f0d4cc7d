/- Plain facts on a timer that was started. -/
import Derived.Test.YteodnlloilmoaaaPtAwake
namespace Go.Proofs.Yteodnlloilmoaaa
open Go.RowKit
set_option linter.unusedVariables false

def big (l : Int) : Int := if l = 0 then 65536 else l

theorem big_bd {l : Int} (l0 : 0 ≤ l) (l1 : l < 65536) : 1 ≤ big l ∧ big l ≤ 65536 := by unfold big; split <;> omega

theorem cnS_steps (m l : Int) {now : Int} (n0 : 0 ≤ now) (n1 : now < 18446744073709551616) : (cnS m l).steps now = now := by
  show (now - 0) % 18446744073709551616 = now
  omega

theorem cnS_value2 (l : Int) {now : Int} (n0 : 0 ≤ now) (n1 : now < 18446744073709551616) : (cnS 2 l).value now = (big l - now % big l) % 65536 := by
  have e := cnS_steps 2 l n0 n1
  have h : (cnS 2 l).value now = ((cnS 2 l).whole - (cnS 2 l).steps now % (cnS 2 l).whole) % 65536 := rfl
  rw [h, e]
  rfl

/-- The value V is held; which byte is read next. -/
def cnH (l V : Int) (u b : Bool) : Cn := ⟨2, 3, l, 0, false, l % 256, false, u, V, b⟩
def fH (l V : Int) (u b : Bool) : Nat → Cn := upd f00 0 (cnH l V u b)

theorem cnH_ok {l V : Int} (u b : Bool) (l0 : 0 ≤ l) (l1 : l < 65536) (v0 : 0 ≤ V) (v1 : V < 65536) : (cnH l V u b).Ok :=
  ⟨⟨by show (0 : Int) ≤ 2; decide, by show (2 : Int) ≤ 5; decide⟩, ⟨by show (1 : Int) ≤ 3; decide, by show (3 : Int) ≤ 3; decide⟩, ⟨l0, l1⟩, ⟨by show (0 : Int) ≤ 0; decide, by show (0 : Int) < _; decide⟩, ⟨by show 0 ≤ l % 256; omega, by show l % 256 < 256; omega⟩, ⟨v0, v1⟩, fun e => (by decide : (3 : Int) ≠ 1), fun e => absurd e (by decide : ¬ (3 : Int) = 2)⟩

theorem fH_ok {l V : Int} (u b : Bool) (l0 : 0 ≤ l) (l1 : l < 65536) (v0 : 0 ≤ V) (v1 : V < 65536) : Oks (fH l V u b) := f00_ok.upd 0 (cnH_ok u b l0 l1 v0 v1)

theorem fH_hold {l at' : Int} (a0 : 0 ≤ at') (a1 : at' < 18446744073709551616) : outF (fS 2 l) 3 0 at' = fH l ((big l - at' % big l) % 65536) false true := by
  have e : outF (fS 2 l) 3 0 at' = upd (fS 2 l) 0 ((fS 2 l 0).hold at') := rfl
  rw [e]
  unfold fS fH
  rw [upd_upd, upd_at]
  have h : (cnS 2 l).hold at' = { cnS 2 l with held := (cnS 2 l).value at', holds := true } := rfl
  rw [h, cnS_value2 l a0 a1]
  rfl

theorem fH_in1 (l V now : Int) : innV (fH l V false true) 0 now = V % 256 := rfl
theorem fH_in2 (l V now : Int) : innV (fH l V true true) 0 now = V / 256 := rfl
theorem fH_f1 (l V : Int) : innF (fH l V false true) 0 = fH l V true true := by
  have e : innF (fH l V false true) 0 = upd (fH l V false true) 0 (fH l V false true 0).read := rfl
  rw [e]
  unfold fH
  rw [upd_upd, upd_at]
  rfl
theorem fH_f2 (l V : Int) : innF (fH l V true true) 0 = fH l V false false := by
  have e : innF (fH l V true true) 0 = upd (fH l V true true) 0 (fH l V true true 0).read := rfl
  rw [e]
  unfold fH
  rw [upd_upd, upd_at]
  rfl
theorem fH_f3 (l V : Int) : innF (fH l V false false) 0 = fH l V true false := by
  have e : innF (fH l V false false) 0 = upd (fH l V false false) 0 (fH l V false false 0).read := rfl
  rw [e]
  unfold fH
  rw [upd_upd, upd_at]
  rfl
theorem cnH_value (l V : Int) (u b : Bool) {now : Int} (n0 : 0 ≤ now) (n1 : now < 18446744073709551616) : (cnH l V u b).value now = (big l - now % big l) % 65536 := by
  have e : (cnH l V u b).steps now = now := by
    show (now - 0) % 18446744073709551616 = now
    omega
  have h : (cnH l V u b).value now = ((cnH l V u b).whole - (cnH l V u b).steps now % (cnH l V u b).whole) % 65536 := rfl
  rw [h, e]
  rfl
theorem fH_in3 (l V : Int) {now : Int} (n0 : 0 ≤ now) (n1 : now < 18446744073709551616) : innV (fH l V false false) 0 now = (big l - now % big l) % 65536 % 256 := by
  have h : innV (fH l V false false) 0 now = (cnH l V false false).value now % 256 := rfl
  rw [h, cnH_value l V false false n0 n1]
theorem fH_in4 (l V : Int) {now : Int} (n0 : 0 ≤ now) (n1 : now < 18446744073709551616) : innV (fH l V true false) 0 now = (big l - now % big l) % 65536 / 256 := by
  have h : innV (fH l V true false) 0 now = (cnH l V true false).value now / 256 := rfl
  rw [h, cnH_value l V true false n0 n1]
end Go.Proofs.Yteodnlloilmoaaa
