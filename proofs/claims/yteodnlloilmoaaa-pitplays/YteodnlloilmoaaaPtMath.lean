/- A counter of the timer, as plain numbers: no Go in sight. -/
import Derived.Test.YteodnlloilmoaaaAluSpec
namespace Go.Proofs.Yteodnlloilmoaaa
open Go.RowKit
set_option linter.unusedVariables false

structure Cn where
  mode : Int
  how : Int
  len : Int
  began : Int
  st : Bool
  fst : Int
  wants : Bool
  upper : Bool
  held : Int
  holds : Bool

/-- The length as a number. -/
def Cn.whole (c : Cn) : Int := if c.len = 0 then 65536 else c.len

/-- The steps since it began. -/
def Cn.steps (c : Cn) (now : Int) : Int := (now - c.began) % 18446744073709551616

def Cn.value (c : Cn) (now : Int) : Int :=
  if c.st then c.whole % 65536
  else if c.mode = 0 then (c.whole - c.steps now) % 65536
  else if c.mode = 2 then (c.whole - c.steps now % c.whole) % 65536
  else if c.mode = 3 then (c.whole - c.steps now % c.whole) % 65536
  else c.whole % 65536

def Cn.line (c : Cn) (now : Int) : Bool :=
  if c.st then c.mode != 0
  else if c.mode = 0 then decide (c.whole ≤ c.steps now)
  else if c.mode = 2 then c.steps now % c.whole != c.whole - 1
  else if c.mode = 3 then decide (c.steps now % c.whole < (c.whole + 1) / 2)
  else true

def Cn.hold (c : Cn) (now : Int) : Cn := if c.holds then c else { c with held := c.value now, holds := true }

def md (n : Int) : Int := if 5 < n then n - 4 else n

def Cn.setUp (c : Cn) (b n : Int) : Cn := ⟨md n, b, c.len, 0, true, 0, false, b == 2, 0, false⟩

def Cn.begin (c : Cn) (l now : Int) : Cn := { c with len := l, began := now, st := false }

def Cn.write (c : Cn) (v now : Int) : Cn :=
  if c.how = 1 then c.begin v now
  else if c.how = 2 then c.begin (v * 256) now
  else if c.wants then { c with wants := false }.begin (v * 256 + c.fst) now
  else { c with fst := v, wants := true }

/-- What is read: the held value, or the value. -/
def Cn.seen (c : Cn) (now : Int) : Int := if c.holds then c.held else c.value now

def Cn.told (c : Cn) (now : Int) : Int := if c.upper then c.seen now / 256 else c.seen now % 256

def Cn.read (c : Cn) : Cn := { c with upper := if c.how = 3 then !c.upper else c.upper, holds := if c.upper || c.how == 1 then false else c.holds }

structure Cn.Ok (c : Cn) : Prop where
  mode : 0 ≤ c.mode ∧ c.mode ≤ 5
  how : 1 ≤ c.how ∧ c.how ≤ 3
  len : 0 ≤ c.len ∧ c.len < 65536
  began : 0 ≤ c.began ∧ c.began < 18446744073709551616
  fst : 0 ≤ c.fst ∧ c.fst < 256
  held : 0 ≤ c.held ∧ c.held < 65536
  up : c.upper = true → c.how ≠ 1
  up2 : c.how = 2 → c.upper = true

theorem Cn.Ok.whole {c : Cn} (h : c.Ok) : 1 ≤ c.whole ∧ c.whole ≤ 65536 := by
  have := h.len
  unfold Cn.whole
  split <;> omega

theorem Cn.steps_bd (c : Cn) (now : Int) : 0 ≤ c.steps now ∧ c.steps now < 18446744073709551616 := by
  unfold Cn.steps
  omega

theorem Cn.value_bd (c : Cn) (now : Int) : 0 ≤ c.value now ∧ c.value now < 65536 := by
  unfold Cn.value
  repeat' split
  all_goals omega

theorem Cn.Ok.hold {c : Cn} (h : c.Ok) (now : Int) : (c.hold now).Ok := by
  unfold Cn.hold
  split
  · exact h
  · exact ⟨h.mode, h.how, h.len, h.began, h.fst, c.value_bd now, h.up, h.up2⟩

theorem Cn.Ok.setUp {c : Cn} (h : c.Ok) {b n : Int} (b0 : 1 ≤ b) (b1 : b ≤ 3) (n0 : 0 ≤ n) (n1 : n ≤ 7) : (c.setUp b n).Ok := by
  refine ⟨?_, ⟨b0, b1⟩, h.len, ?_, ?_, ?_, ?_, ?_⟩
  · show 0 ≤ md n ∧ md n ≤ 5
    unfold md; split <;> omega
  · exact ⟨by show (0 : Int) ≤ 0; omega, by show (0 : Int) < _; omega⟩
  · exact ⟨by show (0 : Int) ≤ 0; omega, by show (0 : Int) < _; omega⟩
  · exact ⟨by show (0 : Int) ≤ 0; omega, by show (0 : Int) < _; omega⟩
  · intro e
    have e' : (b == 2) = true := e
    have : b = 2 := by simpa using e'
    show b ≠ 1
    omega
  · intro e
    show (b == 2) = true
    have : b = 2 := e
    simp [this]

theorem Cn.Ok.begin {c : Cn} (h : c.Ok) {l now : Int} (l0 : 0 ≤ l) (l1 : l < 65536) (n0 : 0 ≤ now) (n1 : now < 18446744073709551616) : (c.begin l now).Ok :=
  ⟨h.mode, h.how, ⟨l0, l1⟩, ⟨n0, n1⟩, h.fst, h.held, h.up, h.up2⟩

theorem Cn.Ok.write {c : Cn} (h : c.Ok) {v now : Int} (v0 : 0 ≤ v) (v1 : v < 256) (n0 : 0 ≤ now) (n1 : now < 18446744073709551616) : (c.write v now).Ok := by
  have f := h.fst
  unfold Cn.write
  split
  · exact h.begin v0 (by omega) n0 n1
  · split
    · exact h.begin (by omega) (by omega) n0 n1
    · split
      · exact ⟨h.mode, h.how, ⟨by show 0 ≤ v * 256 + c.fst; omega, by show v * 256 + c.fst < 65536; omega⟩, ⟨n0, n1⟩, h.fst, h.held, h.up, h.up2⟩
      · exact ⟨h.mode, h.how, h.len, h.began, ⟨v0, v1⟩, h.held, h.up, h.up2⟩

theorem Cn.Ok.read {c : Cn} (h : c.Ok) : (c.read).Ok := by
  refine ⟨h.mode, h.how, h.len, h.began, h.fst, h.held, ?_, ?_⟩
  · intro e
    have e' : (if c.how = 3 then !c.upper else c.upper) = true := e
    show c.how ≠ 1
    split at e'
    · omega
    · exact h.up e'
  · intro e
    have e' : c.how = 2 := e
    show (if c.how = 3 then !c.upper else c.upper) = true
    rw [if_neg (by omega)]
    exact h.up2 e'

theorem Cn.seen_bd {c : Cn} (h : c.Ok) (now : Int) : 0 ≤ c.seen now ∧ c.seen now < 65536 := by
  unfold Cn.seen
  split
  · exact h.held
  · exact c.value_bd now

theorem Cn.told_bd {c : Cn} (h : c.Ok) (now : Int) : 0 ≤ c.told now ∧ c.told now < 256 := by
  have := Cn.seen_bd h now
  unfold Cn.told
  split <;> omega

/-- Three of them. -/
def upd (f : Nat → Cn) (i : Nat) (c : Cn) : Nat → Cn := fun j => if j = i then c else f j

theorem upd_at (f : Nat → Cn) (i : Nat) (c : Cn) : upd f i c i = c := by unfold upd; rw [if_pos rfl]
theorem upd_ne (f : Nat → Cn) {i j : Nat} (c : Cn) (h : j ≠ i) : upd f i c j = f j := by unfold upd; rw [if_neg h]
theorem upd_self (f : Nat → Cn) (i : Nat) : upd f i (f i) = f := by
  funext j
  unfold upd
  split
  · rename_i h; rw [h]
  · rfl

def Oks (f : Nat → Cn) : Prop := ∀ i, (f i).Ok

theorem Oks.upd {f : Nat → Cn} (h : Oks f) (i : Nat) {c : Cn} (k : c.Ok) : Oks (upd f i c) := by
  intro j
  unfold Proofs.Yteodnlloilmoaaa.upd
  split
  · exact k
  · exact h j

/-- What is written to the command. -/
def cmdF (f : Nat → Cn) (v now : Int) : Nat → Cn :=
  if v / 64 = 3 then f
  else if v / 16 % 4 = 0 then upd f (v / 64).toNat ((f (v / 64).toNat).hold now)
  else upd f (v / 64).toNat ((f (v / 64).toNat).setUp (v / 16 % 4) (v / 2 % 8))

def outF (f : Nat → Cn) (p v now : Int) : Nat → Cn := if p = 3 then cmdF f v now else upd f p.toNat ((f p.toNat).write v now)
def innV (f : Nat → Cn) (p now : Int) : Int := if p = 3 then 255 else (f p.toNat).told now
def innF (f : Nat → Cn) (p : Int) : Nat → Cn := if p = 3 then f else upd f p.toNat (f p.toNat).read

theorem Oks.cmd {f : Nat → Cn} (h : Oks f) {v now : Int} (v0 : 0 ≤ v) (v1 : v < 256) : Oks (cmdF f v now) := by
  unfold cmdF
  split
  · exact h
  · split
    · exact h.upd _ ((h _).hold now)
    · exact h.upd _ ((h _).setUp (by omega) (by omega) (by omega) (by omega))

theorem Oks.out {f : Nat → Cn} (h : Oks f) {p v now : Int} (v0 : 0 ≤ v) (v1 : v < 256) (n0 : 0 ≤ now) (n1 : now < 18446744073709551616) : Oks (outF f p v now) := by
  unfold outF
  split
  · exact h.cmd v0 v1
  · exact h.upd _ ((h _).write v0 v1 n0 n1)

theorem Oks.inn {f : Nat → Cn} (h : Oks f) (p : Int) : Oks (innF f p) := by
  unfold innF
  split
  · exact h
  · exact h.upd _ (h _).read

def cn0 : Cn := ⟨3, 3, 0, 0, false, 0, false, false, 0, false⟩

theorem cn0_ok : cn0.Ok := ⟨by decide, by decide, by decide, by decide, by decide, by decide, by decide, by decide⟩

end Go.Proofs.Yteodnlloilmoaaa
