/- A chip of the pair, as plain numbers: no Go in sight but the names of its bit operations. -/
import Derived.Test.YtfpgijdfbgfkcaaAluSpec
import Derived.Lib.BitFns
import Derived.Laws.BitsAllLaws
namespace Go.Proofs.Ytfpgijdfbgfkcaa
open Go.RowKit
set_option linter.unusedVariables false

structure Ch where
  up : Int
  asks : Int
  srv : Int
  msk : Int
  base : Int
  due : Int
  sh : Bool
  ends : Bool

/-- How many lines stand ahead of the first one that is set. -/
def tz (x : Int) : Int := (Lib.trailingZeros8 x.toNat : Int)

def nextZ (a m s : Int) : Int := if tz s ≤ tz (bits .andNot .u8 a m) then -1 else tz (bits .andNot .u8 a m)

def Ch.next (c : Ch) : Int := nextZ c.asks c.msk c.srv

/-- Whether a bit is set, as the program asks it. -/
def bt (v k : Int) : Bool := bits .and .u8 v k != 0

def setUpD (v : Int) : Int := if bt v 2 then (if bt v 1 then 5 else 1) else (if bt v 1 then 7 else 3)

/-- The bit of a line. -/
def pw (n : Int) : Int := ((2 ^ n.toNat : Nat) : Int)

def Ch.cmd (v : Int) (c : Ch) : Ch :=
  if bt v 16 then { up := c.up, asks := 0, srv := 0, msk := 0, base := c.base, due := setUpD v, sh := false, ends := false }
  else if bt v 8 then (if bt v 2 then { c with sh := bt v 1 } else c)
  else if v / 32 = 1 then { c with srv := bits .and .u8 c.srv ((c.srv - 1) % 256) }
  else if v / 32 = 3 then { c with srv := bits .andNot .u8 c.srv (pw (v % 8)) }
  else c

def lowB (d : Int) : Int := bits .and .u8 d (-d % 256)

def Ch.dat1 (v : Int) (c : Ch) : Ch :=
  if lowB c.due = 0 then { c with msk := v }
  else if lowB c.due = 1 then { c with base := v - v % 8 }
  else if lowB c.due = 4 then { c with ends := bt v 2 }
  else c

def Ch.dat (v : Int) (c : Ch) : Ch := { c.dat1 v with due := bits .and .u8 c.due ((c.due - 1) % 256) }

def Ch.line (n : Int) (u : Bool) (c : Ch) : Ch :=
  if u then (if bt c.up (pw n) then c else { c with up := bits .or .u8 c.up (pw n), asks := bits .or .u8 c.asks (pw n) })
  else { c with up := bits .andNot .u8 c.up (pw n), asks := bits .andNot .u8 c.asks (pw n) }

def Ch.shown (c : Ch) : Int := if c.sh then c.srv else c.asks

/-- The line n is taken as told. -/
def Ch.told (n : Int) (c : Ch) : Ch :=
  if n = -1 then c
  else if c.ends then { c with asks := bits .andNot .u8 c.asks (pw n) }
  else { c with asks := bits .andNot .u8 c.asks (pw n), srv := bits .or .u8 c.srv (pw n) }

def Ch.vec (n : Int) (c : Ch) : Int := if n = -1 then c.base + 7 else c.base + n

structure M2 where
  a : Ch
  b : Ch

def M2.get (m : M2) : Bool → Ch
  | false => m.a
  | true => m.b

def M2.set (m : M2) (i : Bool) (c : Ch) : M2 :=
  match i with
  | false => ⟨c, m.b⟩
  | true => ⟨m.a, c⟩

/-- The second chip's output is the first one's line 2. -/
def M2.settle (m : M2) : M2 := ⟨{ m.a with asks := if m.b.next = -1 then bits .andNot .u8 m.a.asks 4 else bits .or .u8 (bits .andNot .u8 m.a.asks 4) 4 }, m.b⟩

/-- Numbers that are a byte. -/
def By (x : Int) : Prop := 0 ≤ x ∧ x < 256

structure Ch.Ok (c : Ch) : Prop where
  up : By c.up
  asks : By c.asks
  srv : By c.srv
  msk : By c.msk
  base : By c.base
  b8 : c.base % 8 = 0
  due : 0 ≤ c.due ∧ c.due < 8

structure M2.Ok (m : M2) : Prop where
  a : m.a.Ok
  b : m.b.Ok

theorem M2.Ok.get {m : M2} (h : m.Ok) (i : Bool) : (m.get i).Ok := by cases i; exact h.a; exact h.b
theorem M2.Ok.set {m : M2} (h : m.Ok) (i : Bool) {c : Ch} (k : c.Ok) : (m.set i c).Ok := by cases i; exact ⟨k, h.b⟩; exact ⟨h.a, k⟩

theorem by_and {a b : Int} (ha : By a) (hb : By b) : By (bits .and .u8 a b) := by
  rw [u8_and a b ha.1 ha.2 hb.1 hb.2]
  have := Nat.and_lt_two_pow (n := 8) a.toNat (show b.toNat < 2 ^ 8 by have := hb.1; have := hb.2; omega)
  exact ⟨by omega, by omega⟩
theorem by_or {a b : Int} (ha : By a) (hb : By b) : By (bits .or .u8 a b) := by
  rw [u8_or a b ha.1 ha.2 hb.1 hb.2]
  have := Nat.or_lt_two_pow (n := 8) (x := a.toNat) (y := b.toNat) (by have := ha.1; have := ha.2; omega) (by have := hb.1; have := hb.2; omega)
  exact ⟨by omega, by omega⟩
theorem by_andNot {a b : Int} (ha : By a) (hb : By b) : By (bits .andNot .u8 a b) := by
  rw [u8_andNot a b ha.1 ha.2 hb.1 hb.2]
  have := Nat.and_lt_two_pow (n := 8) a.toNat (show 255 - b.toNat < 2 ^ 8 by omega)
  exact ⟨by omega, by omega⟩

theorem by_pw {n : Int} (h0 : 0 ≤ n) (h1 : n < 8) : By (pw n) := by
  obtain ⟨k, rfl⟩ := Int.eq_ofNat_of_zero_le h0
  have h : (2 : Nat) ^ k ≤ 2 ^ 7 := Nat.pow_le_pow_right (by decide) (by omega)
  unfold pw
  rw [show ((k : Int)).toNat = k from rfl]
  obtain ⟨q, hq⟩ : ∃ q, q = (2 : Nat) ^ k := ⟨_, rfl⟩
  rw [← hq] at h ⊢
  have e : (2 : Nat) ^ 7 = 128 := by decide
  exact ⟨by omega, by omega⟩

theorem by_mod (x : Int) : By (x % 256) := ⟨by omega, by omega⟩
theorem by_lit (k : Int) (h0 : 0 ≤ k) (h1 : k < 256) : By k := ⟨h0, h1⟩

theorem tz_bd {x : Int} (h : By x) : 0 ≤ tz x ∧ tz x ≤ 8 := by
  have l := Lib.trailingZeros8_le8 ⟨x.toNat, by have := h.1; have := h.2; omega⟩
  unfold tz
  simp only at l
  omega

theorem next_bd {c : Ch} (h : c.Ok) : -1 ≤ c.next ∧ c.next < 8 := by
  have a := tz_bd h.srv
  have b := tz_bd (by_andNot h.asks h.msk)
  unfold Ch.next nextZ
  split <;> omega

theorem setUpD_bd (v : Int) : 0 ≤ setUpD v ∧ setUpD v < 8 := by
  unfold setUpD
  cases bt v 2 <;> cases bt v 1 <;> decide

theorem due_low : ∀ n : Fin 8, 0 ≤ bits .and .u8 (n.val : Int) (((n.val : Int) - 1) % 256) ∧ bits .and .u8 (n.val : Int) (((n.val : Int) - 1) % 256) < 8 := by decide +kernel

theorem due_bd {d : Int} (h : 0 ≤ d ∧ d < 8) : 0 ≤ bits .and .u8 d ((d - 1) % 256) ∧ bits .and .u8 d ((d - 1) % 256) < 8 := by
  have := due_low ⟨d.toNat, by omega⟩
  simp only [Int.toNat_of_nonneg h.1] at this
  exact this

theorem Ch.Ok.cmd {c : Ch} (h : c.Ok) {v : Int} (hv : By v) : (c.cmd v).Ok := by
  have z : By 0 := by_lit 0 (by decide) (by decide)
  unfold Ch.cmd
  split
  · exact ⟨h.up, z, z, z, h.base, h.b8, setUpD_bd v⟩
  · split
    · split
      · exact ⟨h.up, h.asks, h.srv, h.msk, h.base, h.b8, h.due⟩
      · exact h
    · split
      · exact ⟨h.up, h.asks, by_and h.srv (by_mod _), h.msk, h.base, h.b8, h.due⟩
      · split
        · exact ⟨h.up, h.asks, by_andNot h.srv (by_pw (by omega) (by omega)), h.msk, h.base, h.b8, h.due⟩
        · exact h

theorem Ch.Ok.dat1 {c : Ch} (h : c.Ok) {v : Int} (hv : By v) : (c.dat1 v).Ok := by
  have z := hv.1
  have z1 := hv.2
  unfold Ch.dat1
  split
  · exact ⟨h.up, h.asks, h.srv, hv, h.base, h.b8, h.due⟩
  · split
    · exact ⟨h.up, h.asks, h.srv, h.msk, ⟨by show 0 ≤ v - v % 8; omega, by show v - v % 8 < 256; omega⟩, by show (v - v % 8) % 8 = 0; omega, h.due⟩
    · split
      · exact ⟨h.up, h.asks, h.srv, h.msk, h.base, h.b8, h.due⟩
      · exact h

theorem Ch.Ok.dat {c : Ch} (h : c.Ok) {v : Int} (hv : By v) : (c.dat v).Ok := by
  have k := h.dat1 hv
  exact ⟨k.up, k.asks, k.srv, k.msk, k.base, k.b8, due_bd h.due⟩

theorem Ch.Ok.line {c : Ch} (h : c.Ok) {n : Int} (n0 : 0 ≤ n) (n1 : n < 8) (u : Bool) : (c.line n u).Ok := by
  have p := by_pw n0 n1
  unfold Ch.line
  split
  · split
    · exact h
    · exact ⟨by_or h.up p, by_or h.asks p, h.srv, h.msk, h.base, h.b8, h.due⟩
  · exact ⟨by_andNot h.up p, by_andNot h.asks p, h.srv, h.msk, h.base, h.b8, h.due⟩

theorem Ch.Ok.told {c : Ch} (h : c.Ok) {n : Int} (n0 : -1 ≤ n) (n1 : n < 8) : (c.told n).Ok := by
  unfold Ch.told
  split
  · exact h
  · have p := by_pw (n := n) (by omega) n1
    split
    · exact ⟨h.up, by_andNot h.asks p, h.srv, h.msk, h.base, h.b8, h.due⟩
    · exact ⟨h.up, by_andNot h.asks p, by_or h.srv p, h.msk, h.base, h.b8, h.due⟩

theorem M2.Ok.settle {m : M2} (h : m.Ok) : m.settle.Ok := by
  have f : By 4 := by_lit 4 (by decide) (by decide)
  refine ⟨⟨h.a.up, ?_, h.a.srv, h.a.msk, h.a.base, h.a.b8, h.a.due⟩, h.b⟩
  show By (if _ then _ else _)
  split
  · exact by_andNot h.a.asks f
  · exact by_or (by_andNot h.a.asks f) f

end Go.Proofs.Ytfpgijdfbgfkcaa
