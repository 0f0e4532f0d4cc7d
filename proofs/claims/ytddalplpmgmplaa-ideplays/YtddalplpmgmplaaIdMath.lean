/- The disk, as plain numbers and lists: no Go in sight. -/
import Derived.Test.YtddalplpmgmplaaAluSpec
namespace Go.Proofs.Ytddalplpmgmplaa
open Go.RowKit
set_option linter.unusedVariables false

structure Id where
  n : Nat
  D : Nat → Int
  r1 : Int
  r2 : Int
  r3 : Int
  r4 : Int
  r5 : Int
  r6 : Int
  c : Int
  buf : Nat → Int
  don : Nat
  mode : Int
  mark : Bool
  failed : Bool
  log : List Int

def byt (x : Int) : Prop := 0 ≤ x ∧ x < 256

structure Id.Ok (d : Id) : Prop where
  few : d.n ≤ 64
  D : ∀ i, i < 512 * d.n → byt (d.D i)
  r1 : byt d.r1
  r2 : byt d.r2
  r3 : byt d.r3
  r4 : byt d.r4
  r5 : byt d.r5
  r6 : byt d.r6
  c : byt d.c
  buf : ∀ i, i < 512 → byt (d.buf i)
  don : d.don < 512
  mode : d.mode = 0 ∨ d.mode = 1 ∨ d.mode = 2 ∨ d.mode = 3

def Id.off (d : Id) : Bool := d.r6 / 16 % 2 == 1
def Id.meant (d : Id) : Bool := d.r6 / 64 % 2 == 1
def Id.place (d : Id) : Int := d.r3 + d.r4 * 256 + d.r5 * 65536 + d.r6 % 16 * 16777216
def Id.there (d : Id) : Bool := decide (d.place + 1 ≤ d.n)
def Id.at (d : Id) : Nat := d.place.toNat * 512

def Id.fresh (d : Id) : Id := { d with r1 := 1, r2 := 1, r3 := 1, r4 := 0, r5 := 0, r6 := 0, mode := 0, don := 0, mark := false, failed := false }
def Id.fail (d : Id) (e : Int) : Id := { d with r1 := e, failed := true, mode := 0, mark := true }

/-- A sector is read, or to be written. -/
def Id.begin (d : Id) (m : Int) : Id :=
  if d.there = true then (if m = 1 then { d with mode := m, don := 0, buf := fun i => d.D (d.at + i), mark := true } else { d with mode := m, don := 0 })
  else d.fail 16

/-- What EC tells. -/
def ecB (n : Nat) (i : Nat) : Int := if i = 0 then 64 else if i = 99 then 2 else if i = 120 then n % 256 else 0

def Id.clear (d : Id) : Id := { d with mark := false, r1 := 0, failed := false, mode := 0 }

def Id.command (d : Id) (k : Int) : Id :=
  if d.off = true then d
  else if k = 32 ∨ k = 33 ∨ k = 48 ∨ k = 49 then
    (if d.meant = true then (if k < 48 then d.clear.begin 1 else d.clear.begin 2) else d.clear.fail 4)
  else if k = 236 then { d.clear with buf := ecB d.n, mode := 3, don := 0, mark := true }
  else if k = 231 ∨ k = 145 then { d.clear with mark := true }
  else d.clear.fail 4

/-- The place is one more, the count one less. -/
def Id.next (d : Id) : Id :=
  { d with r3 := (d.place + 1) % 256, r4 := (d.place + 1) / 256 % 256, r5 := (d.place + 1) / 65536 % 256, r6 := d.r6 - d.r6 % 16 + (d.place + 1) / 16777216 % 16, r2 := (d.r2 - 1) % 256 }

/-- One is done. -/
def Id.one (d : Id) : Id := if d.next.r2 = 0 then { d.next with mode := 0 } else d.next.begin d.mode

/-- A sector is laid. -/
def Id.lay (d : Id) : Id := { d with D := fun i => if d.at ≤ i ∧ i < d.at + 512 then d.buf (i - d.at) else d.D i, log := d.log ++ [d.place] }

def setB (f : Nat → Int) (k : Nat) (x : Int) : Nat → Int := fun i => if i = k then x else f i

def Id.put (d : Id) (b : Int) : Id :=
  if d.mode = 2 then
    (if d.don + 1 < 512 then { d with buf := setB d.buf d.don b, don := d.don + 1 }
     else if d.there = true then { (({ d with buf := setB d.buf d.don b, don := 0 } : Id).lay.one) with mark := true }
     else ({ d with buf := setB d.buf d.don b, don := 0 } : Id).fail 16)
  else d

def Id.getV (d : Id) : Int := if d.mode = 1 ∨ d.mode = 3 then d.buf d.don else 255
def Id.get (d : Id) : Id :=
  if d.mode = 1 ∨ d.mode = 3 then
    (if d.don + 1 < 512 then { d with don := d.don + 1 }
     else if d.mode = 3 then { d with don := 0, mode := 0 }
     else ({ d with don := 0 } : Id).one)
  else d

/-- So many bytes are written, read. -/
def Id.puts (d : Id) (v : Int) : Nat → Id
  | 0 => d
  | k + 1 => (d.puts v k).put (v / 2 ^ (8 * k) % 256)

def Id.gets (d : Id) : Nat → Id
  | 0 => d
  | k + 1 => (d.gets k).get

def Id.getsV (d : Id) : Nat → Int
  | 0 => 0
  | k + 1 => d.getsV k + (d.gets k).getV * 2 ^ (8 * k)

def Id.ctl (d : Id) (b : Int) : Id := if b / 4 % 2 = 1 then ({ d with c := b } : Id).fresh else { d with c := b }

def Id.out (d : Id) (reg : Int) (size : Nat) (v : Int) : Id :=
  if reg = 0 then (if d.off = true then d else d.puts v size)
  else if reg = 1 then d
  else if reg = 2 then { d with r2 := v % 256 }
  else if reg = 3 then { d with r3 := v % 256 }
  else if reg = 4 then { d with r4 := v % 256 }
  else if reg = 5 then { d with r5 := v % 256 }
  else if reg = 6 then { d with r6 := v % 256 }
  else if reg = 7 then d.command (v % 256)
  else d.ctl (v % 256)

def Id.status (d : Id) : Int := 80 + (if d.mode = 0 then 0 else 8) + (if d.failed = true then 1 else 0)

def Id.inV (d : Id) (reg : Int) (size : Nat) : Int :=
  if d.off = true ∧ reg ≠ 6 then 0
  else if reg = 0 then d.getsV size
  else if reg = 1 then d.r1
  else if reg = 2 then d.r2
  else if reg = 3 then d.r3
  else if reg = 4 then d.r4
  else if reg = 5 then d.r5
  else if reg = 6 then d.r6
  else d.status

def Id.inn (d : Id) (reg : Int) (size : Nat) : Id :=
  if d.off = true then d
  else if reg = 0 then d.gets size
  else if reg = 7 then { d with mark := false }
  else d

def Id.line (d : Id) : Bool := d.mark && !(d.c / 2 % 2 == 1)
def Id.told (d : Id) : Id := { d with log := [] }

/-- A new one. -/
def id0 (n : Nat) (D : Nat → Int) : Id := ⟨n, D, 1, 1, 1, 0, 0, 0, 0, fun _ => 0, 0, 0, false, false, []⟩

theorem byt_m {v : Int} : byt (v % 256) := ⟨by omega, by omega⟩

theorem byt0 : byt 0 := ⟨by decide, by decide⟩
theorem byt1 : byt 1 := ⟨by decide, by decide⟩

theorem id0_ok {n : Nat} {D : Nat → Int} (h : n ≤ 64) (hD : ∀ i, i < 512 * n → byt (D i)) : (id0 n D).Ok :=
  ⟨h, hD, byt1, byt1, byt1, byt0, byt0, byt0, byt0, fun _ _ => byt0, Nat.zero_lt_succ _, .inl rfl⟩

section
variable {d : Id}

theorem Id.Ok.place (h : d.Ok) : 0 ≤ d.place ∧ d.place < 268435456 := by
  have h3 := h.r3; have h4 := h.r4; have h5 := h.r5; have h6 := h.r6
  unfold byt at h3 h4 h5 h6
  unfold Id.place
  omega

theorem Id.Ok.at (h : d.Ok) (ht : d.there = true) : d.at + 512 ≤ 512 * d.n := by
  have hp := h.place
  unfold Id.there at ht
  rw [decide_eq_true_eq] at ht
  unfold Id.at
  omega

theorem Id.Ok.fail (h : d.Ok) {e : Int} (he : byt e) : (d.fail e).Ok := { h with r1 := he, mode := .inl rfl }
theorem Id.Ok.fresh (h : d.Ok) : d.fresh.Ok := { h with r1 := byt1, r2 := byt1, r3 := byt1, r4 := byt0, r5 := byt0, r6 := byt0, don := by show 0 < 512; decide, mode := .inl rfl }
theorem Id.Ok.clear (h : d.Ok) : d.clear.Ok := { h with r1 := byt0, mode := .inl rfl }
theorem Id.Ok.next (h : d.Ok) : d.next.Ok := by
  have h6 := h.r6
  unfold byt at h6
  exact { h with r3 := byt_m, r4 := byt_m, r5 := byt_m, r6 := ⟨by show 0 ≤ d.r6 - d.r6 % 16 + (d.place + 1) / 16777216 % 16; omega, by show d.r6 - d.r6 % 16 + (d.place + 1) / 16777216 % 16 < 256; omega⟩, r2 := byt_m }

theorem Id.Ok.begin (h : d.Ok) {m : Int} (hm : m = 1 ∨ m = 2 ∨ m = 3) : (d.begin m).Ok := by
  unfold Id.begin
  split
  · rename_i ht
    have ha := h.at ht
    split
    · exact { h with buf := (fun i hi => h.D _ (by omega)), don := (by show 0 < 512; decide), mode := .inr hm }
    · exact { h with don := (by show 0 < 512; decide), mode := .inr hm }
  · exact h.fail ⟨by decide, by decide⟩

theorem Id.Ok.command (h : d.Ok) (k : Int) : (d.command k).Ok := by
  unfold Id.command
  split
  · exact h
  · split
    · split
      · split
        · exact h.clear.begin (.inl rfl)
        · exact h.clear.begin (.inr (.inl rfl))
      · exact h.clear.fail ⟨by decide, by decide⟩
    · split
      · have hn := h.few
        refine { h.clear with buf := (fun i hi => ?_), don := (by show 0 < 512; decide), mode := .inr (.inr (.inr rfl)) }
        show byt (ecB d.n i)
        unfold ecB byt
        split
        · decide
        · split
          · decide
          · split
            · omega
            · decide
      · split
        · exact { h.clear with }
        · exact h.clear.fail ⟨by decide, by decide⟩

theorem Id.Ok.one (h : d.Ok) (hm : d.mode = 1 ∨ d.mode = 2 ∨ d.mode = 3) : d.one.Ok := by
  unfold Id.one
  split
  · exact { h.next with mode := .inl rfl }
  · exact h.next.begin hm

theorem Id.Ok.setB (h : d.Ok) {b : Int} (hb : byt b) (k : Nat) {n : Nat} (hn : n < 512) : ({ d with buf := Go.Proofs.Ytddalplpmgmplaa.setB d.buf k b, don := n } : Id).Ok := { h with
  buf := (fun i hi => by
    show byt (if i = k then b else d.buf i)
    split
    · exact hb
    · exact h.buf i hi)
  don := hn }

theorem Id.Ok.lay (h : d.Ok) (ht : d.there = true) : d.lay.Ok := { h with
  D := (fun i hi => by
    show byt (if d.at ≤ i ∧ i < d.at + 512 then d.buf (i - d.at) else d.D i)
    split
    · exact h.buf _ (by omega)
    · exact h.D i hi) }

theorem Id.Ok.put (h : d.Ok) {b : Int} (hb : byt b) : (d.put b).Ok := by
  unfold Id.put
  split
  · rename_i hm
    split
    · rename_i hd
      exact h.setB hb _ hd
    · split
      · rename_i ht
        have h1 := h.setB hb d.don (n := 0) (by decide)
        have h2 : ({ d with buf := Go.Proofs.Ytddalplpmgmplaa.setB d.buf d.don b, don := 0 } : Id).lay.Ok := h1.lay ht
        have h3 := h2.one (.inr (.inl hm))
        exact { h3 with }
      · exact (h.setB hb d.don (n := 0) (by decide)).fail ⟨by decide, by decide⟩
  · exact h

theorem Id.Ok.get (h : d.Ok) : d.get.Ok := by
  unfold Id.get
  split
  · rename_i hm
    split
    · rename_i hd
      exact { h with don := hd }
    · split
      · exact { h with don := (by show 0 < 512; decide), mode := .inl rfl }
      · rename_i h3
        have h1 : ({ d with don := 0 } : Id).Ok := { h with don := (by show 0 < 512; decide) }
        exact h1.one (.inl (hm.resolve_right h3))
  · exact h

theorem Id.Ok.puts (h : d.Ok) (v : Int) : ∀ k, (d.puts v k).Ok
  | 0 => h
  | k + 1 => (h.puts v k).put byt_m

theorem Id.Ok.gets (h : d.Ok) : ∀ k, (d.gets k).Ok
  | 0 => h
  | k + 1 => (h.gets k).get

theorem Id.Ok.getV (h : d.Ok) : byt d.getV := by
  unfold Id.getV
  split
  · exact h.buf _ h.don
  · exact ⟨by decide, by decide⟩

theorem Id.Ok.out (h : d.Ok) (reg : Int) (size : Nat) (v : Int) : (d.out reg size v).Ok := by
  unfold Id.out
  split
  · split
    · exact h
    · exact h.puts v size
  · split
    · exact h
    · split
      · exact { h with r2 := byt_m }
      · split
        · exact { h with r3 := byt_m }
        · split
          · exact { h with r4 := byt_m }
          · split
            · exact { h with r5 := byt_m }
            · split
              · exact { h with r6 := byt_m }
              · split
                · exact h.command _
                · unfold Id.ctl
                  have h1 : ({ d with c := v % 256 } : Id).Ok := { h with c := byt_m }
                  split
                  · exact h1.fresh
                  · exact h1

theorem Id.Ok.inn (h : d.Ok) (reg : Int) (size : Nat) : (d.inn reg size).Ok := by
  unfold Id.inn
  split
  · exact h
  · split
    · exact h.gets size
    · split
      · exact { h with }
      · exact h

theorem Id.Ok.told (h : d.Ok) : d.told.Ok := { h with }
end
end Go.Proofs.Ytddalplpmgmplaa
