/- The serial port, as plain numbers and lists: no Go in sight. -/
import Derived.Test.YtafnlaamfpjolaaAluSpec
namespace Go.Proofs.Ytafnlaamfpjolaa
open Go.RowKit
set_option linter.unusedVariables false

structure U where
  came : List Int
  lost : Bool
  tell : Bool
  on : Bool
  d0 : Int
  d1 : Int
  want : Int
  line : Int
  modem : Int
  jot : Int
  sent : List Int

def U.lat (u : U) : Bool := decide (128 ≤ u.line)
def U.there (u : U) : Bool := decide (0 < u.came.length)
def b0 (v : Int) : Bool := v % 2 == 1
def b1 (v : Int) : Bool := v / 2 % 2 == 1

def U.why (u : U) : Int := if (u.there && b0 u.want) = true then 4 else if (u.tell && b1 u.want) = true then 2 else 1

def U.wants (u : U) (v : Int) : U := { u with tell := u.tell || (b1 v && !b1 u.want), want := v }
def U.turn (u : U) (v : Int) : U := { u with came := if (b1 v || (b0 v != u.on)) = true then [] else u.came, on := b0 v }
def U.send (u : U) (v : Int) : U := { u with sent := u.sent ++ [v], tell := true }

def U.out (u : U) (n v : Int) : U :=
  if n = 0 then (if u.lat = true then { u with d0 := v } else u.send v)
  else if n = 1 then (if u.lat = true then { u with d1 := v } else u.wants (v % 16))
  else if n = 2 then u.turn v
  else if n = 3 then { u with line := v }
  else if n = 4 then { u with modem := v % 32 }
  else if n = 7 then { u with jot := v }
  else u

def U.first (u : U) : Int := u.came.headD 0
def U.took (u : U) : U := { u with came := u.came.tail }
def U.status (u : U) : Int := 96 + (if u.there = true then 1 else 0) + (if u.lost = true then 2 else 0)
def U.told (u : U) : Int := u.why + (if u.on = true then 192 else 0)
def U.telling (u : U) : U := if u.why = 2 then { u with tell := false } else u

def U.inV (u : U) (n : Int) : Int :=
  if n = 0 then (if u.lat = true then u.d0 else u.first)
  else if n = 1 then (if u.lat = true then u.d1 else u.want)
  else if n = 2 then u.told
  else if n = 3 then u.line
  else if n = 4 then u.modem
  else if n = 5 then u.status
  else if n = 6 then 176
  else u.jot

def U.inn (u : U) (n : Int) : U :=
  if n = 0 then (if u.lat = true then u else u.took)
  else if n = 2 then u.telling
  else if n = 5 then { u with lost := false }
  else u

def U.room (u : U) : Nat := if u.on = true then 16 else 1
def U.push (u : U) (b : Int) : U := if u.came.length < u.room then { u with came := u.came ++ [b] } else { u with lost := true }
def U.hush (u : U) : U := { u with sent := [] }
def U.ln (u : U) : Bool := u.why != 1

def u0 : U := ⟨[], false, false, false, 0, 0, 0, 0, 0, 0, []⟩

def By (x : Int) : Prop := 0 ≤ x ∧ x < 256

structure U.Ok (u : U) : Prop where
  d0 : By u.d0
  d1 : By u.d1
  want : 0 ≤ u.want ∧ u.want < 16
  line : By u.line
  modem : By u.modem
  jot : By u.jot
  came : ∀ b, b ∈ u.came → By b
  few : u.came.length ≤ u.room
  sent : ∀ b, b ∈ u.sent → By b

theorem by_0 : By 0 := ⟨by decide, by decide⟩
theorem u0_ok : u0.Ok := ⟨by_0, by_0, by decide, by_0, by_0, by_0, (by intro b h; cases h), by decide, (by intro b h; cases h)⟩

theorem U.Ok.out {u : U} (h : u.Ok) (n : Int) {v : Int} (hv : By v) : (u.out n v).Ok := by
  obtain ⟨v0, v1⟩ := hv
  unfold U.out
  split
  · split
    · exact { h with d0 := ⟨v0, v1⟩ }
    · refine { h with sent := ?_ }
      intro b hb
      rcases List.mem_append.1 hb with g | g
      · exact h.sent b g
      · rw [List.mem_singleton.1 g]; exact ⟨v0, v1⟩
  · split
    · split
      · exact { h with d1 := ⟨v0, v1⟩ }
      · exact { h with want := ⟨by show 0 ≤ v % 16; omega, by show v % 16 < 16; omega⟩ }
    · split
      · unfold U.turn
        by_cases g : (b1 v || (b0 v != u.on)) = true
        · simp only [g, if_true]
          exact { h with came := (fun b hb => nomatch hb), few := Nat.zero_le _ }
        · have e : b0 v = u.on := by
            simp only [Bool.or_eq_true, bne_iff_ne, ne_eq, not_or, Decidable.not_not] at g
            exact g.2
          rw [if_neg g, e]
          exact h
      · split
        · exact { h with line := ⟨v0, v1⟩ }
        · split
          · exact { h with modem := ⟨by show 0 ≤ v % 32; omega, by show v % 32 < 256; omega⟩ }
          · split
            · exact { h with jot := ⟨v0, v1⟩ }
            · exact h

theorem U.Ok.inn {u : U} (h : u.Ok) (n : Int) : (u.inn n).Ok := by
  unfold U.inn
  split
  · split
    · exact h
    · refine { h with came := (fun b hb => h.came b (List.mem_of_mem_tail hb)), few := ?_ }
      have := h.few
      show u.came.tail.length ≤ u.room
      rw [List.length_tail]
      omega
  · split
    · unfold U.telling
      split
      · exact { h with }
      · exact h
    · split
      · exact { h with }
      · exact h

theorem U.Ok.push {u : U} (h : u.Ok) {b : Int} (hb : By b) : (u.push b).Ok := by
  unfold U.push
  split
  · rename_i g
    refine { h with came := ?_, few := ?_ }
    · intro x hx
      rcases List.mem_append.1 hx with k | k
      · exact h.came x k
      · rw [List.mem_singleton.1 k]; exact hb
    · show (u.came ++ [b]).length ≤ u.room
      rw [List.length_append, List.length_singleton]
      omega
  · exact { h with }

theorem U.Ok.hush {u : U} (h : u.Ok) : u.hush.Ok := { h with sent := (fun b hb => nomatch hb) }

theorem U.Ok.few16 {u : U} (h : u.Ok) : u.came.length ≤ 16 := by
  have := h.few
  unfold U.room at this
  split at this <;> omega
end Go.Proofs.Ytafnlaamfpjolaa
