/- The document's counter against the code's: what is told is the same, and they stay alike. -/
import Derived.Test.YteodnlloilmoaaaRtBase
namespace Go.Proofs.Yteodnlloilmoaaa
open Go.RowKit
set_option linter.unusedVariables false

structure Rel (r : RC) (c : Cn) : Prop where
  mode : r.mode = c.mode
  how : r.how = c.how
  len : r.len = c.whole
  began : c.st = false → r.began = c.began
  st : r.st = c.st
  wants : r.wants = c.wants
  fst : c.wants = true → r.fst = c.fst
  upper : r.upper = c.upper
  held : r.held = c.holds
  value : c.holds = true → r.value = c.held
  only : c.how ≠ 3 → c.wants = false

theorem Rel.val {r : RC} {c : Cn} (h : Rel r c) (k : c.Ok) (now : Int) : r.val now = c.value now := by
  have e : c.st = false → r.steps now = c.steps now := fun s => by unfold RC.steps Cn.steps; rw [h.began s]
  unfold RC.val Cn.value
  rw [h.st, h.mode, h.len]
  cases s : c.st
  · rw [e s]
    simp only [Bool.false_eq_true, if_false]
    have e0 : (c.whole + 65536 - c.steps now % 65536) % 65536 = (c.whole - c.steps now) % 65536 := by omega
    rw [e0]
  · rfl

theorem Rel.line {r : RC} {c : Cn} (h : Rel r c) (now : Int) : r.line now = c.line now := by
  have e : c.st = false → r.steps now = c.steps now := fun s => by unfold RC.steps Cn.steps; rw [h.began s]
  unfold RC.line Cn.line
  rw [h.st, h.mode, h.len]
  cases s : c.st
  · rw [e s]
  · rfl

theorem Rel.holdT {r : RC} {c : Cn} (h : Rel r c) (now : Int) (e : r.held = true) : Rel r (c.hold now) := by
  have e' : c.holds = true := h.held ▸ e
  unfold Cn.hold
  rw [if_pos e']
  exact h

theorem Rel.holdF {r : RC} {c : Cn} (h : Rel r c) (k : c.Ok) (now : Int) (e : r.held = false) : Rel ⟨r.mode, r.how, r.len, r.began, r.st, r.wants, r.fst, r.upper, true, r.val now⟩ (c.hold now) := by
  have e' : c.holds = false := h.held ▸ e
  unfold Cn.hold
  rw [e', if_neg (by decide)]
  exact ⟨h.mode, h.how, h.len, h.began, h.st, h.wants, h.fst, h.upper, rfl, fun _ => h.val k now, h.only⟩

theorem Rel.set {r : RC} {c : Cn} (h : Rel r c) (b m : Int) : Rel ⟨md m, b, r.len, r.began, true, false, r.fst, b == 2, false, r.value⟩ (c.setUp b m) :=
  ⟨rfl, rfl, h.len, fun e => (by cases e), rfl, rfl, fun e => (by cases e), rfl, rfl, fun e => (by cases e), fun _ => rfl⟩

theorem Rel.first {r : RC} {c : Cn} (h : Rel r c) (v now : Int) (h3 : r.how = 3) (hw : r.wants = false) : Rel ⟨r.mode, r.how, r.len, r.began, r.st, true, v, r.upper, r.held, r.value⟩ (c.write v now) := by
  have e3 : c.how = 3 := h.how ▸ h3
  have ew : c.wants = false := h.wants ▸ hw
  have eX : c.write v now = { c with fst := v, wants := true } := by
    unfold Cn.write
    rw [if_neg (by omega), if_neg (by omega), ew, if_neg (by decide)]
  rw [eX]
  exact ⟨h.mode, h.how, h.len, h.began, h.st, rfl, fun _ => rfl, h.upper, h.held, h.value, fun e => absurd e3 e⟩

theorem Rel.beg {r : RC} {c : Cn} (h : Rel r c) (l L now : Int) (hL : L = if l = 0 then 65536 else l) : Rel ⟨r.mode, r.how, L, now, false, false, r.fst, r.upper, r.held, r.value⟩ ({ c with wants := false }.begin l now) :=
  ⟨h.mode, h.how, hL, fun _ => rfl, rfl, rfl, fun e => (by cases e), h.upper, h.held, h.value, fun _ => rfl⟩

theorem Rel.w1 {r : RC} {c : Cn} (h : Rel r c) (v now L : Int) (h1 : r.how = 1) (hL : L = if v = 0 then 65536 else v) : Rel ⟨r.mode, r.how, L, now, false, false, r.fst, r.upper, r.held, r.value⟩ (c.write v now) := by
  have e1 : c.how = 1 := h.how ▸ h1
  have ew : c.wants = false := h.only (by omega)
  have eX : c.write v now = { c with wants := false }.begin v now := by
    unfold Cn.write
    rw [if_pos e1]
    unfold Cn.begin
    rw [ew]
  rw [eX]
  exact h.beg v L now hL

theorem Rel.w2 {r : RC} {c : Cn} (h : Rel r c) (v now L : Int) (h1 : r.how = 2) (hL : L = if v * 256 = 0 then 65536 else v * 256) : Rel ⟨r.mode, r.how, L, now, false, false, r.fst, r.upper, r.held, r.value⟩ (c.write v now) := by
  have e1 : c.how = 2 := h.how ▸ h1
  have ew : c.wants = false := h.only (by omega)
  have eX : c.write v now = { c with wants := false }.begin (v * 256) now := by
    unfold Cn.write
    rw [if_neg (by omega), if_pos e1]
    unfold Cn.begin
    rw [ew]
  rw [eX]
  exact h.beg (v * 256) L now hL

theorem Rel.w3 {r : RC} {c : Cn} (h : Rel r c) (v now L : Int) (h1 : r.how = 3) (hw : r.wants = true) (hL : L = if v * 256 + r.fst = 0 then 65536 else v * 256 + r.fst) : Rel ⟨r.mode, r.how, L, now, false, false, r.fst, r.upper, r.held, r.value⟩ (c.write v now) := by
  have e1 : c.how = 3 := h.how ▸ h1
  have ew : c.wants = true := h.wants ▸ hw
  have eX : c.write v now = { c with wants := false }.begin (v * 256 + c.fst) now := by
    unfold Cn.write
    rw [if_neg (by omega), if_neg (by omega), if_pos ew]
  rw [eX]
  rw [h.fst ew] at hL
  exact h.beg (v * 256 + c.fst) L now hL

theorem Rel.read {r : RC} {c : Cn} (h : Rel r c) (k : c.Ok) (u d : Bool) (hu : u = if r.how = 3 then !r.upper else r.upper) (hd : d = if ¬ r.how = 3 ∨ r.upper = true then false else r.held) : Rel ⟨r.mode, r.how, r.len, r.began, r.st, r.wants, r.fst, u, d, r.value⟩ c.read := by
  have hh := k.how
  have u1 := k.up
  have u2 := k.up2
  have hd' : d = if c.upper || c.how == 1 then false else c.holds := by
    rw [hd, h.how, h.upper, h.held]
    cases e : c.upper
    · by_cases e1 : c.how = 1
      · simp [e1]
      · by_cases e2 : c.how = 2
        · rw [u2 e2] at e; cases e
        · have e3 : c.how = 3 := by omega
          simp [e3]
    · simp
  refine ⟨h.mode, h.how, h.len, h.began, h.st, h.wants, h.fst, ?_, hd', ?_, h.only⟩
  · show u = if c.how = 3 then !c.upper else c.upper
    rw [hu, h.how, h.upper]
  · intro e
    apply h.value
    have e' : (if c.upper || c.how == 1 then false else c.holds) = true := e
    split at e'
    · cases e'
    · exact e'

theorem Rel.told {r : RC} {c : Cn} (h : Rel r c) (k : c.Ok) (now : Int) : c.told now = if r.upper then (if r.held then r.value else r.val now) / 256 else (if r.held then r.value else r.val now) % 256 := by
  unfold Cn.told Cn.seen
  rw [h.upper, h.held]
  cases e : c.holds
  · simp only [Bool.false_eq_true, if_false]
    rw [h.val k now]
  · simp only [if_true]
    rw [h.value e]

theorem Rel.new : Rel ⟨3, 3, 65536, 0, false, false, 0, false, false, 0⟩ cn0 :=
  ⟨rfl, rfl, rfl, fun _ => rfl, rfl, rfl, fun _ => rfl, rfl, rfl, fun _ => rfl, fun _ => rfl⟩
end Go.Proofs.Yteodnlloilmoaaa
