/- What it means that a world holds the three counters. -/
import Derived.Test.YteodnlloilmoaaaGrow
import Derived.Test.YteodnlloilmoaaaPtMath
import Derived.MapKept
namespace Go.Proofs.Yteodnlloilmoaaa
open Go.ChangeShapes Go.WideShapes Go.ChangeAt Go.RowKit
set_option linter.unusedVariables false

/-- Outside the blocks of S the world is as it was. -/
structure Kp (S : Nat → Prop) (w w' : World) : Prop where
  os : w'.os = w.os
  tape : w'.tape = w.tape
  output : w'.output = w.output
  size : w.heap.size ≤ w'.heap.size
  block : ∀ k, k < w.heap.size → ¬ S k → w'.heap[k]? = w.heap[k]?

theorem Kp.refl (S : Nat → Prop) (w : World) : Kp S w w := ⟨rfl, rfl, rfl, Nat.le_refl _, fun _ _ _ => rfl⟩

theorem Kp.trans {S : Nat → Prop} {a b c : World} (h : Kp S a b) (k : Kp S b c) : Kp S a c :=
  ⟨k.os.trans h.os, k.tape.trans h.tape, k.output.trans h.output, Nat.le_trans h.size k.size, fun i hi hs => (k.block i (Nat.lt_of_lt_of_le hi h.size) hs).trans (h.block i hi hs)⟩

theorem Kp.mono {S T : Nat → Prop} {a b : World} (h : Kp S a b) (hST : ∀ k, k < a.heap.size → S k → T k) : Kp T a b :=
  ⟨h.os, h.tape, h.output, h.size, fun i hi hs => h.block i hi (fun g => hs (hST i hi g))⟩

theorem Kp.alloc (S : Nat → Prop) (w : World) (o : Obj) : Kp S w (w.alloc o) :=
  ⟨rfl, rfl, rfl, by simp, fun k hk _ => Below.heap_alloc _ _ _ hk⟩

theorem Kp.setCell {S : Nat → Prop} (w : World) {p : Addr} (hp : S p.block) (u : Value) : Kp S w (w.setCell p u) :=
  ⟨rfl, rfl, rfl, by simp [World.setCell], fun k hk hs => Below.heap_setCell _ _ _ _ (fun e => hs (e ▸ hp))⟩

theorem Kp.drew {S : Nat → Prop} {w w' : World} (h : Kp S w w') : Kp S w w'.drew := ⟨h.os, h.tape, h.output, h.size, h.block⟩
theorem Kp.drewN {S : Nat → Prop} {w w' : World} (h : Kp S w w') (n : Nat) : Kp S w (w'.drewN n) := ⟨h.os, h.tape, h.output, h.size, h.block⟩

/-- Kp over another set, where that set's old blocks are in the first. -/
theorem Kp.over {S T : Nat → Prop} {a b c : World} (h : Kp T a b) (k : Kp S b c) (hS : ∀ j, j < a.heap.size → S j → T j) : Kp T a c :=
  ⟨k.os.trans h.os, k.tape.trans h.tape, k.output.trans h.output, Nat.le_trans h.size k.size, fun i hi hs => (k.block i (Nat.lt_of_lt_of_le hi h.size) (fun g => hs (hS i hi g))).trans (h.block i hi hs)⟩

theorem Kp.below {S : Nat → Prop} {w w' : World} {B : Nat} (h : Kp S w w') (hB : B ≤ w.heap.size) (hS : ∀ k, S k → B ≤ k) : Below B w w' :=
  ⟨h.os, h.tape, h.output, h.size, fun k hk => h.block k (by omega) (fun g => by have := hS k g; omega)⟩

theorem heap_lt {w : World} {b : Nat} {o : Obj} (h : w.heap[b]? = some o) : b < w.heap.size := (Array.getElem?_eq_some_iff.1 h).1

theorem heap_kept {S : Nat → Prop} {w w' : World} {b : Nat} {o : Obj} (h : w.heap[b]? = some o) (k : Kp S w w') (hS : ¬ S b) : w'.heap[b]? = some o := (k.block b (heap_lt h) hS).trans h

theorem heap_set {w : World} {b k : Nat} {v : Value} {c : Array Value} {t : TypeId} {fr : Nat × Nat} (h : w.heap[b]? = some (.cells c t fr)) : (w.setCell ⟨b, k, none⟩ v).heap[b]? = some (.cells (c.setIfInBounds k v) t fr) := by
  simp [World.setCell, Array.getElem?_modify, h]

def noB (_ : Nat) : Prop := False
def isB (B k : Nat) : Prop := k = B

theorem Kp.any {S : Nat → Prop} {w w' : World} (h : Kp noB w w') : Kp S w w' := h.mono fun _ _ f => f.elim

theorem kpB (B : Nat) (w : World) (k : Nat) (v : Value) : Kp (isB B) w (w.setCell ⟨B, k, none⟩ v) := Kp.setCell (S := isB B) w (p := ⟨B, k, none⟩) rfl v

theorem heap_new (w : World) (o : Obj) : (w.alloc o).heap[w.heap.size]? = some o := (MapKept.heap_alloc w o).1

def cnC (c : Cn) : Array Value := #[.int .u8 c.mode, .int .u8 c.how, .int .u16 c.len, .int .u64 c.began, .bool c.st, .int .u8 c.fst, .bool c.wants, .bool c.upper, .int .u16 c.held, .bool c.holds]

structure PAt (w : World) (B : Nat) (f : Nat → Cn) : Prop where
  blk : ∃ cs, w.heap[B]? = some (.cells cs 48 (0, 0)) ∧ cs.size = 30 ∧ ∀ i k, i < 3 → k < 10 → cs[10 * i + k]? = (cnC (f i))[k]?

theorem PAt.kept {S : Nat → Prop} {w w' : World} {B : Nat} {f : Nat → Cn} (h : PAt w B f) (k : Kp S w w') (hS : ¬ S B) : PAt w' B f := by
  obtain ⟨cs, a, b⟩ := h.blk
  exact ⟨cs, heap_kept a k hS, b⟩

/-- One counter, the i-th, at o. -/
structure CAt (w : World) (B o : Nat) (f : Nat → Cn) (i : Nat) (c : Cn) : Prop where
  pit : PAt w B (upd f i c)
  hi : i < 3
  ho : o = 10 * i

theorem CAt.kept {S : Nat → Prop} {w w' : World} {B o : Nat} {f : Nat → Cn} {i : Nat} {c : Cn} (h : CAt w B o f i c) (k : Kp S w w') (hS : ¬ S B) : CAt w' B o f i c := ⟨h.pit.kept k hS, h.hi, h.ho⟩

section
variable {w : World} {B o : Nat} {f : Nat → Cn} {i : Nat} {c : Cn}

theorem CAt.cell (h : CAt w B o f i c) {k : Nat} (hk : k < 10) {v : Value} (e : (cnC c)[k]? = some v) : w.cell? ⟨B, o + k, none⟩ = some v := by
  obtain ⟨cs, a, b, d⟩ := h.pit.blk
  have := d i k h.hi hk
  rw [upd_at] at this
  rw [h.ho]
  simp [World.cell?, a, this, e]

theorem CAt.c0 (h : CAt w B o f i c) : w.cell? ⟨B, o, none⟩ = some (.int .u8 c.mode) := h.cell (k := 0) (by decide) rfl
theorem CAt.c1 (h : CAt w B o f i c) : w.cell? ⟨B, o + 1, none⟩ = some (.int .u8 c.how) := h.cell (k := 1) (by decide) rfl
theorem CAt.c2 (h : CAt w B o f i c) : w.cell? ⟨B, o + 2, none⟩ = some (.int .u16 c.len) := h.cell (k := 2) (by decide) rfl
theorem CAt.c3 (h : CAt w B o f i c) : w.cell? ⟨B, o + 3, none⟩ = some (.int .u64 c.began) := h.cell (k := 3) (by decide) rfl
theorem CAt.c4 (h : CAt w B o f i c) : w.cell? ⟨B, o + 4, none⟩ = some (.bool c.st) := h.cell (k := 4) (by decide) rfl
theorem CAt.c5 (h : CAt w B o f i c) : w.cell? ⟨B, o + 5, none⟩ = some (.int .u8 c.fst) := h.cell (k := 5) (by decide) rfl
theorem CAt.c6 (h : CAt w B o f i c) : w.cell? ⟨B, o + 6, none⟩ = some (.bool c.wants) := h.cell (k := 6) (by decide) rfl
theorem CAt.c7 (h : CAt w B o f i c) : w.cell? ⟨B, o + 7, none⟩ = some (.bool c.upper) := h.cell (k := 7) (by decide) rfl
theorem CAt.c8 (h : CAt w B o f i c) : w.cell? ⟨B, o + 8, none⟩ = some (.int .u16 c.held) := h.cell (k := 8) (by decide) rfl
theorem CAt.c9 (h : CAt w B o f i c) : w.cell? ⟨B, o + 9, none⟩ = some (.bool c.holds) := h.cell (k := 9) (by decide) rfl
theorem CAt.fz (h : CAt w B o f i c) (j : Nat) : w.frozen? ⟨B, j, none⟩ = false := by
  obtain ⟨cs, a, b, d⟩ := h.pit.blk
  simp [World.frozen?, a]
theorem CAt.lt (h : CAt w B o f i c) : B < w.heap.size := by
  obtain ⟨cs, a, b, d⟩ := h.pit.blk
  exact heap_lt a
theorem PAt.lt (h : PAt w B f) : B < w.heap.size := by
  obtain ⟨cs, a, b, d⟩ := h.blk
  exact heap_lt a
theorem CAt.drewN (h : CAt w B o f i c) (n : Nat) : CAt (w.drewN n) B o f i c := h.kept ((Kp.refl noB _).drewN n) id
theorem CAt.drew (h : CAt w B o f i c) : CAt w.drew B o f i c := h.kept ((Kp.refl noB _).drew) id
theorem CAt.alloc (h : CAt w B o f i c) (b : Obj) : CAt (w.alloc b) B o f i c := h.kept (Kp.alloc noB _ _) id

theorem CAt.set (h : CAt w B o f i c) {k : Nat} (hk : k < 10) (v : Value) (c' : Cn) (e : (cnC c).setIfInBounds k v = cnC c') : CAt (w.setCell ⟨B, o + k, none⟩ v) B o f i c' := by
  obtain ⟨cs, a, b, d⟩ := h.pit.blk
  have hi := h.hi
  have ho := h.ho
  refine ⟨⟨_, heap_set a, by simp [b], ?_⟩, h.hi, h.ho⟩
  intro j l hj hl
  subst ho
  by_cases ej : j = i
  · subst ej
    rw [upd_at, ← e]
    have := d j l hj hl
    rw [upd_at] at this
    by_cases el : l = k
    · subst el
      rw [Array.getElem?_setIfInBounds_self, Array.getElem?_setIfInBounds_self]
      have s1 : (cnC c).size = 10 := rfl
      rw [if_pos (by omega), if_pos (by omega)]
    · rw [Array.getElem?_setIfInBounds_ne (by omega), Array.getElem?_setIfInBounds_ne (by omega)]
      exact this
  · rw [upd_ne _ _ ej, Array.getElem?_setIfInBounds_ne (by omega)]
    have := d j l hj hl
    rw [upd_ne _ _ ej] at this
    exact this

theorem CAt.set0 (h : CAt w B o f i c) (v : Value) (c' : Cn) (e : (cnC c).setIfInBounds 0 v = cnC c') : CAt (w.setCell ⟨B, o, none⟩ v) B o f i c' := h.set (k := 0) (by decide) v c' e
end
end Go.Proofs.Yteodnlloilmoaaa
