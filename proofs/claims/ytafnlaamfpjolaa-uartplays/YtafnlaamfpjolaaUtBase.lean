/- What it means that a world holds a serial port. -/
import Derived.Test.YtafnlaamfpjolaaGrow
import Derived.Test.YtafnlaamfpjolaaUtMath
import Derived.MapKept
import Derived.Maps.AppendAt
import Derived.OwnWalk
namespace Go.Proofs.Ytafnlaamfpjolaa
open Go.ChangeShapes Go.WideShapes Go.ChangeAt Go.RowKit
set_option linter.unusedVariables false

/-- Outside the blocks of S the world is as it was. -/
structure Kp (S : Nat → Prop) (w w' : World) : Prop where
  os : w'.os = w.os
  tape : w'.tape = w.tape
  output : w'.output = w.output
  size : w.heap.size ≤ w'.heap.size
  block : ∀ k, k < w.heap.size → ¬ S k → w'.heap[k]? = w.heap[k]?

theorem Kp.refl (S : Nat → Prop) (w : World) : Kp S w w := ⟨rfl, rfl, rfl, Nat.le_refl _, fun _ _ _ => rfl⟩

theorem Kp.trans {S : Nat → Prop} {a b c : World} (h : Kp S a b) (k : Kp S b c) : Kp S a c :=
  ⟨k.os.trans h.os, k.tape.trans h.tape, k.output.trans h.output, Nat.le_trans h.size k.size, fun i hi hs => (k.block i (Nat.lt_of_lt_of_le hi h.size) hs).trans (h.block i hi hs)⟩

theorem Kp.mono {S T : Nat → Prop} {a b : World} (h : Kp S a b) (hST : ∀ k, k < a.heap.size → S k → T k) : Kp T a b :=
  ⟨h.os, h.tape, h.output, h.size, fun i hi hs => h.block i hi (fun g => hs (hST i hi g))⟩

theorem Kp.alloc (S : Nat → Prop) (w : World) (o : Obj) : Kp S w (w.alloc o) :=
  ⟨rfl, rfl, rfl, by simp, fun k hk _ => Below.heap_alloc _ _ _ hk⟩

theorem Kp.setCell {S : Nat → Prop} (w : World) {p : Addr} (hp : S p.block) (u : Value) : Kp S w (w.setCell p u) :=
  ⟨rfl, rfl, rfl, by simp [World.setCell], fun k hk hs => Below.heap_setCell _ _ _ _ (fun e => hs (e ▸ hp))⟩

theorem Kp.drew {S : Nat → Prop} {w w' : World} (h : Kp S w w') : Kp S w w'.drew := ⟨h.os, h.tape, h.output, h.size, h.block⟩
theorem Kp.drewN {S : Nat → Prop} {w w' : World} (h : Kp S w w') (n : Nat) : Kp S w (w'.drewN n) := ⟨h.os, h.tape, h.output, h.size, h.block⟩

/-- Kp over another set, where that set's old blocks are in the first. -/
theorem Kp.over {S T : Nat → Prop} {a b c : World} (h : Kp T a b) (k : Kp S b c) (hS : ∀ j, j < a.heap.size → S j → T j) : Kp T a c :=
  ⟨k.os.trans h.os, k.tape.trans h.tape, k.output.trans h.output, Nat.le_trans h.size k.size, fun i hi hs => (k.block i (Nat.lt_of_lt_of_le hi h.size) (fun g => hs (hS i hi g))).trans (h.block i hi hs)⟩

theorem Kp.below {S : Nat → Prop} {w w' : World} {B : Nat} (h : Kp S w w') (hB : B ≤ w.heap.size) (hS : ∀ k, S k → B ≤ k) : Below B w w' :=
  ⟨h.os, h.tape, h.output, h.size, fun k hk => h.block k (by omega) (fun g => by have := hS k g; omega)⟩

theorem heap_lt {w : World} {b : Nat} {o : Obj} (h : w.heap[b]? = some o) : b < w.heap.size := (Array.getElem?_eq_some_iff.1 h).1

theorem heap_kept {S : Nat → Prop} {w w' : World} {b : Nat} {o : Obj} (h : w.heap[b]? = some o) (k : Kp S w w') (hS : ¬ S b) : w'.heap[b]? = some o := (k.block b (heap_lt h) hS).trans h

theorem heap_set {w : World} {b k : Nat} {v : Value} {c : Array Value} {t : TypeId} {fr : Nat × Nat} (h : w.heap[b]? = some (.cells c t fr)) : (w.setCell ⟨b, k, none⟩ v).heap[b]? = some (.cells (c.setIfInBounds k v) t fr) := by
  simp [World.setCell, Array.getElem?_modify, h]

def noB (_ : Nat) : Prop := False
def isB (B k : Nat) : Prop := k = B

theorem Kp.any {S : Nat → Prop} {w w' : World} (h : Kp noB w w') : Kp S w w' := h.mono fun _ _ f => f.elim

theorem kpB (B : Nat) (w : World) (k : Nat) (v : Value) : Kp (isB B) w (w.setCell ⟨B, k, none⟩ v) := Kp.setCell (S := isB B) w (p := ⟨B, k, none⟩) rfl v

theorem heap_new (w : World) (o : Obj) : (w.alloc o).heap[w.heap.size]? = some o := (MapKept.heap_alloc w o).1

/-- A list of bytes in a block of its own. -/
def OwnB (w : World) (v : Value) (l : List Int) : Prop := w.ownsRow 0 5 1 v l.length (l.map (Value.int .u8))

/-- A channel of at most 16 bytes, or none yet. -/
inductive ChAt (w : World) : Option Nat → List Int → Prop
  | no : ChAt w none []
  | on (c s r : Nat) (l : List Int) (h : w.heap[c]? = some (.chan 16 (l.map (Value.int .u8)).toArray false s r false)) (hl : l.length ≤ 16) : ChAt w (some c) l

theorem ChAt.kept {S : Nat → Prop} {w w' : World} {cv : Option Nat} {l : List Int} (h : ChAt w cv l) (k : Kp S w w') (hS : ∀ c, cv = some c → ¬ S c) : ChAt w' cv l := by
  cases h with
  | no => exact .no
  | on c s r l h hl => exact .on c s r l (heap_kept h k (hS c rfl)) hl

theorem OwnB.kept {S : Nat → Prop} {w w' : World} {v : Value} {l : List Int} (h : OwnB w v l) (k : Kp S w w') (hS : ∀ g, v.ownBlock = some g → ¬ S g) : OwnB w' v l := by
  refine ⟨h.1, ?_⟩
  rcases h.2 with g | ⟨g, cap, cur, rfl, hb, hg, r⟩
  · exact .inl g
  · exact .inr ⟨g, cap, cur, rfl, hb, heap_kept hg k (hS g rfl), r⟩

theorem OwnB.lt {w : World} {v : Value} {l : List Int} (h : OwnB w v l) {g : Nat} (e : v.ownBlock = some g) : ∃ cur, w.heap[g]? = some (.cells cur 5 (0, 0)) := by
  rcases h.2 with ⟨rfl, _⟩ | ⟨g', cap, cur, rfl, hb, hg, r⟩
  · cases e
  · simp only [Value.ownBlock, Option.some.injEq] at e
    subst e
    exact ⟨cur, hg⟩

theorem OwnB.sl {w : World} {v : Value} {l : List Int} (h : OwnB w v l) : ∃ p c, v = .slice p l.length c := by
  rcases h.2 with ⟨e, h2⟩ | ⟨g, cap, cur, rfl, r⟩
  · rw [h2]; exact ⟨none, 0, e⟩
  · exact ⟨_, _, rfl⟩

theorem OwnB.nil (w : World) : OwnB w (.slice none 0 0) [] := ⟨rfl, .inl ⟨rfl, rfl⟩⟩

theorem ChAt.lt {w : World} {c : Nat} {l : List Int} (h : ChAt w (some c) l) : ∃ s r, w.heap[c]? = some (.chan 16 (l.map (Value.int .u8)).toArray false s r false) := by
  cases h with
  | on c s r l h hl => exact ⟨s, r, h⟩

def uC (cv : Option Nat) (sv : Value) (u : U) : Array Value := #[.chan cv, .bool u.lost, sv, .bool u.tell, .bool u.on, .int .u8 u.d0, .int .u8 u.d1, .int .u8 u.want, .int .u8 u.line, .int .u8 u.modem, .int .u8 u.jot]

structure UAt (w : World) (B : Nat) (cv : Option Nat) (sv : Value) (u : U) : Prop where
  blk : w.heap[B]? = some (.cells (uC cv sv u) 44 (0, 0))
  chn : ChAt w cv u.came
  snt : OwnB w sv u.sent

section
variable {w : World} {B : Nat} {cv : Option Nat} {sv : Value} {u : U}

theorem UAt.kept {S : Nat → Prop} {w' : World} (h : UAt w B cv sv u) (k : Kp S w w') (hB : ¬ S B) (hc : ∀ c, cv = some c → ¬ S c) (hs : ∀ g, sv.ownBlock = some g → ¬ S g) : UAt w' B cv sv u :=
  ⟨heap_kept h.blk k hB, h.chn.kept k hc, h.snt.kept k hs⟩

theorem UAt.cell (h : UAt w B cv sv u) {k : Nat} {v : Value} (e : (uC cv sv u)[k]? = some v) : w.cell? ⟨B, k, none⟩ = some v := by
  simp [World.cell?, h.blk, e]

theorem UAt.c0 (h : UAt w B cv sv u) : w.cell? ⟨B, 0, none⟩ = some (.chan cv) := h.cell rfl
theorem UAt.c1 (h : UAt w B cv sv u) : w.cell? ⟨B, 1, none⟩ = some (.bool u.lost) := h.cell rfl
theorem UAt.c2 (h : UAt w B cv sv u) : w.cell? ⟨B, 2, none⟩ = some sv := h.cell rfl
theorem UAt.c3 (h : UAt w B cv sv u) : w.cell? ⟨B, 3, none⟩ = some (.bool u.tell) := h.cell rfl
theorem UAt.c4 (h : UAt w B cv sv u) : w.cell? ⟨B, 4, none⟩ = some (.bool u.on) := h.cell rfl
theorem UAt.c5 (h : UAt w B cv sv u) : w.cell? ⟨B, 5, none⟩ = some (.int .u8 u.d0) := h.cell rfl
theorem UAt.c6 (h : UAt w B cv sv u) : w.cell? ⟨B, 6, none⟩ = some (.int .u8 u.d1) := h.cell rfl
theorem UAt.c7 (h : UAt w B cv sv u) : w.cell? ⟨B, 7, none⟩ = some (.int .u8 u.want) := h.cell rfl
theorem UAt.c8 (h : UAt w B cv sv u) : w.cell? ⟨B, 8, none⟩ = some (.int .u8 u.line) := h.cell rfl
theorem UAt.c9 (h : UAt w B cv sv u) : w.cell? ⟨B, 9, none⟩ = some (.int .u8 u.modem) := h.cell rfl
theorem UAt.c10 (h : UAt w B cv sv u) : w.cell? ⟨B, 10, none⟩ = some (.int .u8 u.jot) := h.cell rfl
theorem UAt.fz (h : UAt w B cv sv u) (j : Nat) : w.frozen? ⟨B, j, none⟩ = false := by simp [World.frozen?, h.blk]
theorem UAt.lt (h : UAt w B cv sv u) : B < w.heap.size := heap_lt h.blk

theorem UAt.put (h : UAt w B cv sv u) {k : Nat} {v : Value} (cv' : Option Nat) (sv' : Value) (u' : U) (e : (uC cv sv u).setIfInBounds k v = uC cv' sv' u') (hc : ChAt w cv' u'.came) (hs : OwnB w sv' u'.sent) : UAt (w.setCell ⟨B, k, none⟩ v) B cv' sv' u' := by
  have hk := kpB B w k v
  refine ⟨by rw [heap_set h.blk, e], hc.kept hk ?_, hs.kept hk ?_⟩
  · rintro c rfl (rfl : c = B)
    obtain ⟨s, r, g⟩ := hc.lt
    rw [h.blk] at g
    cases g
  · rintro g eg (rfl : g = B)
    obtain ⟨cur, g⟩ := hs.lt eg
    rw [h.blk] at g
    simp at g

theorem UAt.set (h : UAt w B cv sv u) {k : Nat} {v : Value} (u' : U) (e : (uC cv sv u).setIfInBounds k v = uC cv sv u') (hc : u'.came = u.came) (hs : u'.sent = u.sent) : UAt (w.setCell ⟨B, k, none⟩ v) B cv sv u' :=
  h.put cv sv u' e (hc ▸ h.chn) (hs ▸ h.snt)

theorem UAt.alloc (h : UAt w B cv sv u) (o : Obj) : UAt (w.alloc o) B cv sv u := h.kept (Kp.alloc noB _ _) id (fun _ _ => id) (fun _ _ => id)
end

/-- The blocks that it owns. -/
def foot (B : Nat) (cv : Option Nat) (sv : Value) (k : Nat) : Prop := k = B ∨ cv = some k ∨ sv.ownBlock = some k

/-- A port whose blocks all lie in S. -/
structure UW (w : World) (S : Nat → Prop) (B : Nat) (u : U) : Prop where
  ex : ∃ cv sv, UAt w B cv sv u ∧ ∀ k, foot B cv sv k → S k
  lt : ∀ k, S k → k < w.heap.size

theorem UW.kept {w w' : World} {S T : Nat → Prop} {B : Nat} {u : U} (h : UW w S B u) (k : Kp T w w') (hS : ∀ k, S k → ¬ T k) : UW w' S B u := by
  obtain ⟨cv, sv, h1, h2⟩ := h.ex
  exact ⟨⟨cv, sv, h1.kept k (hS _ (h2 _ (.inl rfl))) (fun c e => hS _ (h2 _ (.inr (.inl e)))) (fun g e => hS _ (h2 _ (.inr (.inr e)))), h2⟩, fun j hj => Nat.lt_of_lt_of_le (h.lt j hj) k.size⟩
end Go.Proofs.Ytafnlaamfpjolaa
