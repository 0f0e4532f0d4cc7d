/- What it means that a world holds the pair. -/
import Derived.Test.YtfpgijdfbgfkcaaGrow
import Derived.Test.YtfpgijdfbgfkcaaPcMath
namespace Go.Proofs.Ytfpgijdfbgfkcaa
open Go.ChangeShapes Go.WideShapes Go.ChangeAt Go.RowKit
set_option linter.unusedVariables false

/-- Outside the blocks of S the world is as it was. -/
structure Kp (S : Nat → Prop) (w w' : World) : Prop where
  os : w'.os = w.os
  tape : w'.tape = w.tape
  output : w'.output = w.output
  size : w.heap.size ≤ w'.heap.size
  block : ∀ k, k < w.heap.size → ¬ S k → w'.heap[k]? = w.heap[k]?

theorem Kp.refl (S : Nat → Prop) (w : World) : Kp S w w := ⟨rfl, rfl, rfl, Nat.le_refl _, fun _ _ _ => rfl⟩

theorem Kp.trans {S : Nat → Prop} {a b c : World} (h : Kp S a b) (k : Kp S b c) : Kp S a c :=
  ⟨k.os.trans h.os, k.tape.trans h.tape, k.output.trans h.output, Nat.le_trans h.size k.size, fun i hi hs => (k.block i (Nat.lt_of_lt_of_le hi h.size) hs).trans (h.block i hi hs)⟩

theorem Kp.mono {S T : Nat → Prop} {a b : World} (h : Kp S a b) (hST : ∀ k, k < a.heap.size → S k → T k) : Kp T a b :=
  ⟨h.os, h.tape, h.output, h.size, fun i hi hs => h.block i hi (fun g => hs (hST i hi g))⟩

theorem Kp.alloc (S : Nat → Prop) (w : World) (o : Obj) : Kp S w (w.alloc o) :=
  ⟨rfl, rfl, rfl, by simp, fun k hk _ => Below.heap_alloc _ _ _ hk⟩

theorem Kp.setCell {S : Nat → Prop} (w : World) {p : Addr} (hp : S p.block) (u : Value) : Kp S w (w.setCell p u) :=
  ⟨rfl, rfl, rfl, by simp [World.setCell], fun k hk hs => Below.heap_setCell _ _ _ _ (fun e => hs (e ▸ hp))⟩

theorem Kp.drew {S : Nat → Prop} {w w' : World} (h : Kp S w w') : Kp S w w'.drew := ⟨h.os, h.tape, h.output, h.size, h.block⟩
theorem Kp.drewN {S : Nat → Prop} {w w' : World} (h : Kp S w w') (n : Nat) : Kp S w (w'.drewN n) := ⟨h.os, h.tape, h.output, h.size, h.block⟩

/-- Kp over another set, where that set's old blocks are in the first. -/
theorem Kp.over {S T : Nat → Prop} {a b c : World} (h : Kp T a b) (k : Kp S b c) (hS : ∀ j, j < a.heap.size → S j → T j) : Kp T a c :=
  ⟨k.os.trans h.os, k.tape.trans h.tape, k.output.trans h.output, Nat.le_trans h.size k.size, fun i hi hs => (k.block i (Nat.lt_of_lt_of_le hi h.size) (fun g => hs (hS i hi g))).trans (h.block i hi hs)⟩

theorem Kp.below {S : Nat → Prop} {w w' : World} {B : Nat} (h : Kp S w w') (hB : B ≤ w.heap.size) (hS : ∀ k, S k → B ≤ k) : Below B w w' :=
  ⟨h.os, h.tape, h.output, h.size, fun k hk => h.block k (by omega) (fun g => by have := hS k g; omega)⟩

theorem heap_lt {w : World} {b : Nat} {o : Obj} (h : w.heap[b]? = some o) : b < w.heap.size := (Array.getElem?_eq_some_iff.1 h).1

theorem heap_kept {S : Nat → Prop} {w w' : World} {b : Nat} {o : Obj} (h : w.heap[b]? = some o) (k : Kp S w w') (hS : ¬ S b) : w'.heap[b]? = some o := (k.block b (heap_lt h) hS).trans h

theorem heap_set {w : World} {b k : Nat} {v : Value} {c : Array Value} {t : TypeId} {fr : Nat × Nat} (h : w.heap[b]? = some (.cells c t fr)) : (w.setCell ⟨b, k, none⟩ v).heap[b]? = some (.cells (c.setIfInBounds k v) t fr) := by
  simp [World.setCell, Array.getElem?_modify, h]

def noB (_ : Nat) : Prop := False
def isB (B k : Nat) : Prop := k = B

theorem Kp.any {S : Nat → Prop} {w w' : World} (h : Kp noB w w') : Kp S w w' := h.mono fun _ _ f => f.elim

def pcC (m : M2) : Array Value := #[.int .u8 m.a.up, .int .u8 m.a.asks, .int .u8 m.a.srv, .int .u8 m.a.msk, .int .u8 m.a.base, .int .u8 m.a.due, .bool m.a.sh, .bool m.a.ends, .int .u8 m.b.up, .int .u8 m.b.asks, .int .u8 m.b.srv, .int .u8 m.b.msk, .int .u8 m.b.base, .int .u8 m.b.due, .bool m.b.sh, .bool m.b.ends]

structure PAt (w : World) (B : Nat) (m : M2) : Prop where
  blk : w.heap[B]? = some (.cells (pcC m) 49 (0, 0))

theorem PAt.kept {S : Nat → Prop} {w w' : World} {B : Nat} {m : M2} (h : PAt w B m) (k : Kp S w w') (hS : ¬ S B) : PAt w' B m := ⟨heap_kept h.blk k hS⟩

theorem PAt.set {w : World} {B : Nat} {m : M2} (h : PAt w B m) (k : Nat) (v : Value) (m' : M2) (e : (pcC m).setIfInBounds k v = pcC m') : PAt (w.setCell ⟨B, k, none⟩ v) B m' := ⟨by rw [heap_set h.blk, e]⟩

theorem kpB (B : Nat) (w : World) (k : Nat) (v : Value) : Kp (isB B) w (w.setCell ⟨B, k, none⟩ v) := Kp.setCell (S := isB B) w (p := ⟨B, k, none⟩) rfl v

section
variable {w : World} {B : Nat} {m : M2}
theorem PAt.c0 (h : PAt w B m) : w.cell? ⟨B, 0, none⟩ = some (.int .u8 m.a.up) := by simp [World.cell?, h.blk, pcC]
theorem PAt.c1 (h : PAt w B m) : w.cell? ⟨B, 1, none⟩ = some (.int .u8 m.a.asks) := by simp [World.cell?, h.blk, pcC]
theorem PAt.c2 (h : PAt w B m) : w.cell? ⟨B, 2, none⟩ = some (.int .u8 m.a.srv) := by simp [World.cell?, h.blk, pcC]
theorem PAt.c3 (h : PAt w B m) : w.cell? ⟨B, 3, none⟩ = some (.int .u8 m.a.msk) := by simp [World.cell?, h.blk, pcC]
theorem PAt.c4 (h : PAt w B m) : w.cell? ⟨B, 4, none⟩ = some (.int .u8 m.a.base) := by simp [World.cell?, h.blk, pcC]
theorem PAt.c5 (h : PAt w B m) : w.cell? ⟨B, 5, none⟩ = some (.int .u8 m.a.due) := by simp [World.cell?, h.blk, pcC]
theorem PAt.c6 (h : PAt w B m) : w.cell? ⟨B, 6, none⟩ = some (.bool m.a.sh) := by simp [World.cell?, h.blk, pcC]
theorem PAt.c7 (h : PAt w B m) : w.cell? ⟨B, 7, none⟩ = some (.bool m.a.ends) := by simp [World.cell?, h.blk, pcC]
theorem PAt.c8 (h : PAt w B m) : w.cell? ⟨B, 8, none⟩ = some (.int .u8 m.b.up) := by simp [World.cell?, h.blk, pcC]
theorem PAt.c9 (h : PAt w B m) : w.cell? ⟨B, 9, none⟩ = some (.int .u8 m.b.asks) := by simp [World.cell?, h.blk, pcC]
theorem PAt.c10 (h : PAt w B m) : w.cell? ⟨B, 10, none⟩ = some (.int .u8 m.b.srv) := by simp [World.cell?, h.blk, pcC]
theorem PAt.c11 (h : PAt w B m) : w.cell? ⟨B, 11, none⟩ = some (.int .u8 m.b.msk) := by simp [World.cell?, h.blk, pcC]
theorem PAt.c12 (h : PAt w B m) : w.cell? ⟨B, 12, none⟩ = some (.int .u8 m.b.base) := by simp [World.cell?, h.blk, pcC]
theorem PAt.c13 (h : PAt w B m) : w.cell? ⟨B, 13, none⟩ = some (.int .u8 m.b.due) := by simp [World.cell?, h.blk, pcC]
theorem PAt.c14 (h : PAt w B m) : w.cell? ⟨B, 14, none⟩ = some (.bool m.b.sh) := by simp [World.cell?, h.blk, pcC]
theorem PAt.c15 (h : PAt w B m) : w.cell? ⟨B, 15, none⟩ = some (.bool m.b.ends) := by simp [World.cell?, h.blk, pcC]
theorem PAt.fz (h : PAt w B m) (j : Nat) : w.frozen? ⟨B, j, none⟩ = false := by simp [World.frozen?, h.blk]
theorem PAt.lt (h : PAt w B m) : B < w.heap.size := heap_lt h.blk
theorem PAt.drewN (h : PAt w B m) (n : Nat) : PAt (w.drewN n) B m := h.kept ((Kp.refl noB _).drewN n) id
theorem PAt.drew (h : PAt w B m) : PAt w.drew B m := h.kept ((Kp.refl noB _).drew) id
theorem PAt.alloc (h : PAt w B m) (o : Obj) : PAt (w.alloc o) B m := h.kept (Kp.alloc noB _ _) id
end
end Go.Proofs.Ytfpgijdfbgfkcaa
