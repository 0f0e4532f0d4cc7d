/- The bus and its devices: UtMath, UtBase, UtLeaf, UtMid, UtLone, UtTake, UtIn, UtApp, UtOut. -/
import Derived.Test.YtonfjhbfkichkaaGreatBz01
import Derived.MapKept
import Derived.Maps.AppendAt
import Derived.OwnWalk
import Derived.Conc.LoneSelectN
import Derived.Conc.LoneSelect
namespace Go.Proofs.YtonfjhbfkichkaaGreat.Ut
open Go.RowKit
set_option linter.unusedVariables false
structure U where
 came : List Int
 lost : Bool
 tell : Bool
 on : Bool
 d0 : Int
 d1 : Int
 want : Int
 line : Int
 modem : Int
 jot : Int
 sent : List Int
def U.lat (u : U) : Bool := decide (128 ≤ u.line)
def U.there (u : U) : Bool := decide (0 < u.came.length)
def b0 (v : Int) : Bool := v % 2 == 1
def b1 (v : Int) : Bool := v / 2 % 2 == 1
def U.why (u : U) : Int := if (u.there && b0 u.want) = true then 4 else if (u.tell && b1 u.want) = true then 2 else 1
def U.wants (u : U) (v : Int) : U := { u with tell := u.tell || (b1 v && !b1 u.want), want := v }
def U.turn (u : U) (v : Int) : U := { u with came := if (b1 v || (b0 v != u.on)) = true then [] else u.came, on := b0 v }
def U.send (u : U) (v : Int) : U := { u with sent := u.sent ++ [v], tell := true }
def U.out (u : U) (n v : Int) : U :=
 if n = 0 then (if u.lat = true then { u with d0 := v } else u.send v)
 else if n = 1 then (if u.lat = true then { u with d1 := v } else u.wants (v % 16))
 else if n = 2 then u.turn v
 else if n = 3 then { u with line := v }
 else if n = 4 then { u with modem := v % 32 }
 else if n = 7 then { u with jot := v }
 else u
def U.first (u : U) : Int := u.came.headD 0
def U.took (u : U) : U := { u with came := u.came.tail }
def U.status (u : U) : Int := 96 + (if u.there = true then 1 else 0) + (if u.lost = true then 2 else 0)
def U.told (u : U) : Int := u.why + (if u.on = true then 192 else 0)
def U.telling (u : U) : U := if u.why = 2 then { u with tell := false } else u
def U.inV (u : U) (n : Int) : Int :=
 if n = 0 then (if u.lat = true then u.d0 else u.first)
 else if n = 1 then (if u.lat = true then u.d1 else u.want)
 else if n = 2 then u.told
 else if n = 3 then u.line
 else if n = 4 then u.modem
 else if n = 5 then u.status
 else if n = 6 then 176
 else u.jot
def U.inn (u : U) (n : Int) : U :=
 if n = 0 then (if u.lat = true then u else u.took)
 else if n = 2 then u.telling
 else if n = 5 then { u with lost := false }
 else u
def U.room (u : U) : Nat := if u.on = true then 16 else 1
def U.push (u : U) (b : Int) : U := if u.came.length < u.room then { u with came := u.came ++ [b] } else { u with lost := true }
def U.hush (u : U) : U := { u with sent := [] }
def U.ln (u : U) : Bool := u.why != 1
def u0 : U := ⟨[], false, false, false, 0, 0, 0, 0, 0, 0, []⟩
def By (x : Int) : Prop := 0 ≤ x ∧ x < 256
structure U.Ok (u : U) : Prop where
 d0 : By u.d0
 d1 : By u.d1
 want : 0 ≤ u.want ∧ u.want < 16
 line : By u.line
 modem : By u.modem
 jot : By u.jot
 came : ∀ b, b ∈ u.came → By b
 few : u.came.length ≤ u.room
 sent : ∀ b, b ∈ u.sent → By b
theorem U.Ok.out {u : U} (h : u.Ok) (n : Int) {v : Int} (hv : By v) : (u.out n v).Ok := by
 obtain ⟨v0, v1⟩ := hv
 unfold U.out
 split
 ·split
  ·exact { h with d0 := ⟨v0, v1⟩ }
  ·refine { h with sent := ?_ }
   intro b hb
   rcases List.mem_append.1 hb with g | g
   ·exact h.sent b g
   ·rw [List.mem_singleton.1 g]; exact ⟨v0, v1⟩
 ·split
  ·split
   ·exact { h with d1 := ⟨v0, v1⟩ }
   ·exact { h with want := ⟨by show 0 ≤ v % 16; omega, by show v % 16 < 16; omega⟩ }
  ·split
   ·unfold U.turn
    by_cases g : (b1 v || (b0 v != u.on)) = true
    ·simp only [g, if_true]
     exact { h with came := (fun b hb => nomatch hb), few := Nat.zero_le _ }
    ·have e : b0 v = u.on := by
      simp only [Bool.or_eq_true, bne_iff_ne, ne_eq, not_or, Decidable.not_not] at g
      exact g.2
     rw [if_neg g, e]
     exact h
   ·split
    ·exact { h with line := ⟨v0, v1⟩ }
    ·split
     ·exact { h with modem := ⟨by show 0 ≤ v % 32; omega, by show v % 32 < 256; omega⟩ }
     ·split
      ·exact { h with jot := ⟨v0, v1⟩ }
      ·exact h
theorem U.Ok.inn {u : U} (h : u.Ok) (n : Int) : (u.inn n).Ok := by
 unfold U.inn
 split
 ·split
  ·exact h
  ·refine { h with came := (fun b hb => h.came b (List.mem_of_mem_tail hb)), few := ?_ }
   have := h.few
   show u.came.tail.length ≤ u.room
   rw [List.length_tail]
   omega
 ·split
  ·unfold U.telling
   split
   ·exact { h with }
   ·exact h
  ·split
   ·exact { h with }
   ·exact h
theorem U.Ok.push {u : U} (h : u.Ok) {b : Int} (hb : By b) : (u.push b).Ok := by
 unfold U.push
 split
 ·rename_i g
  refine { h with came := ?_, few := ?_ }
  ·intro x hx
   rcases List.mem_append.1 hx with k | k
   ·exact h.came x k
   ·rw [List.mem_singleton.1 k]; exact hb
  ·show (u.came ++ [b]).length ≤ u.room
   rw [List.length_append, List.length_singleton]
   omega
 ·exact { h with }
theorem U.Ok.hush {u : U} (h : u.Ok) : u.hush.Ok := { h with sent := (fun b hb => nomatch hb) }
open Go.ChangeShapes Go.WideShapes Go.ChangeAt
structure Kp (S : Nat → Prop) (w w' : World) : Prop where
 os : w'.os = w.os
 tape : w'.tape = w.tape
 output : w'.output = w.output
 size : w.heap.size ≤ w'.heap.size
 block : ∀ k, k < w.heap.size → ¬ S k → w'.heap[k]? = w.heap[k]?
theorem Kp.refl (S : Nat → Prop) (w : World) : Kp S w w := ⟨rfl, rfl, rfl, Nat.le_refl _, fun _ _ _ => rfl⟩
theorem Kp.trans {S : Nat → Prop} {a b c : World} (h : Kp S a b) (k : Kp S b c) : Kp S a c :=
 ⟨k.os.trans h.os, k.tape.trans h.tape, k.output.trans h.output, Nat.le_trans h.size k.size, fun i hi hs => (k.block i (Nat.lt_of_lt_of_le hi h.size) hs).trans (h.block i hi hs)⟩
theorem Kp.mono {S T : Nat → Prop} {a b : World} (h : Kp S a b) (hST : ∀ k, k < a.heap.size → S k → T k) : Kp T a b :=
 ⟨h.os, h.tape, h.output, h.size, fun i hi hs => h.block i hi (fun g => hs (hST i hi g))⟩
theorem Kp.alloc (S : Nat → Prop) (w : World) (o : Obj) : Kp S w (w.alloc o) :=
 ⟨rfl, rfl, rfl, by simp, fun k hk _ => Below.heap_alloc _ _ _ hk⟩
theorem Kp.setCell {S : Nat → Prop} (w : World) {p : Addr} (hp : S p.block) (u : Value) : Kp S w (w.setCell p u) :=
 ⟨rfl, rfl, rfl, by simp [World.setCell], fun k hk hs => Below.heap_setCell _ _ _ _ (fun e => hs (e ▸ hp))⟩
theorem Kp.drew {S : Nat → Prop} {w w' : World} (h : Kp S w w') : Kp S w w'.drew := ⟨h.os, h.tape, h.output, h.size, h.block⟩
theorem Kp.over {S T : Nat → Prop} {a b c : World} (h : Kp T a b) (k : Kp S b c) (hS : ∀ j, j < a.heap.size → S j → T j) : Kp T a c :=
 ⟨k.os.trans h.os, k.tape.trans h.tape, k.output.trans h.output, Nat.le_trans h.size k.size, fun i hi hs => (k.block i (Nat.lt_of_lt_of_le hi h.size) (fun g => hs (hS i hi g))).trans (h.block i hi hs)⟩
theorem Kp.below {S : Nat → Prop} {w w' : World} {B : Nat} (h : Kp S w w') (hB : B ≤ w.heap.size) (hS : ∀ k, S k → B ≤ k) : Below B w w' :=
 ⟨h.os, h.tape, h.output, h.size, fun k hk => h.block k (by omega) (fun g => by have := hS k g; omega)⟩
theorem heap_lt {w : World} {b : Nat} {o : Obj} (h : w.heap[b]? = some o) : b < w.heap.size := (Array.getElem?_eq_some_iff.1 h).1
theorem heap_kept {S : Nat → Prop} {w w' : World} {b : Nat} {o : Obj} (h : w.heap[b]? = some o) (k : Kp S w w') (hS : ¬ S b) : w'.heap[b]? = some o := (k.block b (heap_lt h) hS).trans h
theorem heap_set {w : World} {b k : Nat} {v : Value} {c : Array Value} {t : TypeId} {fr : Nat × Nat} (h : w.heap[b]? = some (.cells c t fr)) : (w.setCell ⟨b, k, none⟩ v).heap[b]? = some (.cells (c.setIfInBounds k v) t fr) := by
 simp [World.setCell, Array.getElem?_modify, h]
def noB (_ : Nat) : Prop := False
def isB (B k : Nat) : Prop := k = B
theorem Kp.any {S : Nat → Prop} {w w' : World} (h : Kp noB w w') : Kp S w w' := h.mono fun _ _ f => f.elim
theorem kpB (B : Nat) (w : World) (k : Nat) (v : Value) : Kp (isB B) w (w.setCell ⟨B, k, none⟩ v) := Kp.setCell (S := isB B) w (p := ⟨B, k, none⟩) rfl v
theorem heap_new (w : World) (o : Obj) : (w.alloc o).heap[w.heap.size]? = some o := (MapKept.heap_alloc w o).1
def OwnB (w : World) (v : Value) (l : List Int) : Prop := w.ownsRow 0 5 1 v l.length (l.map (Value.int .u8))
inductive ChAt (w : World) : Option Nat → List Int → Prop
 | no : ChAt w none []
 | on (c s r : Nat) (l : List Int) (h : w.heap[c]? = some (.chan 16 (l.map (Value.int .u8)).toArray false s r false)) (hl : l.length ≤ 16) : ChAt w (some c) l
theorem ChAt.kept {S : Nat → Prop} {w w' : World} {cv : Option Nat} {l : List Int} (h : ChAt w cv l) (k : Kp S w w') (hS : ∀ c, cv = some c → ¬ S c) : ChAt w' cv l := by
 cases h with
 | no => exact .no
 | on c s r l h hl => exact .on c s r l (heap_kept h k (hS c rfl)) hl
theorem OwnB.kept {S : Nat → Prop} {w w' : World} {v : Value} {l : List Int} (h : OwnB w v l) (k : Kp S w w') (hS : ∀ g, v.ownBlock = some g → ¬ S g) : OwnB w' v l := by
 refine ⟨h.1, ?_⟩
 rcases h.2 with g | ⟨g, cap, cur, rfl, hb, hg, r⟩
 ·exact .inl g
 ·exact .inr ⟨g, cap, cur, rfl, hb, heap_kept hg k (hS g rfl), r⟩
theorem OwnB.lt {w : World} {v : Value} {l : List Int} (h : OwnB w v l) {g : Nat} (e : v.ownBlock = some g) : ∃ cur, w.heap[g]? = some (.cells cur 5 (0, 0)) := by
 rcases h.2 with ⟨rfl, _⟩ | ⟨g', cap, cur, rfl, hb, hg, r⟩
 ·cases e
 ·simp only [Value.ownBlock, Option.some.injEq] at e
  subst e
  exact ⟨cur, hg⟩
theorem OwnB.sl {w : World} {v : Value} {l : List Int} (h : OwnB w v l) : ∃ p c, v = .slice p l.length c := by
 rcases h.2 with ⟨e, h2⟩ | ⟨g, cap, cur, rfl, r⟩
 ·rw [h2]; exact ⟨none, 0, e⟩
 ·exact ⟨_, _, rfl⟩
theorem OwnB.nil (w : World) : OwnB w (.slice none 0 0) [] := ⟨rfl, .inl ⟨rfl, rfl⟩⟩
theorem ChAt.lt {w : World} {c : Nat} {l : List Int} (h : ChAt w (some c) l) : ∃ s r, w.heap[c]? = some (.chan 16 (l.map (Value.int .u8)).toArray false s r false) := by
 cases h with
 | on c s r l h hl => exact ⟨s, r, h⟩
def uC (cv : Option Nat) (sv : Value) (u : U) : Array Value := #[.chan cv, .bool u.lost, sv, .bool u.tell, .bool u.on, .int .u8 u.d0, .int .u8 u.d1, .int .u8 u.want, .int .u8 u.line, .int .u8 u.modem, .int .u8 u.jot]
structure UAt (w : World) (B : Nat) (cv : Option Nat) (sv : Value) (u : U) : Prop where
 blk : w.heap[B]? = some (.cells (uC cv sv u) 129 (0, 0))
 chn : ChAt w cv u.came
 snt : OwnB w sv u.sent
section
variable {w : World} {B : Nat} {cv : Option Nat} {sv : Value} {u : U}
theorem UAt.kept {S : Nat → Prop} {w' : World} (h : UAt w B cv sv u) (k : Kp S w w') (hB : ¬ S B) (hc : ∀ c, cv = some c → ¬ S c) (hs : ∀ g, sv.ownBlock = some g → ¬ S g) : UAt w' B cv sv u :=
 ⟨heap_kept h.blk k hB, h.chn.kept k hc, h.snt.kept k hs⟩
theorem UAt.cell (h : UAt w B cv sv u) {k : Nat} {v : Value} (e : (uC cv sv u)[k]? = some v) : w.cell? ⟨B, k, none⟩ = some v := by
 simp [World.cell?, h.blk, e]
theorem UAt.c0 (h : UAt w B cv sv u) : w.cell? ⟨B, 0, none⟩ = some (.chan cv) := h.cell rfl
theorem UAt.c1 (h : UAt w B cv sv u) : w.cell? ⟨B, 1, none⟩ = some (.bool u.lost) := h.cell rfl
theorem UAt.c2 (h : UAt w B cv sv u) : w.cell? ⟨B, 2, none⟩ = some sv := h.cell rfl
theorem UAt.c3 (h : UAt w B cv sv u) : w.cell? ⟨B, 3, none⟩ = some (.bool u.tell) := h.cell rfl
theorem UAt.c4 (h : UAt w B cv sv u) : w.cell? ⟨B, 4, none⟩ = some (.bool u.on) := h.cell rfl
theorem UAt.c5 (h : UAt w B cv sv u) : w.cell? ⟨B, 5, none⟩ = some (.int .u8 u.d0) := h.cell rfl
theorem UAt.c6 (h : UAt w B cv sv u) : w.cell? ⟨B, 6, none⟩ = some (.int .u8 u.d1) := h.cell rfl
theorem UAt.c7 (h : UAt w B cv sv u) : w.cell? ⟨B, 7, none⟩ = some (.int .u8 u.want) := h.cell rfl
theorem UAt.c8 (h : UAt w B cv sv u) : w.cell? ⟨B, 8, none⟩ = some (.int .u8 u.line) := h.cell rfl
theorem UAt.c9 (h : UAt w B cv sv u) : w.cell? ⟨B, 9, none⟩ = some (.int .u8 u.modem) := h.cell rfl
theorem UAt.c10 (h : UAt w B cv sv u) : w.cell? ⟨B, 10, none⟩ = some (.int .u8 u.jot) := h.cell rfl
theorem UAt.fz (h : UAt w B cv sv u) (j : Nat) : w.frozen? ⟨B, j, none⟩ = false := by simp [World.frozen?, h.blk]
theorem UAt.lt (h : UAt w B cv sv u) : B < w.heap.size := heap_lt h.blk
theorem UAt.put (h : UAt w B cv sv u) {k : Nat} {v : Value} (cv' : Option Nat) (sv' : Value) (u' : U) (e : (uC cv sv u).setIfInBounds k v = uC cv' sv' u') (hc : ChAt w cv' u'.came) (hs : OwnB w sv' u'.sent) : UAt (w.setCell ⟨B, k, none⟩ v) B cv' sv' u' := by
 have hk := kpB B w k v
 refine ⟨by rw [heap_set h.blk, e], hc.kept hk ?_, hs.kept hk ?_⟩
 ·rintro c rfl (rfl : c = B)
  obtain ⟨s, r, g⟩ := hc.lt
  rw [h.blk] at g
  cases g
 ·rintro g eg (rfl : g = B)
  obtain ⟨cur, g⟩ := hs.lt eg
  rw [h.blk] at g
  simp at g
theorem UAt.set (h : UAt w B cv sv u) {k : Nat} {v : Value} (u' : U) (e : (uC cv sv u).setIfInBounds k v = uC cv sv u') (hc : u'.came = u.came) (hs : u'.sent = u.sent) : UAt (w.setCell ⟨B, k, none⟩ v) B cv sv u' :=
 h.put cv sv u' e (hc ▸ h.chn) (hs ▸ h.snt)
theorem UAt.alloc (h : UAt w B cv sv u) (o : Obj) : UAt (w.alloc o) B cv sv u := h.kept (Kp.alloc noB _ _) id (fun _ _ => id) (fun _ _ => id)
end
def foot (B : Nat) (cv : Option Nat) (sv : Value) (k : Nat) : Prop := k = B ∨ cv = some k ∨ sv.ownBlock = some k
structure UW (w : World) (S : Nat → Prop) (B : Nat) (u : U) : Prop where
 ex : ∃ cv sv, UAt w B cv sv u ∧ ∀ k, foot B cv sv k → S k
 lt : ∀ k, S k → k < w.heap.size
theorem UW.kept {w w' : World} {S T : Nat → Prop} {B : Nat} {u : U} (h : UW w S B u) (k : Kp T w w') (hS : ∀ k, S k → ¬ T k) : UW w' S B u := by
 obtain ⟨cv, sv, h1, h2⟩ := h.ex
 exact ⟨⟨cv, sv, h1.kept k (hS _ (h2 _ (.inl rfl))) (fun c e => hS _ (h2 _ (.inr (.inl e)))) (fun g e => hS _ (h2 _ (.inr (.inr e)))), h2⟩, fun j hj => Nat.lt_of_lt_of_le (h.lt j hj) k.size⟩
theorem and128' : ∀ n : Fin 256, (bits .and .u8 (n.val : Int) 128 != 0) = decide (128 ≤ (n.val : Int)) := by decide +kernel
theorem and1' : ∀ n : Fin 256, (bits .and .u8 (n.val : Int) 1 != 0) = b0 (n.val : Int) := by decide +kernel
theorem and2' : ∀ n : Fin 256, (bits .and .u8 (n.val : Int) 2 != 0) = b1 (n.val : Int) := by decide +kernel
theorem and15' : ∀ n : Fin 256, bits .and .u8 (n.val : Int) 15 = (n.val : Int) % 16 := by decide +kernel
theorem and31' : ∀ n : Fin 256, bits .and .u8 (n.val : Int) 31 = (n.val : Int) % 32 := by decide +kernel
theorem want' : ∀ n m : Fin 16, (bits .and .u8 (bits .andNot .u8 (n.val : Int) (m.val : Int)) 2 != 0) = (b1 (n.val : Int) && !b1 (m.val : Int)) := by decide +kernel
theorem byFin {p : Int → Prop} (h : ∀ n : Fin 256, p (n.val : Int)) {v : Int} (hv : By v) : p v := by
 have := h ⟨v.toNat, by have := hv.1; have := hv.2; omega⟩
 simp only [Int.toNat_of_nonneg hv.1] at this
 exact this
theorem and128 {v : Int} (h : By v) : (bits .and .u8 v 128 != 0) = decide (128 ≤ v) := byFin (p := fun v => (bits .and .u8 v 128 != 0) = decide (128 ≤ v)) and128' h
theorem and1 {v : Int} (h : By v) : (bits .and .u8 v 1 != 0) = b0 v := byFin (p := fun v => (bits .and .u8 v 1 != 0) = b0 v) and1' h
theorem and2 {v : Int} (h : By v) : (bits .and .u8 v 2 != 0) = b1 v := byFin (p := fun v => (bits .and .u8 v 2 != 0) = b1 v) and2' h
theorem and15 {v : Int} (h : By v) : bits .and .u8 v 15 = v % 16 := byFin (p := fun v => bits .and .u8 v 15 = v % 16) and15' h
theorem and31 {v : Int} (h : By v) : bits .and .u8 v 31 = v % 32 := byFin (p := fun v => bits .and .u8 v 31 = v % 32) and31' h
theorem wantsB {v m : Int} (h : 0 ≤ v ∧ v < 16) (g : 0 ≤ m ∧ m < 16) : (bits .and .u8 (bits .andNot .u8 v m) 2 != 0) = (b1 v && !b1 m) := by
 have := want' ⟨v.toNat, by omega⟩ ⟨m.toNat, by omega⟩
 simp only [Int.toNat_of_nonneg h.1, Int.toNat_of_nonneg g.1] at this
 exact this
theorem by16 {v : Int} (h : 0 ≤ v ∧ v < 16) : By v := ⟨h.1, by omega⟩
section
variable {w : World} {B : Nat} {cv : Option Nat} {sv : Value} {u : U}
theorem has_ok (w : World) (a : Addr) (p : Int) (p0 : 0 ≤ p) (p1 : p < 8) : Calls Tryz.prog 112 #[.pointer (some a), .int .i64 p] w fun e w' => e = .returned (.bool true) ∧ w' = w := by
 have d0 : decide (0 ≤ p) = true := by simp [p0]
 have d1 : decide (p < 8) = true := by simp [p1]
 go_enter Tryz.func112, Tryz.ntmps112
 go_wp2
 go_ret
 exact ⟨rfl, rfl⟩
theorem has_no (w : World) (x : Option Addr) (p : Int) (h : x = none ∨ p < 0 ∨ 8 ≤ p) : Calls Tryz.prog 112 #[.pointer x, .int .i64 p] w fun e w' => e = .returned (.bool false) ∧ w' = w := by
 cases x with
 | none =>
  go_enter Tryz.func112, Tryz.ntmps112
  go_wp2
  go_ret
  exact ⟨rfl, rfl⟩
 | some a =>
  by_cases g : p < 0
  ·have d0 : decide (0 ≤ p) = false := by simp; omega
   go_enter Tryz.func112, Tryz.ntmps112
   go_wp2
   go_ret
   exact ⟨rfl, rfl⟩
  ·have d0 : decide (0 ≤ p) = true := by simp; omega
   have d1 : decide (p < 8) = false := by
    rcases h with h | h | h
    ·cases h
    ·omega
    ·simp; omega
   go_enter Tryz.func112, Tryz.ntmps112
   go_wp2
   go_ret
   exact ⟨rfl, rfl⟩
theorem divides_any (h : UAt w B cv sv u) (k : By u.line) (n : Int) : Calls Tryz.prog 113 #[.pointer (some ⟨B, 0, none⟩), .int .i64 n] w fun e w' => e = .returned (.bool (u.lat && decide (n < 2))) ∧ w' = w := by
 have c8 := h.c8
 have e1 := and128 k
 unfold U.lat
 cases e : decide (128 ≤ u.line)
 ·rw [e] at e1
  go_enter Tryz.func113, Tryz.ntmps113
  go_wp2
  go_ret
  exact ⟨rfl, rfl⟩
 ·rw [e] at e1
  go_enter Tryz.func113, Tryz.ntmps113
  go_wp2
  go_ret
  exact ⟨rfl, rfl⟩
theorem len_nil (w : World) (ty : TypeId) : (Builtin.len_ #[126] ty #[.chan none]).run Tryz.prog w = .ok (goInt 0) w := by
 simp [Builtin.len_, run_underlying Tryz.underlying126]
theorem len_chan {l : List Int} (h : ChAt w cv l) (ty : TypeId) : (Builtin.len_ #[126] ty #[.chan cv]).run Tryz.prog w = .ok (.int .i64 l.length) w := by
 cases h with
 | no => exact len_nil w ty
 | on c s r l h hl =>
  have := Conc.run_len_chan (P := Tryz.prog) 126 ty Tryz.underlying126 h
  rw [this]
  simp [goInt]
theorem there_any (h : UAt w B cv sv u) : Calls Tryz.prog 133 #[.pointer (some ⟨B, 0, none⟩)] w fun e w' => e = .returned (.bool u.there) ∧ w' = w := by
 have c0 := h.c0
 have hl := fun ty => len_chan h.chn ty
 go_enter Tryz.func133, Tryz.ntmps133
 go_wp2
 go_ret
 exact ⟨rfl, rfl⟩
end
def UOr (w : World) (B : Nat) (cv : Option Nat) (sv : Value) (u : U) : Prop := ∃ cv', (cv' = none ∨ cv' = cv) ∧ UAt w B cv' sv u
section
variable {w : World} {B : Nat} {cv : Option Nat} {sv : Value} {u : U}
theorem cause_any (h : UAt w B cv sv u) (k : u.Ok) : Calls Tryz.prog 120 #[.pointer (some ⟨B, 0, none⟩)] w fun e w' => e = .returned (.int .u8 u.why) ∧ w' = w := by
 have HT : Hid _ := there_any h
 have c3 := h.c3
 have c7 := h.c7
 have e1 := and1 (by16 k.want)
 have e2 := and2 (by16 k.want)
 unfold U.why
 clear h k
 generalize u.there = ut at HT ⊢
 generalize b0 u.want = x0 at e1 ⊢
 generalize b1 u.want = x1 at e2 ⊢
 generalize u.tell = ul at c3 ⊢
 cases ut <;> cases x0 <;> cases ul <;> cases x1 <;> (
  go_enter Tryz.func120, Tryz.ntmps120
  go_wp2_with fail
  refine Calls.mono HT.out ?_; rintro e w1 ⟨rfl, hw⟩; replace hw := hw.symm; subst hw
  go_wp2
  go_ret
  exact ⟨rfl, rfl⟩)
theorem want_ok (h : UAt w B cv sv u) (k : u.Ok) (v : Int) (hv : 0 ≤ v ∧ v < 16) : Calls Tryz.prog 114 #[.pointer (some ⟨B, 0, none⟩), .int .u8 v] w fun e w' => e = .returned (.tuple #[]) ∧ UAt w' B cv sv (u.wants v) ∧ Kp (isB B) w w' := by
 have c3 := h.c3
 have c7 := h.c7
 have z3 := h.fz 3
 have z7 := h.fz 7
 have e1 := wantsB hv k.want
 unfold U.wants
 cases e : (b1 v && !b1 u.want)
 ·rw [e] at e1
  have hC : Hid (UAt w B cv sv u) := h
  clear h
  go_enter Tryz.func114, Tryz.ntmps114
  go_wp2
  go_end0
  exact ⟨rfl, hC.out.set _ (by simp [uC]) rfl rfl, kpB B _ _ _⟩
 ·rw [e] at e1
  have hC : Hid (UAt w B cv sv u) := h
  clear h
  go_enter Tryz.func114, Tryz.ntmps114
  go_wp2
  go_end0
  exact ⟨rfl, (hC.out.set { u with tell := true } rfl rfl rfl).set _ (by simp [uC]) rfl rfl, (kpB B _ _ _).trans (kpB B _ _ _)⟩
theorem turn_ok (h : UAt w B cv sv u) (k : u.Ok) (v : Int) (hv : By v) : Calls Tryz.prog 115 #[.pointer (some ⟨B, 0, none⟩), .int .u8 v] w fun e w' => e = .returned (.tuple #[]) ∧ UOr w' B cv sv (u.turn v) ∧ Kp (isB B) w w' := by
 have c0 := h.c0
 have c4 := h.c4
 have z0 := h.fz 0
 have z4 := h.fz 4
 have e1 := and1 hv
 have e2 := and2 hv
 have hC : Hid (UAt w B cv sv u) := h
 unfold U.turn
 clear h k
 generalize b0 v = x0 at e1 ⊢
 generalize b1 v = x1 at e2 ⊢
 cases eo : u.on <;> rw [eo] at c4 <;> cases x0 <;> cases x1 <;> (
  go_enter Tryz.func115, Tryz.ntmps115
  go_wp2
  go_end0
  first
  | exact ⟨rfl, ⟨cv, .inr rfl, hC.out.set _ (by simp [uC]) rfl rfl⟩, kpB B _ _ _⟩
  | exact ⟨rfl, ⟨none, .inl rfl, (hC.out.put none sv { u with came := [] } rfl .no hC.out.snt).set _ (by simp [uC]) rfl rfl⟩, (kpB B _ _ _).trans (kpB B _ _ _)⟩)
theorem tell_ok (h : UAt w B cv sv u) (k : u.Ok) : Calls Tryz.prog 149 #[.pointer (some ⟨B, 0, none⟩)] w fun e w' => e = .returned (.int .u8 u.told) ∧ UAt w' B cv sv u.telling ∧ Kp (isB B) w w' := by
 have HT : Hid _ := cause_any h k
 have c3 := h.c3
 have c4 := h.c4
 have z3 := h.fz 3
 have hC : Hid (UAt w B cv sv u) := h
 have hy : u.why = 4 ∨ u.why = 2 ∨ u.why = 1 := by
  unfold U.why
  split
  ·exact .inl rfl
  ·split
   ·exact .inr (.inl rfl)
   ·exact .inr (.inr rfl)
 unfold U.told U.telling
 clear h k
 generalize u.why = y at HT hy ⊢
 rcases hy with rfl | rfl | rfl <;> cases eo : u.on <;> rw [eo] at c4 <;> (
  go_enter Tryz.func149, Tryz.ntmps149
  go_wp2_with fail
  refine Calls.mono HT.out ?_; rintro e w1 ⟨rfl, hw⟩; replace hw := hw.symm; subst hw
  go_wp2
  go_ret
  first
  | exact ⟨rfl, hC.out, Kp.refl _ _⟩
  | exact ⟨rfl, hC.out.set _ (by simp [uC, eo]) rfl rfl, kpB B _ _ _⟩)
theorem status_ok (h : UAt w B cv sv u) : Calls Tryz.prog 150 #[.pointer (some ⟨B, 0, none⟩)] w fun e w' => e = .returned (.int .u8 u.status) ∧ UAt w' B cv sv { u with lost := false } ∧ Kp (isB B) w w' := by
 have HT : Hid _ := there_any h
 have c1 := h.c1
 have z1 := h.fz 1
 have hC : Hid (UAt w B cv sv u) := h
 unfold U.status
 clear h
 generalize u.there = y at HT ⊢
 cases y <;> cases eo : u.lost <;> rw [eo] at c1 <;> (
  go_enter Tryz.func150, Tryz.ntmps150
  go_wp2_with fail
  refine Calls.mono HT.out ?_; rintro e w1 ⟨rfl, hw⟩; replace hw := hw.symm; subst hw
  go_wp2
  go_ret
  exact ⟨rfl, hC.out.set { u with lost := false } rfl rfl rfl, kpB B _ _ _⟩)
end
open Go.Conc
def LoneB (P : Program) (f : FuncId) (R : Ending → World → Prop) (c : Code) (a : Act) (w : World) : Prop :=
 ∀ cs, LoneTo P (fun g' w' => ∃ e fr, g' = G fr cs ∧ (R e w' ∧ e ≠ .outgrown) ∧ fr.fn = f ∧ fr.leaving P w' e) (G ((base f).at a [.code c]) cs) w
section
variable {P : Program} {f : FuncId} {fn : Func} {R : Ending → World → Prop} {a : Act} {w : World}
theorem calls_of_loneB {c : Code} {args : Array Value} (hf : P.funcs[f]? = some fn) (hb : fn.body = some c)
  (h : LoneB P f R c { tmps := args ++ Array.replicate (fn.ntmps - args.size) undef, defers := [] } w) : Calls P f args w R := by
 refine Calls.mono (calls_of_loneTo (R := fun e w' => R e w' ∧ e ≠ .outgrown) (fun cs => ?_) (fun w' g => g.2 rfl)) (fun e w' g => g.1)
 have henter : Frame.enter P f args .normal = (base f).at { tmps := args ++ Array.replicate (fn.ntmps - args.size) undef, defers := [] } [.code c] := by
  simp [Frame.enter, Frame.at, hf, hb, base]
 rw [henter]
 exact h cs
theorem LoneTo.steps {Q : Goroutine → World → Prop} {g g' : Goroutine} {w w' : World} (h : Steps P (solo g w) (solo g' w')) (h' : LoneTo P Q g' w') : LoneTo P Q g w :=
 let ⟨g₂, w₂, hs, hq⟩ := h'; ⟨g₂, w₂, h.trans hs, hq⟩
theorem loneB_seq {x y : Code} (h : x.wp P (fun e a' w' => e = .normal ∧ LoneB P f R y a' w') a w) : LoneB P f R (x.seq y) a w := by
 intro cs
 obtain ⟨e, a', w', ⟨rfl, hq⟩, harr⟩ := h (base f) [.code y] cs
 exact LoneTo.step step_seq (LoneTo.steps harr (hq cs))
theorem loneB_end {c : Code} (hf : P.funcs[f]? = some fn) (h : c.wp P (bodyPost P fn fun e w' => R e w' ∧ e ≠ .outgrown) a w) : LoneB P f R c a w := by
 intro cs
 obtain ⟨e, a', w', hq, harr⟩ := h (base f) [] cs
 cases e with
 | normal =>
  obtain ⟨hd, v, hr, hR⟩ := hq
  exact LoneTo.steps (Steps.trans harr (.one step_end)) (LoneTo.done ⟨.returned v, _, rfl, hR, rfl, rfl, hd, rfl, fn, hf, hr⟩)
 | ret =>
  obtain ⟨hd, v, hr, hR⟩ := hq
  obtain ⟨todo, hs⟩ := harr
  exact LoneTo.steps hs (LoneTo.done ⟨.returned v, _, rfl, hR, rfl, rfl, hd, rfl, fn, hf, hr⟩)
 | panic chain =>
  obtain ⟨hd, hR⟩ := hq
  obtain ⟨todo, hs⟩ := harr
  exact LoneTo.steps hs (LoneTo.done ⟨.panicked chain, _, rfl, hR, rfl, rfl, hd, fn, hf⟩)
 | exit id => exact hq.elim
 | goto l => exact hq.elim
 | outgrown => exact (hq.2 rfl).elim
theorem loneB_sel {id : Nat} {l : List Oper} {o : Oper} {y : Code} (v : Value) (w' : World)
  (hs : ∀ (k : List Item) cs, step P (solo (G ((base f).at a (.inRegion (o :: l).toArray (0 :: List.range' 1 l.length) :: k)) cs) w) = .next (solo (G (((base f).at a (.inRegion (o :: l).toArray (0 :: List.range' 1 l.length) :: k)).finish v) cs) w'))
  (h : wpList P (o :: l).toArray (fun e a' w'' => e = .normal ∧ LoneB P f R y a' w'') l (a.put o.dst v) w') : LoneB P f R ((Code.region id (o :: l).toArray false).seq y) a w := by
 intro cs
 refine LoneTo.step step_seq (LoneTo.step step_region ?_)
 have hr : List.range (o :: l).toArray.size = 0 :: List.range' 1 l.length := by
  rw [List.range_eq_range', List.size_toArray, List.length_cons, List.range'_succ]
 rw [hr]
 refine LoneTo.step (hs _ cs) ?_
 rw [Frame.finish_at]
 have ho : ((o :: l).toArray[0]?).bind (·.dst) = o.dst := by simp
 rw [ho]
 rw [← wpOps_eq_wpList (ops := (o :: l).toArray) l 1 (fun j => by simp [Nat.add_comm 1 j])] at h
 obtain ⟨e, a', w₂, ⟨rfl, hq⟩, harr⟩ := wp_ops _ _ _ h (base f) [.code y] cs
 exact LoneTo.steps harr (hq cs)
end
section
variable {w : World} {B : Nat} {cv : Option Nat} {sv : Value} {u : U}
set_option maxRecDepth 20000 in
theorem take_some {c : Nat} (c0 : w.cell? ⟨B, 0, none⟩ = some (.chan (some c))) {b : Int} {l : List Int} {s r : Nat} (hc : w.heap[c]? = some (.chan 16 ((b :: l).map (Value.int .u8)).toArray false s r false)) : Calls Tryz.prog 148 #[.pointer (some ⟨B, 0, none⟩)] w fun e w' => e = .returned (.int .u8 b) ∧ w' = w.setChan c 16 (l.map (Value.int .u8)).toArray false s (r + 1) false := by
 refine calls_of_loneB Tryz.func148 rfl ?_
 simp only [Tryz.ntmps148, List.size_toArray, List.length_cons, List.length_nil, Nat.reduceAdd, Nat.reduceSub, Array.replicate_succ, Array.replicate_zero, List.push_toArray, List.append_toArray, List.nil_append, List.cons_append]
 refine loneB_seq ?_
 go_wp2
 refine loneB_seq ?_
 go_wp2
 refine loneB_sel (.tuple #[goInt 0, .bool true, .int .u8 b]) (w.setChan c 16 (l.map (Value.int .u8)).toArray false s (r + 1) false) (fun k cs => ?_) ?_
 ·refine Eq.trans (step_lone_select_recv_buf (c := c) (cap := 16) (buf := ((b :: l).map (Value.int .u8)).toArray) (closed := false) (s := s) (r := r) (tm := false) (z := .int .u8 0) (w₁ := w) (stepG_comm (cases := #[rcase c (.int .u8 0)]) (blocking := false) (shape := .select) (w' := w) rfl rfl (by decide) (by simp [go_sem, execOp, rcase, Act.eval])) hc (by simp)) ?_
  simp [List.take_of_length_le]
 go_wp2
 refine loneB_end Tryz.func148 ?_
 go_wp2
 go_ret
 exact ⟨⟨rfl, rfl⟩, by simp⟩
set_option maxRecDepth 20000 in
theorem take_empty {c : Nat} (c0 : w.cell? ⟨B, 0, none⟩ = some (.chan (some c))) {s r : Nat} (hc : w.heap[c]? = some (.chan 16 #[] false s r false)) : Calls Tryz.prog 148 #[.pointer (some ⟨B, 0, none⟩)] w fun e w' => e = .returned (.int .u8 0) ∧ w' = w := by
 refine calls_of_loneB Tryz.func148 rfl ?_
 simp only [Tryz.ntmps148, List.size_toArray, List.length_cons, List.length_nil, Nat.reduceAdd, Nat.reduceSub, Array.replicate_succ, Array.replicate_zero, List.push_toArray, List.append_toArray, List.nil_append, List.cons_append]
 refine loneB_seq ?_
 go_wp2
 refine loneB_seq ?_
 go_wp2
 refine loneB_sel (.tuple #[goInt (-1), .bool false, .int .u8 0]) w (fun k cs => ?_) ?_
 ·exact step_lone_select_default (c := c) (cap := 16) (s := s) (r := r) (tm := false) (z := .int .u8 0) (w₁ := w) (stepG_comm (cases := #[rcase c (.int .u8 0)]) (blocking := false) (shape := .select) (w' := w) rfl rfl (by decide) (by simp [go_sem, execOp, rcase, Act.eval])) hc
 go_wp2
 refine loneB_end Tryz.func148 ?_
 go_wp2
 go_ret
 exact ⟨⟨rfl, rfl⟩, by simp⟩
set_option maxRecDepth 20000 in
theorem take_nil (c0 : w.cell? ⟨B, 0, none⟩ = some (.chan none)) : Calls Tryz.prog 148 #[.pointer (some ⟨B, 0, none⟩)] w fun e w' => e = .returned (.int .u8 0) ∧ w' = w := by
 refine calls_of_loneB Tryz.func148 rfl ?_
 simp only [Tryz.ntmps148, List.size_toArray, List.length_cons, List.length_nil, Nat.reduceAdd, Nat.reduceSub, Array.replicate_succ, Array.replicate_zero, List.push_toArray, List.append_toArray, List.nil_append, List.cons_append]
 refine loneB_seq ?_
 go_wp2
 refine loneB_seq ?_
 go_wp2
 refine loneB_sel (.tuple #[goInt (-1), .bool false, .int .u8 0]) w (fun k cs => ?_) ?_
 ·exact step_lone_select_recv_nil (z := .int .u8 0) (w₁ := w) (stepG_comm (cases := #[rcaseNil (.int .u8 0)]) (blocking := false) (shape := .select) (w' := w) rfl rfl (by decide) (by simp [go_sem, execOp, rcaseNil, Act.eval]))
 go_wp2
 refine loneB_end Tryz.func148 ?_
 go_wp2
 go_ret
 exact ⟨⟨rfl, rfl⟩, by simp⟩
theorem kpChan (w : World) (c cap : Nat) (buf : Array Value) (cl : Bool) (s r : Nat) (tm : Bool) : Kp (isB c) w (w.setChan c cap buf cl s r tm) :=
 ⟨rfl, rfl, rfl, by simp [World.setChan], fun k hk hs => by simp only [World.setChan]; rw [Array.getElem?_setIfInBounds_ne (fun e => hs e.symm)]⟩
theorem UAt.chan {c : Nat} (h : UAt w B (some c) sv u) (l : List Int) (hl : l.length ≤ 16) (s r : Nat) : UAt (w.setChan c 16 (l.map (Value.int .u8)).toArray false s r false) B (some c) sv { u with came := l } := by
 have hk := kpChan w c 16 (l.map (Value.int .u8)).toArray false s r false
 obtain ⟨s', r', g⟩ := h.chn.lt
 refine ⟨heap_kept h.blk hk ?_, .on c s r l (heap_setChan _ _ _ _ _ _ _ _ (heap_lt g)) hl, h.snt.kept hk ?_⟩
 ·rintro (rfl : B = c)
  rw [h.blk] at g
  cases g
 ·rintro k e (rfl : k = c)
  obtain ⟨cur, g'⟩ := h.snt.lt e
  rw [g'] at g
  cases g
def isC (cv : Option Nat) (k : Nat) : Prop := cv = some k
theorem take_ok (h : UAt w B cv sv u) : Calls Tryz.prog 148 #[.pointer (some ⟨B, 0, none⟩)] w fun e w' => e = .returned (.int .u8 u.first) ∧ UAt w' B cv sv u.took ∧ Kp (isC cv) w w' := by
 have c0 := h.c0
 have hc := h.chn
 obtain ⟨came, lost, tell, on, d0, d1, want, line, modem, jot, sent⟩ := u
 simp only at hc
 cases hc with
 | no => exact (take_nil c0).mono fun e w' ⟨a, b⟩ => ⟨a, b ▸ h, b ▸ Kp.refl _ _⟩
 | on c s r l g hl =>
  cases came with
  | nil => exact (take_empty c0 g).mono fun e w' ⟨a, b⟩ => ⟨a, b ▸ h, b ▸ Kp.refl _ _⟩
  | cons b l =>
   refine (take_some c0 g).mono fun e w' ⟨a, e'⟩ => ⟨a, e' ▸ ?_, e' ▸ ?_⟩
   ·exact h.chan l (by simp only [List.length_cons] at hl; omega) s (r + 1)
   ·exact (kpChan _ _ _ _ _ _ _ _).mono fun k _ (e : k = c) => by rw [e]; rfl
end
end Go.Proofs.YtonfjhbfkichkaaGreat.Ut
namespace Go.Proofs.YtonfjhbfkichkaaGreat.Ut
open Go.ChangeShapes Go.WideShapes Go.ChangeAt Go.RowKit
set_option linter.unusedVariables false
def isBC (B : Nat) (cv : Option Nat) (k : Nat) : Prop := k = B ∨ cv = some k
theorem Kp.bc {B : Nat} {cv : Option Nat} {w w' : World} (h : Kp (isB B) w w') : Kp (isBC B cv) w w' := h.mono fun k _ e => .inl e
theorem Kp.bc' {B : Nat} {cv : Option Nat} {w w' : World} (h : Kp (isC cv) w w') : Kp (isBC B cv) w w' := h.mono fun k _ e => .inr e
section
variable {w : World} {B : Nat} {cv : Option Nat} {sv : Value} {u : U}
def U.rdV (u : U) (n : Int) : Int := if n = 0 then u.first else if n = 1 then u.want else if n = 2 then u.told else if n = 3 then u.line else if n = 4 then u.modem else if n = 5 then u.status else if n = 6 then 176 else u.jot
def U.rd (u : U) (n : Int) : U := if n = 0 then u.took else if n = 2 then u.telling else if n = 5 then { u with lost := false } else u
theorem read_0 (h : UAt w B cv sv u) (k : u.Ok) : Calls Tryz.prog 116 #[.pointer (some ⟨B, 0, none⟩), .int .i64 0] w fun e w' => e = .returned (.int .u8 (u.rdV 0)) ∧ UAt w' B cv sv (u.rd 0) ∧ Kp (isBC B cv) w w' := by
 have HT : Hid _ := take_ok h
 clear h k
 go_enter Tryz.func116, Tryz.ntmps116
 go_wp2_with fail
 refine Calls.mono HT.out ?_; rintro e w1 ⟨rfl, h1, k1⟩
 go_wp2
 go_ret
 exact ⟨rfl, h1, k1.bc'⟩
theorem read_1 (h : UAt w B cv sv u) (k : u.Ok) : Calls Tryz.prog 116 #[.pointer (some ⟨B, 0, none⟩), .int .i64 1] w fun e w' => e = .returned (.int .u8 (u.rdV 1)) ∧ UAt w' B cv sv (u.rd 1) ∧ Kp (isBC B cv) w w' := by
 have cc := h.c7
 have hC : Hid (UAt w B cv sv u) := h
 clear h k
 go_enter Tryz.func116, Tryz.ntmps116
 go_wp2
 go_ret
 exact ⟨rfl, hC.out, Kp.refl _ _⟩
theorem read_2 (h : UAt w B cv sv u) (k : u.Ok) : Calls Tryz.prog 116 #[.pointer (some ⟨B, 0, none⟩), .int .i64 2] w fun e w' => e = .returned (.int .u8 (u.rdV 2)) ∧ UAt w' B cv sv (u.rd 2) ∧ Kp (isBC B cv) w w' := by
 have HT : Hid _ := tell_ok h k
 clear h k
 go_enter Tryz.func116, Tryz.ntmps116
 go_wp2_with fail
 refine Calls.mono HT.out ?_; rintro e w1 ⟨rfl, h1, k1⟩
 go_wp2
 go_ret
 exact ⟨rfl, h1, k1.bc⟩
theorem read_3 (h : UAt w B cv sv u) (k : u.Ok) : Calls Tryz.prog 116 #[.pointer (some ⟨B, 0, none⟩), .int .i64 3] w fun e w' => e = .returned (.int .u8 (u.rdV 3)) ∧ UAt w' B cv sv (u.rd 3) ∧ Kp (isBC B cv) w w' := by
 have cc := h.c8
 have hC : Hid (UAt w B cv sv u) := h
 clear h k
 go_enter Tryz.func116, Tryz.ntmps116
 go_wp2
 go_ret
 exact ⟨rfl, hC.out, Kp.refl _ _⟩
theorem read_4 (h : UAt w B cv sv u) (k : u.Ok) : Calls Tryz.prog 116 #[.pointer (some ⟨B, 0, none⟩), .int .i64 4] w fun e w' => e = .returned (.int .u8 (u.rdV 4)) ∧ UAt w' B cv sv (u.rd 4) ∧ Kp (isBC B cv) w w' := by
 have cc := h.c9
 have hC : Hid (UAt w B cv sv u) := h
 clear h k
 go_enter Tryz.func116, Tryz.ntmps116
 go_wp2
 go_ret
 exact ⟨rfl, hC.out, Kp.refl _ _⟩
theorem read_5 (h : UAt w B cv sv u) (k : u.Ok) : Calls Tryz.prog 116 #[.pointer (some ⟨B, 0, none⟩), .int .i64 5] w fun e w' => e = .returned (.int .u8 (u.rdV 5)) ∧ UAt w' B cv sv (u.rd 5) ∧ Kp (isBC B cv) w w' := by
 have HT : Hid _ := status_ok h
 clear h k
 go_enter Tryz.func116, Tryz.ntmps116
 go_wp2_with fail
 refine Calls.mono HT.out ?_; rintro e w1 ⟨rfl, h1, k1⟩
 go_wp2
 go_ret
 exact ⟨rfl, h1, k1.bc⟩
theorem read_6 (h : UAt w B cv sv u) (k : u.Ok) : Calls Tryz.prog 116 #[.pointer (some ⟨B, 0, none⟩), .int .i64 6] w fun e w' => e = .returned (.int .u8 (u.rdV 6)) ∧ UAt w' B cv sv (u.rd 6) ∧ Kp (isBC B cv) w w' := by
 have hC : Hid (UAt w B cv sv u) := h
 clear h k
 go_enter Tryz.func116, Tryz.ntmps116
 go_wp2
 go_ret
 exact ⟨rfl, hC.out, Kp.refl _ _⟩
theorem read_7 (h : UAt w B cv sv u) (k : u.Ok) : Calls Tryz.prog 116 #[.pointer (some ⟨B, 0, none⟩), .int .i64 7] w fun e w' => e = .returned (.int .u8 (u.rdV 7)) ∧ UAt w' B cv sv (u.rd 7) ∧ Kp (isBC B cv) w w' := by
 have cc := h.c10
 have hC : Hid (UAt w B cv sv u) := h
 clear h k
 go_enter Tryz.func116, Tryz.ntmps116
 go_wp2
 go_ret
 exact ⟨rfl, hC.out, Kp.refl _ _⟩
theorem read_ok (h : UAt w B cv sv u) (k : u.Ok) (n : Int) (n0 : 0 ≤ n) (n1 : n < 8) : Calls Tryz.prog 116 #[.pointer (some ⟨B, 0, none⟩), .int .i64 n] w fun e w' => e = .returned (.int .u8 (u.rdV n)) ∧ UAt w' B cv sv (u.rd n) ∧ Kp (isBC B cv) w w' := by
 rcases (by omega : n = 0 ∨ n = 1 ∨ n = 2 ∨ n = 3 ∨ n = 4 ∨ n = 5 ∨ n = 6 ∨ n = 7) with rfl | rfl | rfl | rfl | rfl | rfl | rfl | rfl
 ·exact read_0 h k
 ·exact read_1 h k
 ·exact read_2 h k
 ·exact read_3 h k
 ·exact read_4 h k
 ·exact read_5 h k
 ·exact read_6 h k
 ·exact read_7 h k
theorem in_no (w : World) (x : Option Addr) (n : Int) (h : x = none ∨ n < 0 ∨ 8 ≤ n) : Calls Tryz.prog 65 #[.pointer x, .int .i64 n] w fun e w' => e = .returned (.tuple #[.int .u8 0, .int .i64 1]) ∧ w' = w := by
 have HH : Hid _ := has_no w x n h
 clear h
 go_enter Tryz.func65, Tryz.ntmps65
 go_wp2_with fail
 refine Calls.mono HH.out ?_; rintro e w1 ⟨rfl, hw⟩; replace hw := hw.symm; subst hw
 go_wp2
 go_ret2
 exact ⟨rfl, rfl⟩
theorem in_div (h : UAt w B cv sv u) (k : u.Ok) (n : Int) (hn : n = 0 ∨ n = 1) (hl : u.lat = true) : Calls Tryz.prog 65 #[.pointer (some ⟨B, 0, none⟩), .int .i64 n] w fun e w' => e = .returned (.tuple #[.int .u8 (u.inV n), .int .i64 0]) ∧ w' = w := by
 have HH : Hid _ := has_ok w ⟨B, 0, none⟩ n (by omega) (by omega)
 have HD : Hid _ := divides_any h k.line n
 have c5 := h.c5
 have c6 := h.c6
 unfold U.inV
 rw [hl] at HD ⊢
 clear h k
 rcases hn with rfl | rfl
 ·simp only [Bool.true_and, Int.reduceLT, decide_true] at HD
  go_enter Tryz.func65, Tryz.ntmps65
  go_wp2_with fail
  refine Calls.mono HH.out ?_; rintro e w1 ⟨rfl, hw⟩; replace hw := hw.symm; subst hw
  go_wp2_with fail
  refine Calls.mono HD.out ?_; rintro e w1 ⟨rfl, hw⟩; replace hw := hw.symm; subst hw
  go_wp2
  go_ret2
  exact ⟨rfl, rfl⟩
 ·simp only [Bool.true_and, Int.reduceLT, decide_true] at HD
  go_enter Tryz.func65, Tryz.ntmps65
  go_wp2_with fail
  refine Calls.mono HH.out ?_; rintro e w1 ⟨rfl, hw⟩; replace hw := hw.symm; subst hw
  go_wp2_with fail
  refine Calls.mono HD.out ?_; rintro e w1 ⟨rfl, hw⟩; replace hw := hw.symm; subst hw
  go_wp2
  go_ret2
  exact ⟨rfl, rfl⟩
theorem in_reg (h : UAt w B cv sv u) (k : u.Ok) (n : Int) (n0 : 0 ≤ n) (n1 : n < 8) (hl : (u.lat && decide (n < 2)) = false) : Calls Tryz.prog 65 #[.pointer (some ⟨B, 0, none⟩), .int .i64 n] w fun e w' => e = .returned (.tuple #[.int .u8 (u.rdV n), .int .i64 0]) ∧ UAt w' B cv sv (u.rd n) ∧ Kp (isBC B cv) w w' := by
 have HH : Hid _ := has_ok w ⟨B, 0, none⟩ n n0 n1
 have HD : Hid _ := divides_any h k.line n
 have HR : Hid _ := read_ok h k n n0 n1
 rw [hl] at HD
 clear h k
 go_enter Tryz.func65, Tryz.ntmps65
 go_wp2_with fail
 refine Calls.mono HH.out ?_; rintro e w1 ⟨rfl, hw⟩; replace hw := hw.symm; subst hw
 go_wp2_with fail
 refine Calls.mono HD.out ?_; rintro e w1 ⟨rfl, hw⟩; replace hw := hw.symm; subst hw
 go_wp2_with fail
 refine Calls.mono HR.out ?_; rintro e w1 ⟨rfl, h1, k1⟩
 go_wp2
 go_ret2
 exact ⟨rfl, h1, k1⟩
theorem rd_in {u : U} {n : Int} (n0 : 0 ≤ n) (hl : (u.lat && decide (n < 2)) = false) : u.rdV n = u.inV n ∧ u.rd n = u.inn n := by
 unfold U.rdV U.rd U.inV U.inn
 by_cases e0 : n = 0
 ·subst e0
  have : ¬ u.lat = true := by intro e; rw [e] at hl; simp at hl
  simp [this]
 ·by_cases e1 : n = 1
  ·subst e1
   have : ¬ u.lat = true := by intro e; rw [e] at hl; simp at hl
   simp [this]
  ·simp [e0, e1]
theorem in_ok (h : UAt w B cv sv u) (k : u.Ok) (n : Int) (n0 : 0 ≤ n) (n1 : n < 8) : Calls Tryz.prog 65 #[.pointer (some ⟨B, 0, none⟩), .int .i64 n] w fun e w' => e = .returned (.tuple #[.int .u8 (u.inV n), .int .i64 0]) ∧ UAt w' B cv sv (u.inn n) ∧ Kp (isBC B cv) w w' := by
 cases e : (u.lat && decide (n < 2))
 ·obtain ⟨e1, e2⟩ := rd_in n0 e
  rw [← e1, ← e2]
  exact in_reg h k n n0 n1 e
 ·simp only [Bool.and_eq_true, decide_eq_true_eq] at e
  have en : u.inn n = u := by
   unfold U.inn
   by_cases e0 : n = 0
   ·rw [if_pos e0, if_pos e.1]
   ·rw [if_neg e0, if_neg (by omega), if_neg (by omega)]
  rw [en]
  exact (in_div h k n (by omega) e.1).mono fun e w' ⟨a, b⟩ => ⟨a, b ▸ h, b ▸ Kp.refl _ _⟩
theorem sent_ok (h : UAt w B cv sv u) : Calls Tryz.prog 54 #[.pointer (some ⟨B, 0, none⟩)] w fun e w' => e = .returned sv ∧ UAt w' B cv (.slice none 0 0) u.hush ∧ Kp (isB B) w w' := by
 have c2 := h.c2
 have z2 := h.fz 2
 have hC : Hid (UAt w B cv sv u) := h
 clear h
 go_enter Tryz.func54, Tryz.ntmps54
 go_wp2
 go_ret
 exact ⟨rfl, hC.out.put cv (.slice none 0 0) u.hush rfl hC.out.chn (OwnB.nil _), kpB B _ _ _⟩
theorem line_ok (h : UAt w B cv sv u) (k : u.Ok) : Calls Tryz.prog 72 #[.pointer (some ⟨B, 0, none⟩)] w fun e w' => e = .returned (.bool u.ln) ∧ w' = w := by
 have HT : Hid _ := cause_any h k
 unfold U.ln
 clear h k
 go_enter Tryz.func72, Tryz.ntmps72
 go_wp2_with fail
 refine Calls.mono HT.out ?_; rintro e w1 ⟨rfl, hw⟩; replace hw := hw.symm; subst hw
 go_wp2
 go_ret
 exact ⟨rfl, rfl⟩
end
def uz : Array Value := uC none (.slice none 0 0) u0
theorem new_ok (w : World) : Calls Tryz.prog 26 #[] w fun e w' => e = .returned (.pointer (some ⟨w.heap.size, 0, none⟩)) ∧ UAt w' w.heap.size none (.slice none 0 0) u0 ∧ Kp noB w w' := by
 have h0 : Hid (UAt (w.alloc (.cells uz 129)) w.heap.size none (.slice none 0 0) u0) := ⟨heap_new _ _, .no, OwnB.nil _⟩
 have k0 : Hid (Kp noB w (w.alloc (.cells uz 129))) := Kp.alloc _ _ _
 go_enter Tryz.func26, Tryz.ntmps26
 go_wp2
 go_ret
 exact ⟨rfl, h0.out, k0.out⟩
set_option maxRecDepth 20000
def isO (v : Value) (k : Nat) : Prop := v.ownBlock = some k
theorem kp_grown {w w' : World} {v : Value} (g : w.grownBy w' v.ownBlock) : Kp (isO v) w w' :=
 ⟨g.os, g.tape, g.output, g.size, fun k hk hs => g.block k hk (fun e => hs e.symm)⟩
def wB (w : World) (v : Int) : World := w.alloc (.cells #[.int .u8 v] 5)
theorem appB {w : World} {sv : Value} {l : List Int} (h : OwnB w sv l) (v : Int) (hs : l.length < 140737488355328) :
  ∃ v' w', (Builtin.append_ #[22, 22] 22 #[sv, .slice (some ⟨w.heap.size, 0, none⟩) 1 1]).run Tryz.prog (wB w v) = .ok v' w' ∧ OwnB w' v' (l ++ [v]) ∧ Kp (isO sv) w w' ∧ (∀ g, v'.ownBlock = some g → sv.ownBlock = some g ∨ w.heap.size ≤ g) := by
 have h' : OwnB (wB w v) sv l := h.kept (Kp.alloc noB _ _) (fun _ _ => id)
 have hc : (wB w v).cell? ⟨w.heap.size, 0, none⟩ = some (.int .u8 v) := by
  have := heap_new w (.cells #[.int .u8 v] 5)
  unfold wB World.cell?
  simp only [this]
  rfl
 obtain ⟨v', w', hr, h2, h3, h4, h5⟩ := run_append_own_at (P := Tryz.prog) (wB w v) 0 22 22 5 _ (.int .u8 0) 1 1 Tryz.underlying22 (show Tryz.prog.info? 5 = some _ from Tryz.type5) (by kernel_rfl) (by kernel_rfl) (by kernel_rfl) (by kernel_rfl) (by decide)
  sv l.length (l.map (Value.int .u8)) h' ⟨w.heap.size, 0, none⟩ 1 1 [.int .u8 v] (by simp) (by
   intro j u hu
   cases j with
   | zero => simp only [List.getElem?_cons_zero, Option.some.injEq] at hu; subst hu; exact hc
   | succ j => simp at hu) (by simp [Value.oneCell']) (by unfold maxLen; omega) (by omega) (Nat.zero_le _)
 refine ⟨v', w', hr, ?_, (Kp.alloc _ _ _).trans (kp_grown h3), fun g e => ?_⟩
 ·unfold OwnB
  rw [List.length_append, List.map_append]
  exact h2
 ·rcases h5 with e5 | e5
  ·exact .inl (e5 ▸ e)
  ·rw [e5] at e
   simp only [Option.some.injEq] at e
   right
   subst e
   simp [wB]
theorem wpList_appB {ops : Array Oper} {rest : List Oper} {o : Oper} {a : Act} {w w' : World} {Q : Exit → Act → World → Prop} {v v' x : Value} (hgd : o.guard = none) (s y : Operand)
  (ho : o.op = .call { callee := .builtin .append, args := #[s, y], argTypes := #[22, 22] }) (hty : o.type = 22) (hs : a.eval s = v) (hx : a.eval y = x)
  (hr : (Builtin.append_ #[22, 22] 22 #[v, x]).run Tryz.prog w = .ok v' w') (h : wpList Tryz.prog ops Q rest (a.put o.dst v') w') : wpList Tryz.prog ops Q (o :: rest) a w := by
 refine wpList_plain hgd fun K hK => ?_
 unfold Oper.wp execOp
 simp only [ho, hty, resolve, invoke, builtin, Sem.run_bind, Sem.run_pure, Result.andThen_ok, List.map_toArray, List.map_cons, List.map_nil, hs, hx, hr]
 exact hK _ _ h
section
variable {w : World} {B : Nat} {cv : Option Nat} {sv : Value} {u : U}
def UOut (w : World) (B : Nat) (cv : Option Nat) (sv : Value) (u : U) (w' : World) : Prop :=
 ∃ cv' sv', UAt w' B cv' sv' u ∧ (∀ k, foot B cv' sv' k → foot B cv sv k ∨ w.heap.size ≤ k) ∧ Kp (foot B cv sv) w w'
theorem Kp.foot {w' : World} (h : Kp (isB B) w w') : Kp (foot B cv sv) w w' := h.mono fun k _ e => .inl e
theorem UAt.out {w' : World} (h : UAt w' B cv sv u) (k : Kp (isB B) w w') : UOut w B cv sv u w' := ⟨cv, sv, h, fun _ g => .inl g, k.foot⟩
theorem out_no (w : World) (x : Option Addr) (n v : Int) (h : x = none ∨ n < 0 ∨ 8 ≤ n) : Calls Tryz.prog 64 #[.pointer x, .int .i64 n, .int .u8 v] w fun e w' => e = .returned (.int .i64 1) ∧ w' = w := by
 have HH : Hid _ := has_no w x n h
 clear h
 go_enter Tryz.func64, Tryz.ntmps64
 go_wp2_with fail
 refine Calls.mono HH.out ?_; rintro e w1 ⟨rfl, hw⟩; replace hw := hw.symm; subst hw
 go_wp2
 go_ret
 exact ⟨rfl, rfl⟩
theorem out_div0 (h : UAt w B cv sv u) (k : u.Ok) (v : Int) (hl : u.lat = true) : Calls Tryz.prog 64 #[.pointer (some ⟨B, 0, none⟩), .int .i64 0, .int .u8 v] w fun e w' => e = .returned (.int .i64 0) ∧ UOut w B cv sv (u.out 0 v) w' := by
 have HH : Hid _ := has_ok w ⟨B, 0, none⟩ 0 (by decide) (by decide)
 have HD : Hid _ := divides_any h k.line 0
 have cc := h.c5
 have zz := h.fz 5
 have hC : Hid (UAt w B cv sv u) := h
 rw [hl] at HD
 simp only [Bool.true_and, Int.reduceLT, decide_true] at HD
 clear h k
 go_enter Tryz.func64, Tryz.ntmps64
 go_wp2_with fail
 refine Calls.mono HH.out ?_; rintro e w1 ⟨rfl, hw⟩; replace hw := hw.symm; subst hw
 go_wp2_with fail
 refine Calls.mono HD.out ?_; rintro e w1 ⟨rfl, hw⟩; replace hw := hw.symm; subst hw
 go_wp2
 go_ret
 refine ⟨rfl, ?_⟩
 have e : u.out 0 v = { u with d0 := v } := by unfold U.out; rw [if_pos rfl, if_pos hl]
 rw [e]
 exact (hC.out.set { u with d0 := v } rfl rfl rfl).out (kpB B _ _ _)
theorem out_div1 (h : UAt w B cv sv u) (k : u.Ok) (v : Int) (hl : u.lat = true) : Calls Tryz.prog 64 #[.pointer (some ⟨B, 0, none⟩), .int .i64 1, .int .u8 v] w fun e w' => e = .returned (.int .i64 0) ∧ UOut w B cv sv (u.out 1 v) w' := by
 have HH : Hid _ := has_ok w ⟨B, 0, none⟩ 1 (by decide) (by decide)
 have HD : Hid _ := divides_any h k.line 1
 have cc := h.c6
 have zz := h.fz 6
 have hC : Hid (UAt w B cv sv u) := h
 rw [hl] at HD
 simp only [Bool.true_and, Int.reduceLT, decide_true] at HD
 clear h k
 go_enter Tryz.func64, Tryz.ntmps64
 go_wp2_with fail
 refine Calls.mono HH.out ?_; rintro e w1 ⟨rfl, hw⟩; replace hw := hw.symm; subst hw
 go_wp2_with fail
 refine Calls.mono HD.out ?_; rintro e w1 ⟨rfl, hw⟩; replace hw := hw.symm; subst hw
 go_wp2
 go_ret
 refine ⟨rfl, ?_⟩
 have e : u.out 1 v = { u with d1 := v } := by unfold U.out; rw [if_neg (by decide), if_pos rfl, if_pos hl]
 rw [e]
 exact (hC.out.set { u with d1 := v } rfl rfl rfl).out (kpB B _ _ _)
theorem out_0 (h : UAt w B cv sv u) (k : u.Ok) (v : Int) (hv : By v) (hl : u.lat = false) (hs : u.sent.length < 140737488355328) : Calls Tryz.prog 64 #[.pointer (some ⟨B, 0, none⟩), .int .i64 0, .int .u8 v] w fun e w' => e = .returned (.int .i64 0) ∧ UOut w B cv sv (u.out 0 v) w' := by
 have HH : Hid _ := has_ok w ⟨B, 0, none⟩ 0 (by decide) (by decide)
 have HD : Hid _ := divides_any h k.line 0
 have hC : Hid (UAt w B cv sv u) := h
 rw [hl] at HD
 simp only [Bool.false_and] at HD
 have c2 := h.c2
 have z2 := h.fz 2
 obtain ⟨v', w', hr, h2, h3, h4⟩ := appB h.snt v hs
 obtain ⟨pa, ca, ev⟩ := h2.sl
 subst ev
 have HR : Hid _ := hr
 unfold wB at HR
 have h1 : w'.heap[B]? = some (.cells (uC cv sv u) 129 (0, 0)) := heap_kept h.blk h3 (fun e => by obtain ⟨cur, g⟩ := h.snt.lt e; rw [h.blk] at g; simp at g)
 have hch : ChAt w' cv u.came := h.chn.kept h3 (fun c e e' => by subst e; obtain ⟨s, r, g⟩ := h.chn.lt; obtain ⟨cur, g'⟩ := h.snt.lt e'; rw [g] at g'; cases g')
 have c2' : w'.cell? ⟨B, 2, none⟩ = some sv := by simp [World.cell?, h1, uC]
 have c3' : w'.cell? ⟨B, 3, none⟩ = some (.bool u.tell) := by simp [World.cell?, h1, uC]
 have z2' : w'.frozen? ⟨B, 2, none⟩ = false := by simp [World.frozen?, h1]
 have z3' : w'.frozen? ⟨B, 3, none⟩ = false := by simp [World.frozen?, h1]
 have hF : Hid (UOut w B cv sv (u.send v) ((w'.setCell ⟨B, 2, none⟩ (.slice pa (u.sent ++ [v]).length ca)).setCell ⟨B, 3, none⟩ (.bool true))) := by
  have hk := kpB B w' 2 (.slice pa (u.sent ++ [v]).length ca)
  have hne : ∀ g, (Value.slice pa (u.sent ++ [v]).length ca).ownBlock = some g → ¬ isB B g := by
   rintro g e (rfl : g = B)
   obtain ⟨cur, g⟩ := h2.lt e
   rw [h1] at g
   simp at g
  have hcb : ∀ c, cv = some c → ¬ isB B c := by
   rintro c rfl (rfl : c = B)
   obtain ⟨s, r, g⟩ := hch.lt
   rw [h1] at g
   cases g
  have hA : UAt (w'.setCell ⟨B, 2, none⟩ (.slice pa (u.sent ++ [v]).length ca)) B cv (.slice pa (u.sent ++ [v]).length ca) { u with sent := u.sent ++ [v] } := ⟨by rw [heap_set h1]; simp [uC], hch.kept hk hcb, h2.kept hk hne⟩
  refine ⟨cv, (.slice pa (u.sent ++ [v]).length ca), hA.set _ rfl rfl rfl, fun k g => ?_, ?_⟩
  ·rcases g with g | g | g
   ·exact .inl (.inl g)
   ·exact .inl (.inr (.inl g))
   ·rcases h4 k g with g | g
    ·exact .inl (.inr (.inr g))
    ·exact .inr g
  ·exact ((h3.mono fun k _ e => .inr (.inr e)).trans hk.foot).trans (kpB B _ _ _).foot
 clear h1 hch h2 h3 h4 hr
 clear h k
 go_enter Tryz.func64, Tryz.ntmps64
 go_wp2_with fail
 refine Calls.mono HH.out ?_; rintro e w1 ⟨rfl, hw⟩; replace hw := hw.symm; subst hw
 go_wp2_with fail
 refine Calls.mono HD.out ?_; rintro e w1 ⟨rfl, hw⟩; replace hw := hw.symm; subst hw
 go_wp2_with (at_builtin; refine wpList_appB rfl _ _ rfl rfl rfl rfl HR.out ?_)
 go_ret
 refine ⟨rfl, ?_⟩
 have e : u.out 0 v = u.send v := by unfold U.out; rw [if_pos rfl, if_neg (by rw [hl]; decide)]
 rw [e]
 have hF' := hF.out
 simp only [List.length_append, List.length_singleton] at hF'
 exact hF'
theorem out_1 (h : UAt w B cv sv u) (k : u.Ok) (v : Int) (hv : By v) (hl : u.lat = false) : Calls Tryz.prog 64 #[.pointer (some ⟨B, 0, none⟩), .int .i64 1, .int .u8 v] w fun e w' => e = .returned (.int .i64 0) ∧ UOut w B cv sv (u.out 1 v) w' := by
 have HH : Hid _ := has_ok w ⟨B, 0, none⟩ 1 (by decide) (by decide)
 have HD : Hid _ := divides_any h k.line 1
 have hC : Hid (UAt w B cv sv u) := h
 rw [hl] at HD
 simp only [Bool.false_and] at HD
 have eb := and15 hv
 have HW : Hid _ := want_ok h k (v % 16) (by omega)
 clear h k
 go_enter Tryz.func64, Tryz.ntmps64
 go_wp2_with fail
 refine Calls.mono HH.out ?_; rintro e w1 ⟨rfl, hw⟩; replace hw := hw.symm; subst hw
 go_wp2_with fail
 refine Calls.mono HD.out ?_; rintro e w1 ⟨rfl, hw⟩; replace hw := hw.symm; subst hw
 go_wp2_with fail
 refine Calls.mono HW.out ?_; rintro e w1 ⟨rfl, h1, k1⟩
 go_wp2
 go_ret
 refine ⟨rfl, ?_⟩
 have e : u.out 1 v = u.wants (v % 16) := by unfold U.out; rw [if_neg (by decide), if_pos rfl, if_neg (by rw [hl]; decide)]
 rw [e]
 exact h1.out k1
theorem out_2 (h : UAt w B cv sv u) (k : u.Ok) (v : Int) (hv : By v) : Calls Tryz.prog 64 #[.pointer (some ⟨B, 0, none⟩), .int .i64 2, .int .u8 v] w fun e w' => e = .returned (.int .i64 0) ∧ UOut w B cv sv (u.out 2 v) w' := by
 have HH : Hid _ := has_ok w ⟨B, 0, none⟩ 2 (by decide) (by decide)
 have HD : Hid _ := divides_any h k.line 2
 have hC : Hid (UAt w B cv sv u) := h
 simp only [Int.reduceLT, decide_false, Bool.and_false] at HD
 have HW : Hid _ := turn_ok h k v hv
 clear h k
 go_enter Tryz.func64, Tryz.ntmps64
 go_wp2_with fail
 refine Calls.mono HH.out ?_; rintro e w1 ⟨rfl, hw⟩; replace hw := hw.symm; subst hw
 go_wp2_with fail
 refine Calls.mono HD.out ?_; rintro e w1 ⟨rfl, hw⟩; replace hw := hw.symm; subst hw
 go_wp2_with fail
 refine Calls.mono HW.out ?_; rintro e w1 ⟨rfl, h1, k1⟩
 go_wp2
 go_ret
 refine ⟨rfl, ?_⟩
 obtain ⟨cv', g, h1⟩ := h1
 refine ⟨cv', sv, h1, fun j hj => .inl ?_, k1.foot⟩
 rcases hj with hj | hj | hj
 ·exact .inl hj
 ·rcases g with rfl | rfl
  ·cases hj
  ·exact .inr (.inl hj)
 ·exact .inr (.inr hj)
theorem out_3 (h : UAt w B cv sv u) (k : u.Ok) (v : Int) (hv : By v) : Calls Tryz.prog 64 #[.pointer (some ⟨B, 0, none⟩), .int .i64 3, .int .u8 v] w fun e w' => e = .returned (.int .i64 0) ∧ UOut w B cv sv (u.out 3 v) w' := by
 have HH : Hid _ := has_ok w ⟨B, 0, none⟩ 3 (by decide) (by decide)
 have HD : Hid _ := divides_any h k.line 3
 have hC : Hid (UAt w B cv sv u) := h
 simp only [Int.reduceLT, decide_false, Bool.and_false] at HD
 have cc := h.c8
 have zz := h.fz 8
 clear h k
 go_enter Tryz.func64, Tryz.ntmps64
 go_wp2_with fail
 refine Calls.mono HH.out ?_; rintro e w1 ⟨rfl, hw⟩; replace hw := hw.symm; subst hw
 go_wp2_with fail
 refine Calls.mono HD.out ?_; rintro e w1 ⟨rfl, hw⟩; replace hw := hw.symm; subst hw
 go_wp2
 go_ret
 refine ⟨rfl, ?_⟩
 exact (hC.out.set (u.out 3 v) rfl rfl rfl).out (kpB B _ _ _)
theorem out_4 (h : UAt w B cv sv u) (k : u.Ok) (v : Int) (hv : By v) : Calls Tryz.prog 64 #[.pointer (some ⟨B, 0, none⟩), .int .i64 4, .int .u8 v] w fun e w' => e = .returned (.int .i64 0) ∧ UOut w B cv sv (u.out 4 v) w' := by
 have HH : Hid _ := has_ok w ⟨B, 0, none⟩ 4 (by decide) (by decide)
 have HD : Hid _ := divides_any h k.line 4
 have hC : Hid (UAt w B cv sv u) := h
 simp only [Int.reduceLT, decide_false, Bool.and_false] at HD
 have cc := h.c9
 have zz := h.fz 9
 have eb := and31 hv
 clear h k
 go_enter Tryz.func64, Tryz.ntmps64
 go_wp2_with fail
 refine Calls.mono HH.out ?_; rintro e w1 ⟨rfl, hw⟩; replace hw := hw.symm; subst hw
 go_wp2_with fail
 refine Calls.mono HD.out ?_; rintro e w1 ⟨rfl, hw⟩; replace hw := hw.symm; subst hw
 go_wp2
 go_ret
 refine ⟨rfl, ?_⟩
 exact (hC.out.set (u.out 4 v) rfl rfl rfl).out (kpB B _ _ _)
theorem out_7 (h : UAt w B cv sv u) (k : u.Ok) (v : Int) (hv : By v) : Calls Tryz.prog 64 #[.pointer (some ⟨B, 0, none⟩), .int .i64 7, .int .u8 v] w fun e w' => e = .returned (.int .i64 0) ∧ UOut w B cv sv (u.out 7 v) w' := by
 have HH : Hid _ := has_ok w ⟨B, 0, none⟩ 7 (by decide) (by decide)
 have HD : Hid _ := divides_any h k.line 7
 have hC : Hid (UAt w B cv sv u) := h
 simp only [Int.reduceLT, decide_false, Bool.and_false] at HD
 have cc := h.c10
 have zz := h.fz 10
 clear h k
 go_enter Tryz.func64, Tryz.ntmps64
 go_wp2_with fail
 refine Calls.mono HH.out ?_; rintro e w1 ⟨rfl, hw⟩; replace hw := hw.symm; subst hw
 go_wp2_with fail
 refine Calls.mono HD.out ?_; rintro e w1 ⟨rfl, hw⟩; replace hw := hw.symm; subst hw
 go_wp2
 go_ret
 refine ⟨rfl, ?_⟩
 exact (hC.out.set (u.out 7 v) rfl rfl rfl).out (kpB B _ _ _)
theorem out_5 (h : UAt w B cv sv u) (k : u.Ok) (v : Int) (hv : By v) : Calls Tryz.prog 64 #[.pointer (some ⟨B, 0, none⟩), .int .i64 5, .int .u8 v] w fun e w' => e = .returned (.int .i64 0) ∧ UOut w B cv sv (u.out 5 v) w' := by
 have HH : Hid _ := has_ok w ⟨B, 0, none⟩ 5 (by decide) (by decide)
 have HD : Hid _ := divides_any h k.line 5
 have hC : Hid (UAt w B cv sv u) := h
 simp only [Int.reduceLT, decide_false, Bool.and_false] at HD
 clear h k
 go_enter Tryz.func64, Tryz.ntmps64
 go_wp2_with fail
 refine Calls.mono HH.out ?_; rintro e w1 ⟨rfl, hw⟩; replace hw := hw.symm; subst hw
 go_wp2_with fail
 refine Calls.mono HD.out ?_; rintro e w1 ⟨rfl, hw⟩; replace hw := hw.symm; subst hw
 go_wp2
 go_ret
 refine ⟨rfl, ?_⟩
 exact hC.out.out (Kp.refl _ _)
theorem out_6 (h : UAt w B cv sv u) (k : u.Ok) (v : Int) (hv : By v) : Calls Tryz.prog 64 #[.pointer (some ⟨B, 0, none⟩), .int .i64 6, .int .u8 v] w fun e w' => e = .returned (.int .i64 0) ∧ UOut w B cv sv (u.out 6 v) w' := by
 have HH : Hid _ := has_ok w ⟨B, 0, none⟩ 6 (by decide) (by decide)
 have HD : Hid _ := divides_any h k.line 6
 have hC : Hid (UAt w B cv sv u) := h
 simp only [Int.reduceLT, decide_false, Bool.and_false] at HD
 clear h k
 go_enter Tryz.func64, Tryz.ntmps64
 go_wp2_with fail
 refine Calls.mono HH.out ?_; rintro e w1 ⟨rfl, hw⟩; replace hw := hw.symm; subst hw
 go_wp2_with fail
 refine Calls.mono HD.out ?_; rintro e w1 ⟨rfl, hw⟩; replace hw := hw.symm; subst hw
 go_wp2
 go_ret
 refine ⟨rfl, ?_⟩
 exact hC.out.out (Kp.refl _ _)
theorem out_ok (h : UAt w B cv sv u) (k : u.Ok) (n v : Int) (n0 : 0 ≤ n) (n1 : n < 8) (hv : By v) (hs : u.sent.length < 140737488355328) : Calls Tryz.prog 64 #[.pointer (some ⟨B, 0, none⟩), .int .i64 n, .int .u8 v] w fun e w' => e = .returned (.int .i64 0) ∧ UOut w B cv sv (u.out n v) w' := by
 rcases (by omega : n = 0 ∨ n = 1 ∨ n = 2 ∨ n = 3 ∨ n = 4 ∨ n = 5 ∨ n = 6 ∨ n = 7) with rfl | rfl | rfl | rfl | rfl | rfl | rfl | rfl
 ·cases e : u.lat
  ·exact out_0 h k v hv e hs
  ·exact out_div0 h k v e
 ·cases e : u.lat
  ·exact out_1 h k v hv e
  ·exact out_div1 h k v e
 ·exact out_2 h k v hv
 ·exact out_3 h k v hv
 ·exact out_4 h k v hv
 ·exact out_5 h k v hv
 ·exact out_6 h k v hv
 ·exact out_7 h k v hv
end
end Go.Proofs.YtonfjhbfkichkaaGreat.Ut
