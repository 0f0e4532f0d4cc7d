/- The bus and its devices: UtMath, UtBase, UtLeaf, UtMid, UtIn, UtW, UrBase, UrLeaf, UrAll. -/
import Derived.Test.YtiagfmkinefidaaGreatEx01
import Derived.MapKept
import Derived.Maps.AppendAt
import Derived.OwnWalk
import Derived.Conc.LoneSelectN
import Derived.Conc.LoneSelect
import Derived.Test.YtiagfmkinefidaaGreatRows
import Derived.WalkKit
import Derived.ProofKit
import Derived.OpenShut
import Derived.Carry
import Derived.Deep.Slices
import Derived.Below
import Derived.SizedLaws
import Derived.Laws.BytesArg
namespace Go.Proofs.YtiagfmkinefidaaGreat.Ut
open Go.RowKit
set_option linter.unusedVariables false
set_option maxRecDepth 20000
structure U where
  came : List Int
  lost : Bool
  tell : Bool
  on : Bool
  d0 : Int
  d1 : Int
  want : Int
  line : Int
  modem : Int
  jot : Int
  sent : List Int
def U.there (u : U) : Bool := decide (0 < u.came.length)
def b0 (v : Int) : Bool := v % 2 == 1
def b1 (v : Int) : Bool := v / 2 % 2 == 1
def U.why (u : U) : Int := if (u.there && b0 u.want) = true then 4 else if (u.tell && b1 u.want) = true then 2 else 1
def U.room (u : U) : Nat := if u.on = true then 16 else 1
def U.ln (u : U) : Bool := u.why != 1
def u0 : U := ⟨[], false, false, false, 0, 0, 0, 0, 0, 0, []⟩
def By (x : Int) : Prop := 0 ≤ x ∧ x < 256
structure U.Ok (u : U) : Prop where
  d0 : By u.d0
  d1 : By u.d1
  want : 0 ≤ u.want ∧ u.want < 16
  line : By u.line
  modem : By u.modem
  jot : By u.jot
  came : ∀ b, b ∈ u.came → By b
  few : u.came.length ≤ u.room
  sent : ∀ b, b ∈ u.sent → By b
end Go.Proofs.YtiagfmkinefidaaGreat.Ut
namespace Go.Proofs.YtiagfmkinefidaaGreat.Ut
open Go.ChangeShapes Go.WideShapes Go.ChangeAt Go.RowKit
set_option linter.unusedVariables false
set_option maxRecDepth 20000
/-- Outside the blocks of S the world is as it was. -/
structure Kp (S : Nat → Prop) (w w' : World) : Prop where
  os : w'.os = w.os
  tape : w'.tape = w.tape
  output : w'.output = w.output
  size : w.heap.size ≤ w'.heap.size
  block : ∀ k, k < w.heap.size → ¬ S k → w'.heap[k]? = w.heap[k]?
theorem Kp.refl (S : Nat → Prop) (w : World) : Kp S w w := ⟨rfl, rfl, rfl, Nat.le_refl _, fun _ _ _ => rfl⟩
theorem Kp.trans {S : Nat → Prop} {a b c : World} (h : Kp S a b) (k : Kp S b c) : Kp S a c :=
  ⟨k.os.trans h.os, k.tape.trans h.tape, k.output.trans h.output, Nat.le_trans h.size k.size, fun i hi hs => (k.block i (Nat.lt_of_lt_of_le hi h.size) hs).trans (h.block i hi hs)⟩
theorem Kp.mono {S T : Nat → Prop} {a b : World} (h : Kp S a b) (hST : ∀ k, k < a.heap.size → S k → T k) : Kp T a b :=
  ⟨h.os, h.tape, h.output, h.size, fun i hi hs => h.block i hi (fun g => hs (hST i hi g))⟩
theorem Kp.alloc (S : Nat → Prop) (w : World) (o : Obj) : Kp S w (w.alloc o) :=
  ⟨rfl, rfl, rfl, by simp, fun k hk _ => Below.heap_alloc _ _ _ hk⟩
theorem Kp.setCell {S : Nat → Prop} (w : World) {p : Addr} (hp : S p.block) (u : Value) : Kp S w (w.setCell p u) :=
  ⟨rfl, rfl, rfl, by simp [World.setCell], fun k hk hs => Below.heap_setCell _ _ _ _ (fun e => hs (e ▸ hp))⟩
theorem Kp.drew {S : Nat → Prop} {w w' : World} (h : Kp S w w') : Kp S w w'.drew := ⟨h.os, h.tape, h.output, h.size, h.block⟩
/-- Kp over another set, where that set's old blocks are in the first. -/
theorem Kp.over {S T : Nat → Prop} {a b c : World} (h : Kp T a b) (k : Kp S b c) (hS : ∀ j, j < a.heap.size → S j → T j) : Kp T a c :=
  ⟨k.os.trans h.os, k.tape.trans h.tape, k.output.trans h.output, Nat.le_trans h.size k.size, fun i hi hs => (k.block i (Nat.lt_of_lt_of_le hi h.size) (fun g => hs (hS i hi g))).trans (h.block i hi hs)⟩
theorem heap_lt {w : World} {b : Nat} {o : Obj} (h : w.heap[b]? = some o) : b < w.heap.size := (Array.getElem?_eq_some_iff.1 h).1
theorem heap_kept {S : Nat → Prop} {w w' : World} {b : Nat} {o : Obj} (h : w.heap[b]? = some o) (k : Kp S w w') (hS : ¬ S b) : w'.heap[b]? = some o := (k.block b (heap_lt h) hS).trans h
theorem heap_set {w : World} {b k : Nat} {v : Value} {c : Array Value} {t : TypeId} {fr : Nat × Nat} (h : w.heap[b]? = some (.cells c t fr)) : (w.setCell ⟨b, k, none⟩ v).heap[b]? = some (.cells (c.setIfInBounds k v) t fr) := by
  simp [World.setCell, Array.getElem?_modify, h]
def noB (_ : Nat) : Prop := False
def isB (B k : Nat) : Prop := k = B
theorem Kp.any {S : Nat → Prop} {w w' : World} (h : Kp noB w w') : Kp S w w' := h.mono fun _ _ f => f.elim
theorem kpB (B : Nat) (w : World) (k : Nat) (v : Value) : Kp (isB B) w (w.setCell ⟨B, k, none⟩ v) := Kp.setCell (S := isB B) w (p := ⟨B, k, none⟩) rfl v
theorem heap_new (w : World) (o : Obj) : (w.alloc o).heap[w.heap.size]? = some o := (MapKept.heap_alloc w o).1
/-- A list of bytes in a block of its own. -/
def OwnB (w : World) (v : Value) (l : List Int) : Prop := w.ownsRow 0 5 1 v l.length (l.map (Value.int .u8))
/-- A channel of at most 16 bytes, or none yet. -/
inductive ChAt (w : World) : Option Nat → List Int → Prop
  | no : ChAt w none []
  | on (c s r : Nat) (l : List Int) (h : w.heap[c]? = some (.chan 16 (l.map (Value.int .u8)).toArray false s r false)) (hl : l.length ≤ 16) : ChAt w (some c) l
theorem ChAt.kept {S : Nat → Prop} {w w' : World} {cv : Option Nat} {l : List Int} (h : ChAt w cv l) (k : Kp S w w') (hS : ∀ c, cv = some c → ¬ S c) : ChAt w' cv l := by
  cases h with
  | no => exact .no
  | on c s r l h hl => exact .on c s r l (heap_kept h k (hS c rfl)) hl
theorem OwnB.kept {S : Nat → Prop} {w w' : World} {v : Value} {l : List Int} (h : OwnB w v l) (k : Kp S w w') (hS : ∀ g, v.ownBlock = some g → ¬ S g) : OwnB w' v l := by
  refine ⟨h.1, ?_⟩
  rcases h.2 with g | ⟨g, cap, cur, rfl, hb, hg, r⟩
  · exact .inl g
  · exact .inr ⟨g, cap, cur, rfl, hb, heap_kept hg k (hS g rfl), r⟩
theorem OwnB.nil (w : World) : OwnB w (.slice none 0 0) [] := ⟨rfl, .inl ⟨rfl, rfl⟩⟩
def uC (cv : Option Nat) (sv : Value) (u : U) : Array Value := #[.chan cv, .bool u.lost, sv, .bool u.tell, .bool u.on, .int .u8 u.d0, .int .u8 u.d1, .int .u8 u.want, .int .u8 u.line, .int .u8 u.modem, .int .u8 u.jot]
structure UAt (w : World) (B : Nat) (cv : Option Nat) (sv : Value) (u : U) : Prop where
  blk : w.heap[B]? = some (.cells (uC cv sv u) 157 (0, 0))
  chn : ChAt w cv u.came
  snt : OwnB w sv u.sent
section
variable {w : World} {B : Nat} {cv : Option Nat} {sv : Value} {u : U}
theorem UAt.kept {S : Nat → Prop} {w' : World} (h : UAt w B cv sv u) (k : Kp S w w') (hB : ¬ S B) (hc : ∀ c, cv = some c → ¬ S c) (hs : ∀ g, sv.ownBlock = some g → ¬ S g) : UAt w' B cv sv u :=
  ⟨heap_kept h.blk k hB, h.chn.kept k hc, h.snt.kept k hs⟩
theorem UAt.cell (h : UAt w B cv sv u) {k : Nat} {v : Value} (e : (uC cv sv u)[k]? = some v) : w.cell? ⟨B, k, none⟩ = some v := by
  simp [World.cell?, h.blk, e]
theorem UAt.c0 (h : UAt w B cv sv u) : w.cell? ⟨B, 0, none⟩ = some (.chan cv) := h.cell rfl
theorem UAt.c3 (h : UAt w B cv sv u) : w.cell? ⟨B, 3, none⟩ = some (.bool u.tell) := h.cell rfl
theorem UAt.c7 (h : UAt w B cv sv u) : w.cell? ⟨B, 7, none⟩ = some (.int .u8 u.want) := h.cell rfl
theorem UAt.lt (h : UAt w B cv sv u) : B < w.heap.size := heap_lt h.blk
end
/-- The blocks that it owns. -/
def foot (B : Nat) (cv : Option Nat) (sv : Value) (k : Nat) : Prop := k = B ∨ cv = some k ∨ sv.ownBlock = some k
/-- A port whose blocks all lie in S. -/
structure UW (w : World) (S : Nat → Prop) (B : Nat) (u : U) : Prop where
  ex : ∃ cv sv, UAt w B cv sv u ∧ ∀ k, foot B cv sv k → S k
  lt : ∀ k, S k → k < w.heap.size
theorem UW.kept {w w' : World} {S T : Nat → Prop} {B : Nat} {u : U} (h : UW w S B u) (k : Kp T w w') (hS : ∀ k, S k → ¬ T k) : UW w' S B u := by
  obtain ⟨cv, sv, h1, h2⟩ := h.ex
  exact ⟨⟨cv, sv, h1.kept k (hS _ (h2 _ (.inl rfl))) (fun c e => hS _ (h2 _ (.inr (.inl e)))) (fun g e => hS _ (h2 _ (.inr (.inr e)))), h2⟩, fun j hj => Nat.lt_of_lt_of_le (h.lt j hj) k.size⟩
end Go.Proofs.YtiagfmkinefidaaGreat.Ut
namespace Go.Proofs.YtiagfmkinefidaaGreat.Ut
open Go.ChangeShapes Go.WideShapes Go.ChangeAt Go.RowKit
set_option linter.unusedVariables false
set_option maxRecDepth 20000
theorem and1' : ∀ n : Fin 256, (bits .and .u8 (n.val : Int) 1 != 0) = b0 (n.val : Int) := by decide +kernel
theorem and2' : ∀ n : Fin 256, (bits .and .u8 (n.val : Int) 2 != 0) = b1 (n.val : Int) := by decide +kernel
theorem byFin {p : Int → Prop} (h : ∀ n : Fin 256, p (n.val : Int)) {v : Int} (hv : By v) : p v := by
  have := h ⟨v.toNat, by have := hv.1; have := hv.2; omega⟩
  simp only [Int.toNat_of_nonneg hv.1] at this
  exact this
theorem and1 {v : Int} (h : By v) : (bits .and .u8 v 1 != 0) = b0 v := byFin (p := fun v => (bits .and .u8 v 1 != 0) = b0 v) and1' h
theorem and2 {v : Int} (h : By v) : (bits .and .u8 v 2 != 0) = b1 v := byFin (p := fun v => (bits .and .u8 v 2 != 0) = b1 v) and2' h
theorem by16 {v : Int} (h : 0 ≤ v ∧ v < 16) : By v := ⟨h.1, by omega⟩
section
variable {w : World} {B : Nat} {cv : Option Nat} {sv : Value} {u : U}
theorem len_nil (w : World) (ty : TypeId) : (Builtin.len_ #[154] ty #[.chan none]).run Tryz.prog w = .ok (goInt 0) w := by
  simp [Builtin.len_, run_underlying Tryz.underlying154]
theorem len_chan {l : List Int} (h : ChAt w cv l) (ty : TypeId) : (Builtin.len_ #[154] ty #[.chan cv]).run Tryz.prog w = .ok (.int .i64 l.length) w := by
  cases h with
  | no => exact len_nil w ty
  | on c s r l h hl =>
    have := Conc.run_len_chan (P := Tryz.prog) 154 ty Tryz.underlying154 h
    rw [this]
    simp [goInt]
theorem there_any (h : UAt w B cv sv u) : Calls Tryz.prog 160 #[.pointer (some ⟨B, 0, none⟩)] w fun e w' => e = .returned (.bool u.there) ∧ w' = w := by
  have c0 := h.c0
  have hl := fun ty => len_chan h.chn ty
  go_enter Tryz.func160, Tryz.ntmps160
  go_wp2
  go_ret
  exact ⟨rfl, rfl⟩
end
end Go.Proofs.YtiagfmkinefidaaGreat.Ut
namespace Go.Proofs.YtiagfmkinefidaaGreat.Ut
open Go.ChangeShapes Go.WideShapes Go.ChangeAt Go.RowKit
set_option linter.unusedVariables false
set_option maxRecDepth 20000
section
variable {w : World} {B : Nat} {cv : Option Nat} {sv : Value} {u : U}
theorem cause_any (h : UAt w B cv sv u) (k : u.Ok) : Calls Tryz.prog 113 #[.pointer (some ⟨B, 0, none⟩)] w fun e w' => e = .returned (.int .u8 u.why) ∧ w' = w := by
  have HT : Hid _ := there_any h
  have c3 := h.c3
  have c7 := h.c7
  have e1 := and1 (by16 k.want)
  have e2 := and2 (by16 k.want)
  unfold U.why
  clear h k
  generalize u.there = ut at HT ⊢
  generalize b0 u.want = x0 at e1 ⊢
  generalize b1 u.want = x1 at e2 ⊢
  generalize u.tell = ul at c3 ⊢
  cases ut <;> cases x0 <;> cases ul <;> cases x1 <;> (
    go_enter Tryz.func113, Tryz.ntmps113
    go_wp2_with fail
    refine Calls.mono HT.out ?_; rintro e w1 ⟨rfl, hw⟩; replace hw := hw.symm; subst hw
    go_wp2
    go_ret
    exact ⟨rfl, rfl⟩)
end
end Go.Proofs.YtiagfmkinefidaaGreat.Ut
namespace Go.Proofs.YtiagfmkinefidaaGreat.Ut
open Go.ChangeShapes Go.WideShapes Go.ChangeAt Go.RowKit
set_option linter.unusedVariables false
set_option maxRecDepth 20000
section
variable {w : World} {B : Nat} {cv : Option Nat} {sv : Value} {u : U}
theorem line_ok (h : UAt w B cv sv u) (k : u.Ok) : Calls Tryz.prog 62 #[.pointer (some ⟨B, 0, none⟩)] w fun e w' => e = .returned (.bool u.ln) ∧ w' = w := by
  have HT : Hid _ := cause_any h k
  unfold U.ln
  clear h k
  go_enter Tryz.func62, Tryz.ntmps62
  go_wp2_with fail
  refine Calls.mono HT.out ?_; rintro e w1 ⟨rfl, hw⟩; replace hw := hw.symm; subst hw
  go_wp2
  go_ret
  exact ⟨rfl, rfl⟩
end
def uz : Array Value := uC none (.slice none 0 0) u0
theorem new_ok (w : World) : Calls Tryz.prog 27 #[] w fun e w' => e = .returned (.pointer (some ⟨w.heap.size, 0, none⟩)) ∧ UAt w' w.heap.size none (.slice none 0 0) u0 ∧ Kp noB w w' := by
  have h0 : Hid (UAt (w.alloc (.cells uz 157)) w.heap.size none (.slice none 0 0) u0) := ⟨heap_new _ _, .no, OwnB.nil _⟩
  have k0 : Hid (Kp noB w (w.alloc (.cells uz 157))) := Kp.alloc _ _ _
  go_enter Tryz.func27, Tryz.ntmps27
  go_wp2
  go_ret
  exact ⟨rfl, h0.out, k0.out⟩
end Go.Proofs.YtiagfmkinefidaaGreat.Ut
namespace Go.Proofs.YtiagfmkinefidaaGreat.Ut
open Go.ChangeShapes Go.WideShapes Go.ChangeAt Go.RowKit
set_option linter.unusedVariables false
set_option maxRecDepth 20000
/-- From S to S': nothing outside S was touched, what is new in S' was not there. -/
structure Nxt (w : World) (S : Nat → Prop) (w' : World) (S' : Nat → Prop) : Prop where
  sub : ∀ k, S' k → S k ∨ w.heap.size ≤ k
  kp : Kp S w w'
def UNx (w : World) (S : Nat → Prop) (B : Nat) (u : U) (w' : World) : Prop := ∃ S', UW w' S' B u ∧ Nxt w S w' S'
section
variable {w : World} {S : Nat → Prop} {B : Nat} {u : U}
theorem UNx.same {w' : World} (h : UW w S B u) (e : w' = w) : UNx w S B u w' := by
  subst e
  exact ⟨S, h, fun _ f => .inl f, Kp.refl _ _⟩
theorem wLine (h : UW w S B u) (k : u.Ok) : Calls Tryz.prog 62 #[.pointer (some ⟨B, 0, none⟩)] w fun e w' => e = .returned (.bool u.ln) ∧ w' = w := by
  obtain ⟨cv, sv, h1, h2⟩ := h.ex
  exact line_ok h1 k
end
theorem wNew (w : World) : Calls Tryz.prog 27 #[] w fun e w' => ∃ B S, e = .returned (.pointer (some ⟨B, 0, none⟩)) ∧ UW w' S B u0 ∧ (∀ k, S k → w.heap.size ≤ k) ∧ Kp noB w w' := by
  refine (new_ok w).mono fun e w' ⟨a, b1, b3⟩ => ⟨w.heap.size, fun k => k = w.heap.size, a, ⟨⟨_, _, b1, fun k g => ?_⟩, fun k g => ?_⟩, fun k g => by omega, b3⟩
  · rcases g with g | g | g
    · exact g
    · cases g
    · cases g
  · have := b1.lt
    omega
end Go.Proofs.YtiagfmkinefidaaGreat.Ut
namespace Go.Proofs.YtiagfmkinefidaaGreat.Ut
open Go.ChangeShapes Go.WideShapes Go.ChangeAt Go.RowKit
set_option linter.unusedVariables false
set_option maxRecDepth 20000
/-- Bytes that wait in a list, from some place of a block on. -/
inductive CqAt (w : World) : Value → List Int → Prop
  | no : CqAt w (.slice none 0 0) []
  | on (g o cap : Nat) (cur : Array Value) (l : List Int) (hg : w.heap[g]? = some (.cells cur 5 (0, 0))) (hn : l.length ≤ cap) (hc : o + cap ≤ cur.size) (hm : cap ≤ maxLen) (hx : ∀ j, j < l.length → cur[o + j]? = some (.int .u8 (l.getD j 0))) : CqAt w (.slice (some ⟨g, o, none⟩) l.length cap) l
theorem CqAt.kept {S : Nat → Prop} {w w' : World} {v : Value} {l : List Int} (h : CqAt w v l) (k : Kp S w w') (hS : ∀ g, v.ownBlock = some g → ¬ S g) : CqAt w' v l := by
  cases h with
  | no => exact .no
  | on g o cap cur l hg hn hc hm hx => exact .on g o cap cur l (heap_kept hg k (hS g rfl)) hn hc hm hx
theorem CqAt.sl {w : World} {v : Value} {l : List Int} (h : CqAt w v l) : ∃ p c, v = .slice p l.length c := by
  cases h with
  | no => exact ⟨_, _, rfl⟩
  | on g o cap cur l hg hn hc hm hx => exact ⟨_, _, rfl⟩
def rC (cq sv : Value) (u : U) : Array Value := #[cq, .bool u.lost, .int .u8 u.d0, .int .u8 u.d1, .int .u8 u.line, .int .u8 u.modem, .int .u8 u.jot, .int .u8 u.want, .bool u.on, .bool u.tell, sv]
structure RAt (w : World) (R : Nat) (cq sv : Value) (u : U) : Prop where
  blk : w.heap[R]? = some (.cells (rC cq sv u) 248 (0, 0))
  chn : CqAt w cq u.came
  snt : OwnB w sv u.sent
  apart : ∀ g, cq.ownBlock = some g → sv.ownBlock ≠ some g
section
variable {w : World} {R : Nat} {cq sv : Value} {u : U}
theorem RAt.kept {S : Nat → Prop} {w' : World} (h : RAt w R cq sv u) (k : Kp S w w') (hB : ¬ S R) (hc : ∀ g, cq.ownBlock = some g → ¬ S g) (hs : ∀ g, sv.ownBlock = some g → ¬ S g) : RAt w' R cq sv u :=
  ⟨heap_kept h.blk k hB, h.chn.kept k hc, h.snt.kept k hs, h.apart⟩
theorem RAt.cell (h : RAt w R cq sv u) {k : Nat} {v : Value} (e : (rC cq sv u)[k]? = some v) : w.cell? ⟨R, k, none⟩ = some v := by
  simp [World.cell?, h.blk, e]
theorem RAt.c0 (h : RAt w R cq sv u) : w.cell? ⟨R, 0, none⟩ = some cq := h.cell rfl
theorem RAt.c7 (h : RAt w R cq sv u) : w.cell? ⟨R, 7, none⟩ = some (.int .u8 u.want) := h.cell rfl
theorem RAt.c9 (h : RAt w R cq sv u) : w.cell? ⟨R, 9, none⟩ = some (.bool u.tell) := h.cell rfl
theorem RAt.lt (h : RAt w R cq sv u) : R < w.heap.size := heap_lt h.blk
end
/-- The blocks that it owns. -/
def rfoot (R : Nat) (cq sv : Value) (k : Nat) : Prop := k = R ∨ cq.ownBlock = some k ∨ sv.ownBlock = some k
structure RW (w : World) (S : Nat → Prop) (R : Nat) (u : U) : Prop where
  ex : ∃ cq sv, RAt w R cq sv u ∧ ∀ k, rfoot R cq sv k → S k
  lt : ∀ k, S k → k < w.heap.size
theorem RW.kept {w w' : World} {S T : Nat → Prop} {R : Nat} {u : U} (h : RW w S R u) (k : Kp T w w') (hS : ∀ k, S k → ¬ T k) : RW w' S R u := by
  obtain ⟨cv, sv, h1, h2⟩ := h.ex
  exact ⟨⟨cv, sv, h1.kept k (hS _ (h2 _ (.inl rfl))) (fun c e => hS _ (h2 _ (.inr (.inl e)))) (fun g e => hS _ (h2 _ (.inr (.inr e)))), h2⟩, fun j hj => Nat.lt_of_lt_of_le (h.lt j hj) k.size⟩
end Go.Proofs.YtiagfmkinefidaaGreat.Ut
namespace Go.Proofs.YtiagfmkinefidaaGreat.Ut
open Go.ChangeShapes Go.WideShapes Go.ChangeAt Go.RowKit
set_option linter.unusedVariables false
set_option maxRecDepth 20000
theorem by_tm {v m : Int} (h : 0 ≤ v) : Int.tmod v m = v % m := Int.tmod_eq_emod_of_nonneg h
theorem by_td {v m : Int} (h : 0 ≤ v) : Int.tdiv v m = v / m := Int.tdiv_eq_ediv_of_nonneg h
section
variable {w : World} {R : Nat} {cq sv : Value} {u : U}
theorem rwhy_any (h : RAt w R cq sv u) (k : u.Ok) : Calls Tryz.prog 229 #[.pointer (some ⟨R, 0, none⟩)] w fun e w' => e = .returned (.int .u8 u.why) ∧ w' = w := by
  have c0 := h.c0
  have c7 := h.c7
  have c9 := h.c9
  obtain ⟨p, c, rfl⟩ := h.chn.sl
  obtain ⟨w0, w1⟩ := k.want
  have wm : Int.tmod u.want 2 = u.want % 2 := by_tm w0
  have wd : Int.tdiv u.want 2 = u.want / 2 := by_td w0
  have wdm : Int.tmod (u.want / 2) 2 = u.want / 2 % 2 := by_tm (by omega)
  have e0 : (u.want % 2 == 1) = b0 u.want := rfl
  have e1 : (u.want / 2 % 2 == 1) = b1 u.want := rfl
  have et : decide (0 < u.came.length) = u.there := rfl
  unfold U.why
  clear h k
  generalize u.there = ut at et ⊢
  generalize b0 u.want = x0 at e0 ⊢
  generalize b1 u.want = x1 at e1 ⊢
  cases ut <;> cases x0 <;> cases el : u.tell <;> rw [el] at c9 <;> cases x1 <;> (
    go_enter Tryz.func229, Tryz.ntmps229
    go_wp2
    go_ret
    exact ⟨rfl, rfl⟩)
theorem rline_any (h : RAt w R cq sv u) (k : u.Ok) : Calls Tryz.prog 131 #[.pointer (some ⟨R, 0, none⟩)] w fun e w' => e = .returned (.bool u.ln) ∧ w' = w := by
  have HT : Hid _ := rwhy_any h k
  unfold U.ln
  clear h k
  go_enter Tryz.func131, Tryz.ntmps131
  go_wp2_with fail
  refine Calls.mono HT.out ?_; rintro e w1 ⟨rfl, hw⟩; replace hw := hw.symm; subst hw
  go_wp2
  go_ret
  exact ⟨rfl, rfl⟩
end
theorem rnew_ok (w : World) : Calls Tryz.prog 84 #[] w fun e w' => e = .returned (.pointer (some ⟨w.heap.size, 0, none⟩)) ∧ RAt w' w.heap.size (.slice none 0 0) (.slice none 0 0) u0 ∧ Kp noB w w' := by
  have h0 : Hid (RAt (w.alloc (.cells (rC (.slice none 0 0) (.slice none 0 0) u0) 248)) w.heap.size (.slice none 0 0) (.slice none 0 0) u0) := ⟨heap_new _ _, .no, OwnB.nil _, fun g e => by cases e⟩
  have k0 : Hid (Kp noB w (w.alloc (.cells (rC (.slice none 0 0) (.slice none 0 0) u0) 248))) := Kp.alloc _ _ _
  go_enter Tryz.func84, Tryz.ntmps84
  go_wp2
  go_ret
  exact ⟨rfl, h0.out, k0.out⟩
end Go.Proofs.YtiagfmkinefidaaGreat.Ut
namespace Go.Proofs.YtiagfmkinefidaaGreat.Ut
open Go.ChangeShapes Go.WideShapes Go.ChangeAt Go.RowKit
set_option linter.unusedVariables false
set_option maxRecDepth 20000
section
variable {w : World} {R : Nat} {cq sv : Value} {u : U}
end
section
variable {w : World} {S : Nat → Prop} {R : Nat} {u : U}
def RNx (w : World) (S : Nat → Prop) (R : Nat) (u : U) (w' : World) : Prop := ∃ S', RW w' S' R u ∧ Nxt w S w' S'
theorem RNx.same {w' : World} (h : RW w S R u) (e : w' = w) : RNx w S R u w' := by
  subst e
  exact ⟨S, h, fun _ f => .inl f, Kp.refl _ _⟩
theorem xLine (h : RW w S R u) (k : u.Ok) : Calls Tryz.prog 131 #[.pointer (some ⟨R, 0, none⟩)] w fun e w' => e = .returned (.bool u.ln) ∧ w' = w := by
  obtain ⟨cv, sv, h1, h2⟩ := h.ex
  exact rline_any h1 k
end
theorem xNew (w : World) : Calls Tryz.prog 84 #[] w fun e w' => ∃ R S, e = .returned (.pointer (some ⟨R, 0, none⟩)) ∧ RW w' S R u0 ∧ (∀ k, S k → w.heap.size ≤ k) ∧ Kp noB w w' := by
  refine (rnew_ok w).mono fun e w' ⟨a, b1, b3⟩ => ⟨w.heap.size, fun k => k = w.heap.size, a, ⟨⟨_, _, b1, fun k g => ?_⟩, fun k g => ?_⟩, fun k g => by omega, b3⟩
  · rcases g with g | g | g
    · exact g
    · cases g
    · cases g
  · have := b1.lt
    omega
end Go.Proofs.YtiagfmkinefidaaGreat.Ut
