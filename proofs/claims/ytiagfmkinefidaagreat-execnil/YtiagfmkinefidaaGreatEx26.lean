/- The bus and its devices: IdMath, IdBase, IdLeaf, IdZero, IdTake, IdOps2, IdNew, IdW, IdDisk, IxBase, IxLeaf, IxOut. -/
import Derived.Test.YtiagfmkinefidaaGreatEx01
import Derived.MapKept
import Derived.Maps.AppendAt
import Derived.OwnWalk
import Derived.Laws.CopyRow
import Derived.Deep.MidRow
import Derived.Lib.EndianBits
import Derived.Deep.QuietTactic
import Derived.BigQuiet
import Derived.BigRegion
import Derived.Deep.RegionHeld3
import Derived.Laws.CopyOwn
import Derived.Deep.RegionLaw
import Derived.Outline
import Derived.Laws.AppendOwnNone
import Derived.Laws.MakeOwn
import Derived.Laws.IdiomCopy
import Derived.Test.YtiagfmkinefidaaGreatRows
import Derived.WalkKit
import Derived.ProofKit
import Derived.OpenShut
import Derived.Carry
import Derived.Deep.Slices
import Derived.Below
import Derived.SizedLaws
import Derived.Laws.BytesArg
import Derived.Deep.Cut
namespace Go.Proofs.YtiagfmkinefidaaGreat.Dk
open Go.RowKit
set_option linter.unusedVariables false
set_option maxRecDepth 20000
structure Id where
  n : Nat
  D : Nat → Int
  r1 : Int
  r2 : Int
  r3 : Int
  r4 : Int
  r5 : Int
  r6 : Int
  c : Int
  buf : Nat → Int
  don : Nat
  mode : Int
  mark : Bool
  failed : Bool
  log : List Int
def byt (x : Int) : Prop := 0 ≤ x ∧ x < 256
structure Id.Ok (d : Id) : Prop where
  few : d.n ≤ 64
  D : ∀ i, i < 512 * d.n → byt (d.D i)
  r1 : byt d.r1
  r2 : byt d.r2
  r3 : byt d.r3
  r4 : byt d.r4
  r5 : byt d.r5
  r6 : byt d.r6
  c : byt d.c
  buf : ∀ i, i < 512 → byt (d.buf i)
  don : d.don < 512
  mode : d.mode = 0 ∨ d.mode = 1 ∨ d.mode = 2 ∨ d.mode = 3
def Id.fresh (d : Id) : Id := { d with r1 := 1, r2 := 1, r3 := 1, r4 := 0, r5 := 0, r6 := 0, mode := 0, don := 0, mark := false, failed := false }
def Id.fail (d : Id) (e : Int) : Id := { d with r1 := e, failed := true, mode := 0, mark := true }
def setB (f : Nat → Int) (k : Nat) (x : Int) : Nat → Int := fun i => if i = k then x else f i
def Id.line (d : Id) : Bool := d.mark && !(d.c / 2 % 2 == 1)
/-- A new one. -/
def id0 (n : Nat) (D : Nat → Int) : Id := ⟨n, D, 1, 1, 1, 0, 0, 0, 0, fun _ => 0, 0, 0, false, false, []⟩
theorem byt_m {v : Int} : byt (v % 256) := ⟨by omega, by omega⟩
theorem byt0 : byt 0 := ⟨by decide, by decide⟩
theorem byt1 : byt 1 := ⟨by decide, by decide⟩
theorem id0_ok {n : Nat} {D : Nat → Int} (h : n ≤ 64) (hD : ∀ i, i < 512 * n → byt (D i)) : (id0 n D).Ok :=
  ⟨h, hD, byt1, byt1, byt1, byt0, byt0, byt0, byt0, fun _ _ => byt0, Nat.zero_lt_succ _, .inl rfl⟩
section
variable {d : Id}
end
end Go.Proofs.YtiagfmkinefidaaGreat.Dk
namespace Go.Proofs.YtiagfmkinefidaaGreat.Dk
open Go.ChangeShapes Go.WideShapes Go.ChangeAt Go.RowKit
set_option linter.unusedVariables false
set_option maxRecDepth 20000
/-- Outside the blocks of S the world is as it was. -/
structure Kp (S : Nat → Prop) (w w' : World) : Prop where
  os : w'.os = w.os
  tape : w'.tape = w.tape
  output : w'.output = w.output
  size : w.heap.size ≤ w'.heap.size
  block : ∀ k, k < w.heap.size → ¬ S k → w'.heap[k]? = w.heap[k]?
theorem Kp.refl (S : Nat → Prop) (w : World) : Kp S w w := ⟨rfl, rfl, rfl, Nat.le_refl _, fun _ _ _ => rfl⟩
theorem Kp.trans {S : Nat → Prop} {a b c : World} (h : Kp S a b) (k : Kp S b c) : Kp S a c :=
  ⟨k.os.trans h.os, k.tape.trans h.tape, k.output.trans h.output, Nat.le_trans h.size k.size, fun i hi hs => (k.block i (Nat.lt_of_lt_of_le hi h.size) hs).trans (h.block i hi hs)⟩
theorem Kp.alloc (S : Nat → Prop) (w : World) (o : Obj) : Kp S w (w.alloc o) :=
  ⟨rfl, rfl, rfl, by simp, fun k hk _ => Below.heap_alloc _ _ _ hk⟩
theorem Kp.setCell {S : Nat → Prop} (w : World) {p : Addr} (hp : S p.block) (u : Value) : Kp S w (w.setCell p u) :=
  ⟨rfl, rfl, rfl, by simp [World.setCell], fun k hk hs => Below.heap_setCell _ _ _ _ (fun e => hs (e ▸ hp))⟩
theorem Kp.drew {S : Nat → Prop} {w w' : World} (h : Kp S w w') : Kp S w w'.drew := ⟨h.os, h.tape, h.output, h.size, h.block⟩
/-- Kp over another set, where that set's old blocks are in the first. -/
theorem Kp.over {S T : Nat → Prop} {a b c : World} (h : Kp T a b) (k : Kp S b c) (hS : ∀ j, j < a.heap.size → S j → T j) : Kp T a c :=
  ⟨k.os.trans h.os, k.tape.trans h.tape, k.output.trans h.output, Nat.le_trans h.size k.size, fun i hi hs => (k.block i (Nat.lt_of_lt_of_le hi h.size) (fun g => hs (hS i hi g))).trans (h.block i hi hs)⟩
theorem heap_lt {w : World} {b : Nat} {o : Obj} (h : w.heap[b]? = some o) : b < w.heap.size := (Array.getElem?_eq_some_iff.1 h).1
theorem heap_kept {S : Nat → Prop} {w w' : World} {b : Nat} {o : Obj} (h : w.heap[b]? = some o) (k : Kp S w w') (hS : ¬ S b) : w'.heap[b]? = some o := (k.block b (heap_lt h) hS).trans h
theorem heap_set {w : World} {b k : Nat} {v : Value} {c : Array Value} {t : TypeId} {fr : Nat × Nat} (h : w.heap[b]? = some (.cells c t fr)) : (w.setCell ⟨b, k, none⟩ v).heap[b]? = some (.cells (c.setIfInBounds k v) t fr) := by
  simp [World.setCell, Array.getElem?_modify, h]
def noB (_ : Nat) : Prop := False
def isB (B k : Nat) : Prop := k = B
theorem kpB (B : Nat) (w : World) (k : Nat) (v : Value) : Kp (isB B) w (w.setCell ⟨B, k, none⟩ v) := Kp.setCell (S := isB B) w (p := ⟨B, k, none⟩) rfl v
theorem heap_new (w : World) (o : Obj) : (w.alloc o).heap[w.heap.size]? = some o := (MapKept.heap_alloc w o).1
theorem Kp.setRow {S : Nat → Prop} (w : World) {g : Nat} (hp : S g) (cs : Array Value) : Kp S w (w.setRow g cs) :=
  ⟨rfl, rfl, rfl, by simp [World.setRow], fun k hk hs => setRow_other w g k cs (fun e => hs (e ▸ hp))⟩
/-- A list of ints in a block of its own. -/
def OwnI (w : World) (v : Value) (l : List Int) : Prop := w.ownsRow 0 3 1 v l.length (l.map (Value.int .i64))
theorem OwnI.kept {S : Nat → Prop} {w w' : World} {v : Value} {l : List Int} (h : OwnI w v l) (k : Kp S w w') (hS : ∀ g, v.ownBlock = some g → ¬ S g) : OwnI w' v l := by
  refine ⟨h.1, ?_⟩
  rcases h.2 with g | ⟨g, cap, cur, rfl, hb, hg, r⟩
  · exact .inl g
  · exact .inr ⟨g, cap, cur, rfl, hb, heap_kept hg k (hS g rfl), r⟩
theorem OwnI.lt {w : World} {v : Value} {l : List Int} (h : OwnI w v l) {g : Nat} (e : v.ownBlock = some g) : ∃ cur, w.heap[g]? = some (.cells cur 3 (0, 0)) := by
  rcases h.2 with ⟨rfl, _⟩ | ⟨g', cap, cur, rfl, hb, hg, r⟩
  · cases e
  · simp only [Value.ownBlock, Option.some.injEq] at e
    subst e
    exact ⟨cur, hg⟩
theorem OwnI.nil (w : World) : OwnI w (.slice none 0 0) [] := ⟨rfl, .inl ⟨rfl, rfl⟩⟩
/-- cur' is cur with the cells f 0, f 1 .. laid at the L places from o on. -/
def Laid (cur cur' : Array Value) (o L : Nat) (f : Nat → Value) : Prop := cur'.size = cur.size ∧ ∀ j, cur'[j]? = if o ≤ j ∧ j < o + L then some (f (j - o)) else cur[j]?
theorem Laid.none (cur : Array Value) (o : Nat) (f : Nat → Value) : Laid cur cur o 0 f := ⟨rfl, fun j => by rw [if_neg (by omega)]⟩
theorem Laid.splice {cur : Array Value} {o : Nat} {cs : List Value} (ho : o + cs.length ≤ cur.size) (f : Nat → Value) (hf : ∀ j, j < cs.length → cs[j]? = some (f j)) :
    Laid cur (cur.toList.take o ++ cs ++ cur.toList.drop (o + cs.length)).toArray o cs.length f := by
  refine ⟨by simp; omega, fun j => ?_⟩
  rw [List.getElem?_toArray]
  by_cases a : j < o
  · rw [if_neg (by omega), List.append_assoc, List.getElem?_append_left (by simp; omega), List.getElem?_take_of_lt a, Array.getElem?_toList]
  · by_cases b : j < o + cs.length
    · rw [if_pos (by omega), List.getElem?_append_left (by simp; omega), List.getElem?_append_right (by simp; omega)]
      have e : j - (cur.toList.take o).length = j - o := by simp; omega
      rw [e, hf _ (by omega)]
    · rw [if_neg (by omega), List.getElem?_append_right (by simp; omega)]
      have e : j - (cur.toList.take o ++ cs).length = j - (o + cs.length) := by simp; omega
      rw [e, List.getElem?_drop, Array.getElem?_toList]
      congr 1; omega
theorem cell_at {w : World} {S o : Nat} {cur : Array Value} {t : TypeId} (h : w.heap[S]? = some (.cells cur t (0, 0))) : w.cell? ⟨S, o, none⟩ = cur[o]? := by simp [World.cell?, h]
theorem frozen_at {w : World} {S o : Nat} {cur : Array Value} {t : TypeId} (h : w.heap[S]? = some (.cells cur t (0, 0))) : w.frozen? ⟨S, o, none⟩ = false := by simp [World.frozen?, h]
theorem bytesT : Tryz.prog.underlying 71 = some (.slice 5) := Tryz.underlying71
theorem byteT : (Tryz.prog.info? 5).map (·.size) = some 1 := by kernel_rfl
/-- A copy of bytes. -/
theorem copy_any (w : World) (S o dLen dCap b q sLen sCap n : Nat) (hn : n = Nat.min sLen dLen) (cur : Array Value) (t : TypeId) (hS : w.heap[S]? = some (.cells cur t (0, 0))) (ho : o + n ≤ cur.size) (f : Nat → Int)
    (hsrc : ∀ j, j < n → w.cell? ⟨b, q + j, none⟩ = some (.int .u8 (f j))) :
    ∃ w2, (Builtin.copy_ #[71, 71] 3 #[.slice (some ⟨S, o, none⟩) dLen dCap, .slice (some ⟨b, q, none⟩) sLen sCap]).run Tryz.prog w = .ok (.int .i64 n) w2 ∧
      (∃ cur', w2.heap[S]? = some (.cells cur' t (0, 0)) ∧ Laid cur cur' o n (fun j => .int .u8 (f j))) ∧ Kp (isB S) w w2 := by
  obtain ⟨cs, hcs⟩ : ∃ cs : List Value, cs = (List.range n).map (fun j => Value.int .u8 (f j)) := ⟨_, rfl⟩
  have hlen : cs.length = n := by rw [hcs]; simp
  have hget : ∀ j, j < cs.length → cs[j]? = some (.int .u8 (f j)) := fun j hj => by
    rw [hlen] at hj
    rw [hcs, List.getElem?_map, List.getElem?_range hj]
    rfl
  have hl := Laid.splice (cur := cur) (o := o) (cs := cs) (by omega) (fun j => .int .u8 (f j)) hget
  have hrun := run_copy_row Tryz.prog w 71 71 3 5 S o dLen dCap ⟨b, q, none⟩ sLen sCap cur t cs bytesT byteT hS (by omega) (fun j v hv => by
      have hj : j < cs.length := (List.getElem?_eq_some_iff.1 hv).1
      rw [hget j hj] at hv
      cases hv
      have e : (⟨b, q, none⟩ : Addr).add j = ⟨b, q + j, none⟩ := by unfold Addr.add; split <;> simp_all
      rw [e]
      exact hsrc j (by omega)) (by omega) (fun v hv => by rw [hcs] at hv; simp at hv; obtain ⟨j, _, rfl⟩ := hv; rfl)
  rw [hlen] at hrun hl
  refine ⟨_, hrun, ⟨_, setRow_heap w S _ _ t _ hS, hl⟩, Kp.setRow (S := isB S) w rfl _⟩
/-- The code's number of what goes on. -/
def goV (m : Int) : Int := if m = 2 then 3 else if m = 3 then 2 else m
def Id.reg (d : Id) (j : Nat) : Int := if j = 1 then d.r1 else if j = 2 then d.r2 else if j = 3 then d.r3 else if j = 4 then d.r4 else if j = 5 then d.r5 else if j = 6 then d.r6 else if j = 8 then d.c else 0
/-- The k-th cell of a disk's block: the disk, how many sectors, nine registers, the buffer, how much of it is done, what goes on, the mark, what was written. -/
def cC (D : Nat → Int) (n : Nat) (R : Nat → Int) (buf : Nat → Int) (dn go : Int) (mk : Bool) (sv : Value) (k : Nat) : Value :=
  if k < 32768 then .int .u8 (D k) else if k = 32768 then .int .i64 n else if k < 32778 then .int .u8 (R (k - 32769)) else if k < 33290 then .int .u8 (buf (k - 32778)) else if k = 33290 then .int .i64 dn else if k = 33291 then .int .i64 go else if k = 33292 then .bool mk else sv
def CAt (w : World) (B : Nat) (f : Nat → Value) : Prop := ∃ cur : Array Value, w.heap[B]? = some (.cells cur 143 (0, 0)) ∧ cur.size = 33294 ∧ ∀ k, k < 33294 → cur[k]? = some (f k)
section
variable {w w' : World} {B : Nat} {f : Nat → Value}
theorem CAt.kept {S : Nat → Prop} (h : CAt w B f) (k : Kp S w w') (hS : ¬ S B) : CAt w' B f := by
  obtain ⟨cur, h1, h2⟩ := h
  exact ⟨cur, heap_kept h1 k hS, h2⟩
theorem CAt.lt (h : CAt w B f) : B < w.heap.size := by
  obtain ⟨cur, h1, h2⟩ := h
  exact heap_lt h1
theorem CAt.cell (h : CAt w B f) (k : Nat) (hk : k < 33294) : w.cell? ⟨B, k, none⟩ = some (f k) := by
  obtain ⟨cur, h1, h2, h3⟩ := h
  rw [cell_at h1]
  exact h3 k hk
theorem CAt.fz (h : CAt w B f) (k : Nat) : w.frozen? ⟨B, k, none⟩ = false := by
  obtain ⟨cur, h1, h2, h3⟩ := h
  exact frozen_at h1
theorem CAt.of (h : CAt w B f) {g : Nat → Value} (e : ∀ k, k < 33294 → f k = g k) : CAt w B g := by
  obtain ⟨cur, h1, h2, h3⟩ := h
  exact ⟨cur, h1, h2, fun k hk => by rw [h3 k hk, e k hk]⟩
theorem CAt.set (h : CAt w B f) (k : Nat) (hk : k < 33294) (v : Value) : CAt (w.setCell ⟨B, k, none⟩ v) B (fun j => if j = k then v else f j) := by
  obtain ⟨cur, h1, h2, h3⟩ := h
  refine ⟨_, heap_set h1, by rw [Array.size_setIfInBounds]; exact h2, fun j hj => ?_⟩
  rw [Array.getElem?_setIfInBounds]
  by_cases e : k = j
  · subst e
    rw [if_pos rfl, if_pos (by omega)]
    show some v = some (if k = k then v else f k)
    rw [if_pos rfl]
  · rw [if_neg e]
    show cur[j]? = some (if j = k then v else f j)
    rw [if_neg (by omega)]
    exact h3 j hj
/-- The row behind a copy into it. -/
theorem CAt.laid (h : CAt w B f) {cur cur' : Array Value} (hb : w.heap[B]? = some (.cells cur 143 (0, 0))) (hb' : w'.heap[B]? = some (.cells cur' 143 (0, 0))) {o n : Nat} {g : Nat → Value} (hl : Laid cur cur' o n g) : CAt w' B (fun j => if o ≤ j ∧ j < o + n then g (j - o) else f j) := by
  obtain ⟨c0, h1, h2, h3⟩ := h
  rw [h1] at hb
  have e : c0 = cur := by injection hb with hb; injection hb
  subst e
  refine ⟨cur', hb', by rw [hl.1]; exact h2, fun j hj => ?_⟩
  rw [hl.2 j]
  by_cases e : o ≤ j ∧ j < o + n
  · rw [if_pos e]
    show some (g (j - o)) = some (if o ≤ j ∧ j < o + n then g (j - o) else f j)
    rw [if_pos e]
  · rw [if_neg e]
    show c0[j]? = some (if o ≤ j ∧ j < o + n then g (j - o) else f j)
    rw [if_neg e]
    exact h3 j hj
end
section
variable {D : Nat → Int} {n : Nat} {R buf : Nat → Int} {dn go : Int} {mk : Bool} {sv : Value}
theorem cC_D {k : Nat} (h : k < 32768) : cC D n R buf dn go mk sv k = .int .u8 (D k) := by unfold cC; rw [if_pos h]
theorem cC_R {j : Nat} (h : j < 9) : cC D n R buf dn go mk sv (32769 + j) = .int .u8 (R j) := by
  unfold cC
  rw [if_neg (by omega), if_neg (by omega), if_pos (by omega), show 32769 + j - 32769 = j by omega]
theorem cC_b {j : Nat} (h : j < 512) : cC D n R buf dn go mk sv (32778 + j) = .int .u8 (buf j) := by
  unfold cC
  rw [if_neg (by omega), if_neg (by omega), if_neg (by omega), if_pos (by omega), show 32778 + j - 32778 = j by omega]
theorem cC_setR {j : Nat} (h : j < 9) (x : Int) (k : Nat) (hk : k < 33294) : (if k = 32769 + j then Value.int .u8 x else cC D n R buf dn go mk sv k) = cC D n (setB R j x) buf dn go mk sv k := by
  by_cases e : k = 32769 + j
  · subst e
    rw [if_pos rfl, cC_R h]
    unfold setB
    rw [if_pos rfl]
  · rw [if_neg e]
    unfold cC
    by_cases a : k < 32768
    · rw [if_pos a, if_pos a]
    · rw [if_neg a, if_neg a]
      by_cases b : k = 32768
      · rw [if_pos b, if_pos b]
      · rw [if_neg b, if_neg b]
        by_cases c : k < 32778
        · rw [if_pos c, if_pos c]
          unfold setB
          rw [if_neg (by omega)]
        · rw [if_neg c, if_neg c]
theorem cC_setgo (x : Int) (k : Nat) : (if k = 33291 then Value.int .i64 x else cC D n R buf dn go mk sv k) = cC D n R buf dn x mk sv k := by
  by_cases e : k = 33291
  · subst e; rfl
  · rw [if_neg e]; unfold cC; rw [if_neg e, if_neg e]
theorem cC_setmk (x : Bool) (k : Nat) : (if k = 33292 then Value.bool x else cC D n R buf dn go mk sv k) = cC D n R buf dn go x sv k := by
  by_cases e : k = 33292
  · subst e; rfl
  · rw [if_neg e]; unfold cC; rw [if_neg e, if_neg e]
/-- Bytes laid into the buffer. -/
def layB (f : Nat → Int) (o n : Nat) (g : Nat → Int) : Nat → Int := fun i => if o ≤ i ∧ i < o + n then g (i - o) else f i
theorem cC_laydisk {o m : Nat} (h : o + m ≤ 32768) (g : Nat → Int) (k : Nat) : (if o ≤ k ∧ k < o + m then Value.int .u8 (g (k - o)) else cC D n R buf dn go mk sv k) = cC (layB D o m g) n R buf dn go mk sv k := by
  by_cases e : o ≤ k ∧ k < o + m
  · rw [if_pos e, cC_D (by omega)]
    unfold layB
    rw [if_pos e]
  · rw [if_neg e]
    unfold cC
    by_cases a : k < 32768
    · rw [if_pos a, if_pos a]
      unfold layB
      rw [if_neg e]
    · rw [if_neg a, if_neg a]
end
section
variable {d : Id}
theorem reg_1 (x : Int) : ({ d with r1 := x } : Id).reg = setB d.reg 1 x := by
  funext j; unfold Id.reg setB; by_cases e : j = 1 <;> simp [e]
end
def fC (d : Id) (dn : Int) (sv : Value) : Nat → Value := cC d.D d.n d.reg d.buf dn (goV d.mode) d.mark sv
structure IAt (w : World) (B : Nat) (dn : Int) (sv : Value) (d : Id) : Prop where
  blk : CAt w B (fC d dn sv)
  log : OwnI w sv d.log
  fl : d.failed = decide (d.r1 ≠ 0 ∧ d.r1 ≠ 1)
section
variable {w : World} {B : Nat} {dn : Int} {sv : Value} {d : Id}
theorem IAt.kept {S : Nat → Prop} {w' : World} (h : IAt w B dn sv d) (k : Kp S w w') (hB : ¬ S B) (hs : ∀ g, sv.ownBlock = some g → ¬ S g) : IAt w' B dn sv d :=
  ⟨h.blk.kept k hB, h.log.kept k hs, h.fl⟩
theorem IAt.lt (h : IAt w B dn sv d) : B < w.heap.size := h.blk.lt
theorem IAt.fz (h : IAt w B dn sv d) (k : Nat) : w.frozen? ⟨B, k, none⟩ = false := h.blk.fz k
theorem IAt.cr (h : IAt w B dn sv d) (j : Nat) (hj : j < 9) : w.cell? ⟨B, 32769 + j, none⟩ = some (.int .u8 (d.reg j)) := by rw [h.blk.cell _ (by omega)]; unfold fC; rw [cC_R hj]
theorem IAt.c1 (h : IAt w B dn sv d) : w.cell? ⟨B, 32770, none⟩ = some (.int .u8 d.r1) := h.cr 1 (by decide)
theorem IAt.c2 (h : IAt w B dn sv d) : w.cell? ⟨B, 32771, none⟩ = some (.int .u8 d.r2) := h.cr 2 (by decide)
theorem IAt.c3 (h : IAt w B dn sv d) : w.cell? ⟨B, 32772, none⟩ = some (.int .u8 d.r3) := h.cr 3 (by decide)
theorem IAt.c4 (h : IAt w B dn sv d) : w.cell? ⟨B, 32773, none⟩ = some (.int .u8 d.r4) := h.cr 4 (by decide)
theorem IAt.c5 (h : IAt w B dn sv d) : w.cell? ⟨B, 32774, none⟩ = some (.int .u8 d.r5) := h.cr 5 (by decide)
theorem IAt.c6 (h : IAt w B dn sv d) : w.cell? ⟨B, 32775, none⟩ = some (.int .u8 d.r6) := h.cr 6 (by decide)
theorem IAt.c8 (h : IAt w B dn sv d) : w.cell? ⟨B, 32777, none⟩ = some (.int .u8 d.c) := h.cr 8 (by decide)
theorem IAt.cgo (h : IAt w B dn sv d) : w.cell? ⟨B, 33291, none⟩ = some (.int .i64 (goV d.mode)) := h.blk.cell 33291 (by decide)
theorem IAt.cmk (h : IAt w B dn sv d) : w.cell? ⟨B, 33292, none⟩ = some (.bool d.mark) := h.blk.cell 33292 (by decide)
end
/-- The bare block: its cells are known, whatever the model says. -/
structure Raw (w : World) (B : Nat) (sv : Value) (l : List Int) (D : Nat → Int) (n : Nat) (R buf : Nat → Int) (dn go : Int) (mk : Bool) : Prop where
  blk : CAt w B (cC D n R buf dn go mk sv)
  log : OwnI w sv l
section
variable {w : World} {B : Nat} {sv : Value} {l : List Int} {D : Nat → Int} {n : Nat} {R buf : Nat → Int} {dn go : Int} {mk : Bool}
theorem Raw.notB (h : Raw w B sv l D n R buf dn go mk) {g : Nat} (e : sv.ownBlock = some g) : ¬ isB B g := by
  rintro (rfl : g = B)
  obtain ⟨cur, h1⟩ := h.log.lt e
  obtain ⟨c, h2, _⟩ := h.blk
  rw [h1] at h2
  simp at h2
theorem Raw.setR (h : Raw w B sv l D n R buf dn go mk) (j : Nat) (hj : j < 9) (k : Nat) (hk : k = 32769 + j) (x : Int) : Raw (w.setCell ⟨B, k, none⟩ (.int .u8 x)) B sv l D n (setB R j x) buf dn go mk := by
  subst hk
  exact ⟨(h.blk.set _ (by omega) _).of (fun i hi => cC_setR hj x i hi), h.log.kept (kpB B _ _ _) (fun g e => h.notB e)⟩
theorem Raw.setgo (h : Raw w B sv l D n R buf dn go mk) (x : Int) : Raw (w.setCell ⟨B, 33291, none⟩ (.int .i64 x)) B sv l D n R buf dn x mk :=
  ⟨(h.blk.set _ (by decide) _).of (fun i hi => cC_setgo x i), h.log.kept (kpB B _ _ _) (fun g e => h.notB e)⟩
theorem Raw.setmk (h : Raw w B sv l D n R buf dn go mk) (x : Bool) : Raw (w.setCell ⟨B, 33292, none⟩ (.bool x)) B sv l D n R buf dn go x :=
  ⟨(h.blk.set _ (by decide) _).of (fun i hi => cC_setmk x i), h.log.kept (kpB B _ _ _) (fun g e => h.notB e)⟩
theorem Raw.laydisk {w' : World} (h : Raw w B sv l D n R buf dn go mk) {cur cur' : Array Value} (hb : w.heap[B]? = some (.cells cur 143 (0, 0))) (hb' : w'.heap[B]? = some (.cells cur' 143 (0, 0))) {o m : Nat} {g : Nat → Int} (ho : o + m ≤ 32768) (hl : Laid cur cur' o m (fun j => .int .u8 (g j))) (hk : Kp (isB B) w w') : Raw w' B sv l (layB D o m g) n R buf dn go mk :=
  ⟨(h.blk.laid hb hb' hl).of (fun i hi => cC_laydisk ho g i), h.log.kept hk (fun g e => h.notB e)⟩
end
theorem IAt.raw {w : World} {B : Nat} {dn : Int} {sv : Value} {d : Id} (h : IAt w B dn sv d) : Raw w B sv d.log d.D d.n d.reg d.buf dn (goV d.mode) d.mark := ⟨h.blk, h.log⟩
/-- A disk out of its bare block. -/
theorem Raw.id {w : World} {B : Nat} {sv : Value} {l : List Int} {D : Nat → Int} {n : Nat} {R buf : Nat → Int} {dn go : Int} {mk : Bool} (h : Raw w B sv l D n R buf dn go mk) (d : Id) (hl : l = d.log) (hD : D = d.D) (hn : n = d.n) (hR : R = d.reg) (hb : buf = d.buf) (hg : go = goV d.mode) (hm : mk = d.mark) (hf : d.failed = decide (d.r1 ≠ 0 ∧ d.r1 ≠ 1)) : IAt w B dn sv d := by
  subst hl; subst hD; subst hn; subst hR; subst hb; subst hg; subst hm
  exact ⟨h.blk, h.log, hf⟩
/-- The blocks that it owns. -/
def foot (B : Nat) (sv : Value) (k : Nat) : Prop := k = B ∨ sv.ownBlock = some k
end Go.Proofs.YtiagfmkinefidaaGreat.Dk
namespace Go.Proofs.YtiagfmkinefidaaGreat.Dk
open Go.ChangeShapes Go.WideShapes Go.ChangeAt Go.RowKit
set_option linter.unusedVariables false
set_option maxRecDepth 20000
theorem iand2' : ∀ n : Fin 256, (bits .and .u8 (n.val : Int) 2 == 0) = !((n.val : Int) / 2 % 2 == 1) := by decide +kernel
theorem byFin {p : Int → Prop} (h : ∀ n : Fin 256, p (n.val : Int)) {v : Int} (hv : byt v) : p v := by
  have := h ⟨v.toNat, by have := hv.1; have := hv.2; omega⟩
  simp only [Int.toNat_of_nonneg hv.1] at this
  exact this
theorem iand2 {v : Int} (h : byt v) : (bits .and .u8 v 2 == 0) = !(v / 2 % 2 == 1) := byFin (p := fun v => (bits .and .u8 v 2 == 0) = !(v / 2 % 2 == 1)) iand2' h
/-- How much of the buffer is done, where something goes on. -/
def Dn (d : Id) (dn : Int) : Prop := d.mode ≠ 0 → dn = d.don
/-- Behind a call that touches the disk's own block alone. -/
def DOk (w : World) (B : Nat) (sv : Value) (d : Id) (w' : World) : Prop := ∃ dn', IAt w' B dn' sv d ∧ Dn d dn' ∧ Kp (isB B) w w'
section
variable {w : World} {B : Nat} {dn : Int} {sv : Value} {d : Id}
theorem Dn.none {dn : Int} (e : d.mode = 0) : Dn d dn := fun q => absurd e q
theorem fail_ok (h : IAt w B dn sv d) (x : Int) (hx : x = 4 ∨ x = 16) : Calls Tryz.prog 408 #[.pointer (some ⟨B, 0, none⟩), .int .u8 x] w fun e w' => e = .returned (.tuple #[]) ∧ DOk w B sv (d.fail x) w' := by
  have c1 := h.c1
  have cg := h.cgo
  have cm := h.cmk
  have z1 := h.fz 32770
  have z2 := h.fz 33291
  have z3 := h.fz 33292
  have H : Hid (DOk w B sv (d.fail x) (((w.setCell ⟨B, 32770, none⟩ (.int .u8 x)).setCell ⟨B, 33291, none⟩ (.int .i64 0)).setCell ⟨B, 33292, none⟩ (.bool true))) := by
    refine ⟨dn, (((h.raw.setR 1 (by decide) 32770 rfl x).setgo 0).setmk true).id (d.fail x) rfl rfl rfl ?_ rfl rfl rfl ?_, Dn.none rfl, ((kpB B _ _ _).trans (kpB B _ _ _)).trans (kpB B _ _ _)⟩
    · exact (reg_1 (d := { d with failed := true, mode := 0, mark := true }) x).symm
    · show true = decide (x ≠ 0 ∧ x ≠ 1)
      rcases hx with rfl | rfl <;> rfl
  clear h
  go_enter Tryz.func408, Tryz.ntmps408
  go_wp2
  go_end0
  exact ⟨rfl, H.out⟩
theorem reg_start (d : Id) : setB (setB (setB (setB (setB (setB (setB (setB (setB d.reg 0 0) 1 1) 2 1) 3 1) 4 0) 5 0) 6 0) 7 0) 8 0 = ({ d with c := 0 } : Id).fresh.reg := by
  funext j
  rcases (by omega : j = 0 ∨ j = 1 ∨ j = 2 ∨ j = 3 ∨ j = 4 ∨ j = 5 ∨ j = 6 ∨ j = 7 ∨ j = 8 ∨ 9 ≤ j) with rfl | rfl | rfl | rfl | rfl | rfl | rfl | rfl | rfl | h
  · rfl
  · rfl
  · rfl
  · rfl
  · rfl
  · rfl
  · rfl
  · rfl
  · rfl
  · have n0 : j ≠ 0 := by omega
    have n1 : j ≠ 1 := by omega
    have n2 : j ≠ 2 := by omega
    have n3 : j ≠ 3 := by omega
    have n4 : j ≠ 4 := by omega
    have n5 : j ≠ 5 := by omega
    have n6 : j ≠ 6 := by omega
    have n7 : j ≠ 7 := by omega
    have n8 : j ≠ 8 := by omega
    simp only [setB, Id.reg, Id.fresh, if_neg n0, if_neg n1, if_neg n2, if_neg n3, if_neg n4, if_neg n5, if_neg n6, if_neg n7, if_neg n8]
theorem start_ok (h : IAt w B dn sv d) : Calls Tryz.prog 48 #[.pointer (some ⟨B, 0, none⟩)] w fun e w' => e = .returned (.tuple #[]) ∧ DOk w B sv ({ d with c := 0 } : Id).fresh w' := by
  have c0 : w.cell? ⟨B, 32769, none⟩ = some (.int .u8 0) := h.cr 0 (by decide)
  have c1 := h.c1
  have c2 := h.c2
  have c3 := h.c3
  have c4 := h.c4
  have c5 := h.c5
  have c6 := h.c6
  have c7 : w.cell? ⟨B, 32776, none⟩ = some (.int .u8 0) := h.cr 7 (by decide)
  have c8 := h.c8
  have cg := h.cgo
  have cm := h.cmk
  have y0 := h.fz 32769
  have y1 := h.fz 32770
  have y2 := h.fz 32771
  have y3 := h.fz 32772
  have y4 := h.fz 32773
  have y5 := h.fz 32774
  have y6 := h.fz 32775
  have y7 := h.fz 32776
  have y8 := h.fz 32777
  have y9 := h.fz 33291
  have ya := h.fz 33292
  have hC : Hid (IAt w B dn sv d) := h
  clear h
  go_enter Tryz.func48, Tryz.ntmps48
  go_wp2
  go_end0
  refine ⟨rfl, dn, ?_, Dn.none rfl, ?_⟩
  · refine (((((((((((hC.out.raw.setR 0 (by decide) 32769 rfl 0).setR 1 (by decide) 32770 rfl 1).setR 2 (by decide) 32771 rfl 1).setR 3 (by decide) 32772 rfl 1).setR 4 (by decide) 32773 rfl 0).setR 5 (by decide) 32774 rfl 0).setR 6 (by decide) 32775 rfl 0).setR 7 (by decide) 32776 rfl 0).setR 8 (by decide) 32777 rfl 0).setgo 0).setmk false).id _ rfl rfl rfl ?_ rfl rfl rfl rfl
    exact reg_start d
  · exact (((((((((((kpB B _ _ _).trans (kpB B _ _ _)).trans (kpB B _ _ _)).trans (kpB B _ _ _)).trans (kpB B _ _ _)).trans (kpB B _ _ _)).trans (kpB B _ _ _)).trans (kpB B _ _ _)).trans (kpB B _ _ _)).trans (kpB B _ _ _)).trans (kpB B _ _ _))
end
end Go.Proofs.YtiagfmkinefidaaGreat.Dk
namespace Go.Proofs.YtiagfmkinefidaaGreat.Dk
open Go.RowKit
set_option linter.unusedVariables false
set_option maxRecDepth 20000
def z8 : Value := .int .u8 0
def zr (n : Nat) : List Value := List.replicate n z8
def zp (n : Nat) (l : List Value) : List Value := zr n ++ l
theorem zr_one : [Value.int .u8 0] = zr 1 := rfl
theorem zr_cons (n : Nat) : Value.int .u8 0 :: zr n = zr (n + 1) := rfl
theorem zr_app (a b : Nat) : List.append (zr a) (zr b) = zr (a + b) := by
  show List.replicate a z8 ++ List.replicate b z8 = _
  rw [List.replicate_append_replicate]
  rfl
theorem zp_app (a : Nat) (l : List Value) : List.append (zr a) l = zp a l := rfl
theorem zp_zr (a b : Nat) : zp a (zr b) = zr (a + b) := zr_app a b
theorem zp_zp (a b : Nat) (l : List Value) : zp a (zp b l) = zp (a + b) l := by
  unfold zp
  rw [← List.append_assoc]
  congr 1
  exact zr_app a b
theorem zp_cons (a : Nat) (l : List Value) : Value.int .u8 0 :: zp a l = zp (a + 1) l := rfl
theorem zp_i (l : List Value) : Value.int .u8 0 :: Value.int .i64 0 :: l = zp 1 (Value.int .i64 0 :: l) := rfl
theorem zp_l (a : Nat) (l m : List Value) : List.append (zp a l) m = zp a (List.append l m) := by
  show zr a ++ l ++ m = zr a ++ (l ++ m)
  exact List.append_assoc _ _ _
theorem ap_i (l m : List Value) : List.append (Value.int .i64 0 :: l) m = Value.int .i64 0 :: List.append l m := rfl
theorem ap_s (l m : List Value) : List.append (Value.slice none 0 0 :: l) m = Value.slice none 0 0 :: List.append l m := rfl
set_option maxRecDepth 100000 in
theorem zero57 : Tryz.t143.zero = some (.agg (zp 32768 (Value.int .i64 0 :: zp 521 [.int .i64 0, .int .i64 0, .bool false, .slice none 0 0])).toArray) := by
  unfold Tryz.t143
  simp only [zr_one, zr_cons, zp_app, zp_zr, zp_zp, zp_cons, zp_i, zp_l, ap_i, Nat.reduceAdd]
set_option maxRecDepth 100000 in
theorem zero45 : Tryz.t236.zero = some (.agg (Value.slice none 0 0 :: zp 520 [.int .i64 0, .int .i64 0, .bool false, .bool false, .slice none 0 0]).toArray) := by
  unfold Tryz.t236
  simp only [zr_one, zr_cons, zp_app, zp_zr, zp_zp, zp_cons, zp_i, ap_s, Nat.reduceAdd]
theorem zr_get {n j : Nat} (h : j < n) : (zr n)[j]? = some z8 := by unfold zr; rw [List.getElem?_replicate, if_pos h]
theorem zr_len (n : Nat) : (zr n).length = n := List.length_replicate
theorem zp_get {n j : Nat} {l : List Value} : (zp n l)[j]? = if j < n then some z8 else l[j - n]? := by
  unfold zp
  by_cases h : j < n
  · rw [if_pos h, List.getElem?_append_left (by rw [zr_len]; exact h), zr_get h]
  · rw [if_neg h, List.getElem?_append_right (by rw [zr_len]; omega), zr_len]
theorem zp_len (n : Nat) (l : List Value) : (zp n l).length = n + l.length := by
  unfold zp
  rw [List.length_append, zr_len]
/-- The cells of a new disk. -/
def zI : Array Value := (zp 32768 (Value.int .i64 0 :: zp 521 [.int .i64 0, .int .i64 0, .bool false, .slice none 0 0])).toArray
theorem zI_size : zI.size = 33294 := by
  unfold zI
  rw [List.size_toArray, zp_len, List.length_cons, zp_len]
  rfl
theorem zI_get {k : Nat} (hk : k < 33294) : zI[k]? = some (cC (fun _ => 0) 0 (fun _ => 0) (fun _ => 0) 0 0 false (.slice none 0 0) k) := by
  unfold zI
  rw [List.getElem?_toArray, zp_get]
  by_cases a : k < 32768
  · rw [if_pos a, cC_D a]
    rfl
  · rw [if_neg a]
    by_cases b : k = 32768
    · subst b
      rfl
    · obtain ⟨j, rfl⟩ : ∃ j, k = 32769 + j := ⟨k - 32769, by omega⟩
      rw [show 32769 + j - 32768 = j + 1 by omega, List.getElem?_cons_succ, zp_get]
      by_cases c : j < 9
      · rw [if_pos (by omega), cC_R c]
        rfl
      · by_cases e : j < 521
        · rw [if_pos e]
          obtain ⟨i, rfl⟩ : ∃ i, j = 9 + i := ⟨j - 9, by omega⟩
          rw [show 32769 + (9 + i) = 32778 + i by omega, cC_b (by omega)]
          rfl
        · rw [if_neg e]
          rcases (by omega : j = 521 ∨ j = 522 ∨ j = 523 ∨ j = 524) with rfl | rfl | rfl | rfl <;> rfl
end Go.Proofs.YtiagfmkinefidaaGreat.Dk
namespace Go.Proofs.YtiagfmkinefidaaGreat.Dk
open Go.ChangeShapes Go.WideShapes Go.ChangeAt Go.RowKit
set_option linter.unusedVariables false
set_option maxRecDepth 20000
theorem cell_below {w : World} {b o : Nat} {v : Value} (h : w.cell? ⟨b, o, none⟩ = some v) : b < w.heap.size := by
  by_cases e : b < w.heap.size
  · exact e
  · have : w.heap[b]? = none := Array.getElem?_eq_none (by omega)
    simp [World.cell?, this] at h
theorem cell_kept {S : Nat → Prop} {w w' : World} {b o : Nat} {v : Value} (h : w.cell? ⟨b, o, none⟩ = some v) (k : Kp S w w') (hS : ¬ S b) : w'.cell? ⟨b, o, none⟩ = some v := by
  have := k.block b (cell_below h) hS
  unfold World.cell? at h ⊢
  simpa only [this] using h
section
variable {w : World} {B : Nat} {dn : Int} {sv : Value} {d : Id}
end
end Go.Proofs.YtiagfmkinefidaaGreat.Dk
namespace Go.Proofs.YtiagfmkinefidaaGreat.Dk
open Go.ChangeShapes Go.WideShapes Go.ChangeAt Go.RowKit
set_option linter.unusedVariables false
set_option maxRecDepth 20000
section
variable {w : World} {B : Nat} {dn : Int} {sv : Value} {d : Id}
theorem line_ok (h : IAt w B dn sv d) (k : d.Ok) : Calls Tryz.prog 63 #[.pointer (some ⟨B, 0, none⟩)] w fun e w' => e = .returned (.bool d.line) ∧ w' = w := by
  have cm := h.cmk
  have c8 := h.c8
  have e2 := iand2 k.c
  clear h k
  unfold Id.line
  cases q : d.mark
  · rw [q] at cm
    clear q
    go_enter Tryz.func63, Tryz.ntmps63
    go_wp2
    go_ret
    exact ⟨rfl, rfl⟩
  · rw [q] at cm
    clear q
    go_enter Tryz.func63, Tryz.ntmps63
    go_wp2
    go_ret
    exact ⟨ret_bool (by simp), rfl⟩
end
end Go.Proofs.YtiagfmkinefidaaGreat.Dk
namespace Go.Proofs.YtiagfmkinefidaaGreat.Dk
open Go.ChangeShapes Go.WideShapes Go.ChangeAt Go.RowKit
set_option linter.unusedVariables false
set_option maxRecDepth 20000
theorem info8 : (Tryz.prog.info? 5).map (fun i => (i.zero, i.size, i.bytes)) = some (some (.int .u8 0), 1, 1) := by kernel_rfl
theorem info_of {t : TypeId} {z : Value} {s b : Nat} (h : (Tryz.prog.info? t).map (fun i => (i.zero, i.size, i.bytes)) = some (some z, s, b)) : ∃ i, Tryz.prog.info? t = some i ∧ i.zero = some z ∧ i.size = s ∧ i.bytes = b := by
  cases hi : Tryz.prog.info? t with
  | none => rw [hi] at h; cases h
  | some i =>
    rw [hi] at h
    simp only [Option.map_some, Option.some.injEq, Prod.mk.injEq] at h
    exact ⟨i, rfl, h.1, h.2.1, h.2.2⟩
def made8 (n : Nat) : Array Value := madeCells (Value.int .u8 0).cells n
theorem made8_at (n : Nat) : (made8 n).size = n ∧ ∀ j, j < n → (made8 n)[j]? = some (.int .u8 0) := by
  unfold made8
  rw [show (Value.int .u8 0).cells = #[Value.int .u8 0] from rfl]
  refine ⟨by simp [madeCells], fun j hj => by simp [madeCells, hj, Nat.mod_one]⟩
theorem make8 (w : World) (n : Nat) (h : n ≤ 2147483647) : (Instr.makeSlice 71 (.int .i64 n) (.int .i64 n)).run Tryz.prog w = .ok (.slice (some ⟨w.heap.size, 0, none⟩) n n) (w.alloc (.cells (made8 n) 5)) := by
  obtain ⟨i0, hi, hz0, hz1, hz2⟩ := info_of info8
  have r := run_make (P := Tryz.prog) w 71 5 i0 (.int .u8 0) bytesT hi hz0 .i64 .i64 n n (by omega) (Int.le_refl _) (by rw [hz2]; omega) (by omega)
  rw [Int.toNat_natCast, hz1, Nat.mul_one] at r
  exact r
/-- Bytes from a place on. -/
def BytAt (w : World) (a : Option Addr) (L : Nat) (bt : Nat → Int) : Prop := ∀ j, j < L → ∃ b o, a = some ⟨b, o, none⟩ ∧ b < w.heap.size ∧ w.cell? ⟨b, o + j, none⟩ = some (.int .u8 (bt j))
theorem BytAt.kept {S : Nat → Prop} {w w' : World} {a : Option Addr} {L : Nat} {bt : Nat → Int} (h : BytAt w a L bt) (k : Kp S w w') (hS : ∀ b, b < w.heap.size → ¬ S b) : BytAt w' a L bt := fun j hj => by
  obtain ⟨b, o, e, hb, hc⟩ := h j hj
  exact ⟨b, o, e, Nat.lt_of_lt_of_le hb k.size, cell_kept hc k (hS b hb)⟩
/-- A copy of bytes that lie somewhere. -/
theorem copy_byt (w : World) (S o dLen dCap L c : Nat) (a : Option Addr) (bt : Nat → Int) (hb : BytAt w a L bt) (n : Nat) (hn : n = Nat.min L dLen) (cur : Array Value) (t : TypeId) (hS : w.heap[S]? = some (.cells cur t (0, 0))) (ho : o + n ≤ cur.size) :
    ∃ w2, (Builtin.copy_ #[71, 71] 3 #[.slice (some ⟨S, o, none⟩) dLen dCap, .slice a L c]).run Tryz.prog w = .ok (.int .i64 n) w2 ∧
      (∃ cur', w2.heap[S]? = some (.cells cur' t (0, 0)) ∧ Laid cur cur' o n (fun j => .int .u8 (bt j))) ∧ Kp (isB S) w w2 := by
  by_cases h0 : n = 0
  · subst h0
    exact ⟨w, run_copy_none (P := Tryz.prog) w 71 71 3 5 _ a dLen dCap L c bytesT byteT hn.symm, ⟨cur, hS, Laid.none _ _ _⟩, Kp.refl _ _⟩
  · have hle : n ≤ L := by rw [hn]; exact Nat.min_le_left _ _
    obtain ⟨b, q, rfl, _, _⟩ := hb 0 (by omega)
    refine copy_any w S o dLen dCap b q L c n hn cur t hS ho bt (fun j hj => ?_)
    obtain ⟨b', q', e, _, hc⟩ := hb j (by omega)
    injection e with e
    injection e with e1 e2
    subst e1; subst e2
    exact hc
theorem zeroI (w : World) : (zeroValue 143).run Tryz.prog w = .ok (.agg zI) w := by
  simp [zeroValue, typeInfo, show Tryz.prog.info? 143 = some Tryz.t143 from Tryz.type143, zero57, zI]
theorem placesI : ∃ fs ps, (∀ w, (underlying 143).run Tryz.prog w = .ok (.struct fs) w) ∧ (∀ w, (Array.mapM (fun f : Field => Prod.mk f.offset <$> sizeOf f.type) fs).run Tryz.prog w = .ok ps w) ∧ ps[1]? = some (32768, 1) :=
  ⟨(match Tryz.prog.underlying 143 with | some (.struct f) => f | _ => #[]), #[(0, 32768), (32768, 1), (32769, 9), (32778, 512), (33290, 1), (33291, 1), (33292, 1), (33293, 1)], fun w => by kernel_rfl, fun w => by kernel_rfl, rfl⟩
/-- A whole new disk: the type's number is a letter, and its noughts. -/
structure VlI (T : TypeId) (Z : Array Value) (fs : Array Field) (ps : Array (Nat × Nat)) : Prop where
  t : T = 143
  z : Z = zI
  zero : ∀ w, (zeroValue T).run Tryz.prog w = .ok (.agg Z) w
  under : ∀ w, (underlying T).run Tryz.prog w = .ok (.struct fs) w
  map : ∀ w, (Array.mapM (fun f : Field => Prod.mk f.offset <$> sizeOf f.type) fs).run Tryz.prog w = .ok ps w
  place : ps[1]? = some (32768, 1)
  zs : Z.size = 33294
theorem vlI : ∃ T Z fs ps, VlI T Z fs ps := by
  obtain ⟨fs, ps, h1, h2, h3⟩ := placesI
  exact ⟨_, _, fs, ps, rfl, rfl, zeroI, h1, h2, h3, zI_size⟩
theorem VlI.ops {T : TypeId} {Z : Array Value} {fs : Array Field} {ps : Array (Nat × Nat)} (h : VlI T Z fs ps) : (∀ x, Op.build 143 x = Op.build T x) ∧ (∀ x, Op.box 143 x = Op.box T x) := by
  rw [h.t]
  exact ⟨fun _ => rfl, fun _ => rfl⟩
theorem new_raw {T : TypeId} {Z : Array Value} {fs : Array Field} {ps : Array (Nat × Nat)} (V : VlI T Z fs ps) (w : World) (n : Nat) : Raw (w.alloc (.cells (Z.setIfInBounds 32768 (.int .i64 n)) T)) w.heap.size (.slice none 0 0) [] (fun _ => 0) n (fun _ => 0) (fun _ => 0) 0 0 false := by
  refine ⟨⟨_, by rw [heap_new, V.t], ?_, fun k hk => ?_⟩, OwnI.nil _⟩
  · rw [Array.size_setIfInBounds, V.z, zI_size]
  · rw [V.z, Array.getElem?_setIfInBounds]
    by_cases e : 32768 = k
    · subst e
      rw [if_pos rfl, if_pos (by rw [zI_size]; decide)]
      rfl
    · rw [if_neg e, zI_get hk]
      have e' : ¬ k = 32768 := fun g => e g.symm
      unfold cC
      simp only [if_neg e']
/-- The bytes of a new disk. -/
def dB (L : Nat) (bt : Nat → Int) (i : Nat) : Int := if i < L then bt i else 0
theorem new_no (w : World) (a : Option Addr) (L c : Nat) (h : L % 512 ≠ 0 ∨ 32768 < L) (hL : L < 9223372036854775808) : Calls Tryz.prog 24 #[.slice a L c] w fun e w' => e = .returned (.tuple #[.pointer none, .int .i64 140]) ∧ w' = w := by
  by_cases q : L % 512 = 0
  · have q1 : ((L : Int) % 512 != 0) = false := by rw [bne_eq_false_iff_eq]; omega
    have q2 : decide ((L : Int) > 32768) = true := by simp; omega
    go_enter Tryz.func24, Tryz.ntmps24
    go_wp2
    go_ret2
    exact ⟨rfl, rfl⟩
  · have q1 : ((L : Int) % 512 != 0) = true := by rw [bne_iff_ne]; omega
    go_enter Tryz.func24, Tryz.ntmps24
    go_wp2
    go_ret2
    exact ⟨rfl, rfl⟩
/-- A new disk, wherever it lies. -/
def NewPost (w : World) (L : Nat) (bt : Nat → Int) (w' : World) : Prop := ∃ dn, IAt w' w.heap.size dn (.slice none 0 0) (id0 (L / 512) (dB L bt)) ∧ Kp noB w w'
theorem new_ok (w : World) (a : Option Addr) (L c : Nat) (bt : Nat → Int) (hb : BytAt w a L bt) (h1 : L % 512 = 0) (h2 : L ≤ 32768) : Calls Tryz.prog 24 #[.slice a L c] w fun e w' => e = .returned (.tuple #[.pointer (some ⟨w.heap.size, 0, none⟩), .int .i64 0]) ∧ NewPost w L bt w' := by
  obtain ⟨T, Z, fs, ps, V⟩ := vlI
  have q1 : ((L : Int) % 512 != 0) = false := by rw [bne_eq_false_iff_eq]; omega
  have q2 : decide ((L : Int) > 32768) = false := by simp; omega
  have q3 : (L : Int) / 512 = ((L / 512 : Nat) : Int) := by omega
  obtain ⟨N, hN⟩ : ∃ N, N = L / 512 := ⟨_, rfl⟩
  rw [← hN] at q3
  have r0 := new_raw V w N
  obtain ⟨w1, e1⟩ : ∃ w1, w1 = w.alloc (.cells (Z.setIfInBounds 32768 (.int .i64 N)) T) := ⟨_, rfl⟩
  have k1 : Kp noB w w1 := by rw [e1]; exact Kp.alloc _ _ _
  rw [← e1] at r0
  obtain ⟨cur, g1, g2, g3⟩ := r0.blk
  obtain ⟨w2, hcp, ⟨cur2, hh2, hl2⟩, hk2⟩ := copy_byt w1 w.heap.size 0 32768 32768 L c a bt (hb.kept k1 (fun _ _ => id)) L (Nat.min_eq_left h2).symm cur _ g1 (by omega)
  have r2 := r0.laydisk g1 hh2 (by omega) hl2 hk2
  have h3 : IAt w2 w.heap.size 0 (.slice none 0 0) { id0 N (dB L bt) with r1 := 0, r2 := 0, r3 := 0 } := by
    refine ⟨r2.blk.of fun k hk => ?_, r2.log, rfl⟩
    have hD : layB (fun _ => 0) 0 L bt = dB L bt := by
      funext i
      unfold layB dB
      by_cases q : i < L
      · rw [if_pos (by omega), if_pos q, Nat.sub_zero]
      · rw [if_neg (by omega), if_neg q]
    rw [hD]
    unfold fC
    have hR : (fun _ : Nat => (0 : Int)) = ({ id0 N (dB L bt) with r1 := 0, r2 := 0, r3 := 0 } : Id).reg := by
      funext j
      unfold Id.reg id0
      simp only
      repeat' split
      all_goals rfl
    rw [← hR]
    rfl
  have HS : Hid _ := start_ok h3
  have ef : ({ ({ id0 N (dB L bt) with r1 := 0, r2 := 0, r3 := 0 } : Id) with c := 0 } : Id).fresh = id0 N (dB L bt) := rfl
  rw [ef] at HS
  have HF : Hid (∀ w3, DOk w2 w.heap.size (.slice none 0 0) (id0 N (dB L bt)) w3 → NewPost w L bt w3) := by
    rintro w3 ⟨dn, h4, d4, k4⟩
    unfold NewPost
    rw [← hN]
    exact ⟨dn, h4, (k1.over hk2 (fun j hj (e : j = _) => by omega)).over k4 (fun j hj (e : j = _) => by omega)⟩
  have o1 := V.ops
  have v1 := V.zero
  have v2 := V.under
  have v3 := V.map
  have v4 := V.place
  have v5 := V.zs
  have v6 : wrap64 (N : Int) = N := IntWalk.wrap64_in _ ⟨by omega, by omega⟩
  rw [e1] at hcp
  clear r0 g1 g2 g3 hh2 hl2 hk2 r2 h3 ef k1 V hb h1 h2 e1 hN
  go_enter Tryz.func24, Tryz.ntmps24
  simp only [o1.1, o1.2]
  go_wp2_with fail
  refine Calls.mono HS.out ?_; rintro e w3 ⟨rfl, h3⟩
  have H : Hid (NewPost w L bt w3) := HF.out _ h3
  clear h3 HS HF hcp
  go_wp2
  go_ret2
  exact ⟨rfl, H.out⟩
end Go.Proofs.YtiagfmkinefidaaGreat.Dk
namespace Go.Proofs.YtiagfmkinefidaaGreat.Dk
open Go.ChangeShapes Go.WideShapes Go.ChangeAt Go.RowKit
set_option linter.unusedVariables false
set_option maxRecDepth 20000
/-- From S to S': nothing outside S was touched, what is new in S' was not there. -/
structure Nxt (w : World) (S : Nat → Prop) (w' : World) (S' : Nat → Prop) : Prop where
  sub : ∀ k, S' k → S k ∨ w.heap.size ≤ k
  kp : Kp S w w'
theorem Nxt.refl (w : World) (S : Nat → Prop) : Nxt w S w S := ⟨fun _ f => .inl f, Kp.refl _ _⟩
/-- A disk whose blocks all lie in S. -/
structure IW (w : World) (S : Nat → Prop) (B : Nat) (d : Id) : Prop where
  ex : ∃ dn sv, IAt w B dn sv d ∧ Dn d dn ∧ ∀ k, foot B sv k → S k
  lt : ∀ k, S k → k < w.heap.size
theorem IW.kept {w w' : World} {S T : Nat → Prop} {B : Nat} {d : Id} (h : IW w S B d) (k : Kp T w w') (hS : ∀ k, S k → ¬ T k) : IW w' S B d := by
  obtain ⟨dn, sv, h1, hd, h2⟩ := h.ex
  exact ⟨⟨dn, sv, h1.kept k (hS _ (h2 _ (.inl rfl))) (fun g e => hS _ (h2 _ (.inr e))), hd, h2⟩, fun j hj => Nat.lt_of_lt_of_le (h.lt j hj) k.size⟩
def INx (w : World) (S : Nat → Prop) (B : Nat) (d : Id) (w' : World) : Prop := ∃ S', IW w' S' B d ∧ Nxt w S w' S'
section
variable {w : World} {S : Nat → Prop} {B : Nat} {d : Id}
theorem INx.same {w' : World} (h : IW w S B d) (e : w' = w) : INx w S B d w' := by
  subst e
  exact ⟨S, h, Nxt.refl _ _⟩
theorem wLine (h : IW w S B d) (k : d.Ok) : Calls Tryz.prog 63 #[.pointer (some ⟨B, 0, none⟩)] w fun e w' => e = .returned (.bool d.line) ∧ w' = w := by
  obtain ⟨dn, sv, h1, hd, h2⟩ := h.ex
  exact line_ok h1 k
end
/-- Behind New. -/
def INew (w : World) (L : Nat) (bt : Nat → Int) (w' : World) : Prop := ∃ S, IW w' S w.heap.size (id0 (L / 512) (dB L bt)) ∧ (∀ k, S k → w.heap.size ≤ k) ∧ Kp noB w w'
theorem wNew (w : World) (a : Option Addr) (L c : Nat) (bt : Nat → Int) (hb : BytAt w a L bt) (h1 : L % 512 = 0) (h2 : L ≤ 32768) : Calls Tryz.prog 24 #[.slice a L c] w fun e w' => e = .returned (.tuple #[.pointer (some ⟨w.heap.size, 0, none⟩), .int .i64 0]) ∧ INew w L bt w' := by
  refine (new_ok w a L c bt hb h1 h2).mono fun e w' ⟨a, dn, b1, b3⟩ => ⟨a, fun k => k = w.heap.size, ⟨⟨dn, _, b1, fun q => absurd rfl q, fun k g => ?_⟩, fun k g => ?_⟩, fun k g => by omega, b3⟩
  · rcases g with g | g
    · exact g
    · cases g
  · have := b1.lt
    omega
theorem dB_byt {L : Nat} {bt : Nat → Int} (h : ∀ j, j < L → byt (bt j)) (i : Nat) : byt (dB L bt i) := by
  unfold dB
  split
  · exact h i ‹_›
  · exact byt0
theorem idN_ok {L : Nat} {bt : Nat → Int} (h2 : L ≤ 32768) (h : ∀ j, j < L → byt (bt j)) : (id0 (L / 512) (dB L bt)).Ok := id0_ok (by omega) (fun i _ => dB_byt h i)
end Go.Proofs.YtiagfmkinefidaaGreat.Dk
namespace Go.Proofs.YtiagfmkinefidaaGreat.Dk
open Go.ChangeShapes Go.WideShapes Go.ChangeAt Go.RowKit
set_option linter.unusedVariables false
set_option maxRecDepth 20000
def foldN (s : Int) : Int := if s < 0 then -(s + 1) else s
/-- How many sectors. -/
def secN (s : Int) : Nat := (foldN s % 5).toNat
theorem secN_lt (s : Int) : secN s < 5 := by unfold secN; omega
def dskS (seed : Int) (i : Nat) : Int := (((i : Int) / 512 + 1) * 16 + (i : Int) % 7 + seed) % 256
theorem dskS_byt (seed : Int) (i : Nat) : byt (dskS seed i) := byt_m
/-- A block of bytes of its own. -/
structure RowB (w : World) (g L : Nat) (bt : Nat → Int) : Prop where
  ex : ∃ cur, w.heap[g]? = some (.cells cur 5 (0, 0)) ∧ cur.size = L ∧ ∀ j, j < L → cur[j]? = some (.int .u8 (bt j))
theorem RowB.at {w : World} {g L : Nat} {bt : Nat → Int} (h : RowB w g L bt) : BytAt w (some ⟨g, 0, none⟩) L bt := fun j hj => by
  obtain ⟨cur, h1, h2, h3⟩ := h.ex
  exact ⟨g, 0, rfl, heap_lt h1, by rw [cell_at h1, Nat.zero_add]; exact h3 j hj⟩
theorem RowB.cell {w : World} {g L : Nat} {bt : Nat → Int} (h : RowB w g L bt) {j : Nat} (hj : j < L) : w.cell? ⟨g, j, none⟩ = some (.int .u8 (bt j)) := by
  obtain ⟨cur, h1, h2, h3⟩ := h.ex
  rw [cell_at h1]
  exact h3 j hj
theorem RowB.fz {w : World} {g L : Nat} {bt : Nat → Int} (h : RowB w g L bt) (j : Nat) : w.frozen? ⟨g, j, none⟩ = false := by
  obtain ⟨cur, h1, h2, h3⟩ := h.ex
  exact frozen_at h1
theorem RowB.set {w : World} {g L : Nat} {bt : Nat → Int} (h : RowB w g L bt) (k : Nat) (x : Int) : RowB (w.setCell ⟨g, k, none⟩ (.int .u8 x)) g L (setB bt k x) := by
  obtain ⟨cur, h1, h2, h3⟩ := h.ex
  refine ⟨_, heap_set h1, by rw [Array.size_setIfInBounds]; exact h2, fun j hj => ?_⟩
  rw [Array.getElem?_setIfInBounds]
  unfold setB
  by_cases e : k = j
  · subst e
    rw [if_pos rfl, if_pos (by omega), if_pos rfl]
  · rw [if_neg e, if_neg (by omega)]
    exact h3 j hj
theorem RowB.of {w : World} {g L : Nat} {bt bt' : Nat → Int} (h : RowB w g L bt) (e : ∀ j, j < L → bt j = bt' j) : RowB w g L bt' := by
  obtain ⟨cur, h1, h2, h3⟩ := h.ex
  exact ⟨cur, h1, h2, fun j hj => by rw [h3 j hj, e j hj]⟩
theorem made_row (w : World) (n : Nat) : RowB (w.alloc (.cells (made8 n) 5)) w.heap.size n (fun _ => 0) :=
  ⟨_, heap_new _ _, (made8_at n).1, (made8_at n).2⟩
set_option maxHeartbeats 1000000 in
theorem lDisk_any (w : World) (s seed : Int) (s0 : -9223372036854775808 ≤ s) (s1 : s ≤ 9223372036854775807) (hs : byt seed) : Calls Tryz.prog 41 #[.int .i64 s, .int .u8 seed] w fun e w' => e = .returned (.slice (some ⟨w.heap.size, 0, none⟩) (512 * secN s) (512 * secN s)) ∧ RowB w' w.heap.size (512 * secN s) (dskS seed) ∧ Kp noB w w' := by
  obtain ⟨m, hm⟩ : ∃ m, m = secN s := ⟨_, rfl⟩
  have m5 := secN_lt s
  rw [← hm] at m5 ⊢
  have hmk : ∀ w, _ := fun w => make8 w (512 * m) (by omega)
  have em : ((512 * m : Nat) : Int) = (m : Int) * 512 := by omega
  rw [em] at hmk
  have hw : IntKind.i64.wrap ((m : Int) * 512) = (m : Int) * 512 := by rw [IntKind.wrap_i64]; omega
  have r0 : Hid (RowB (w.alloc (.cells (made8 (512 * m)) 5)) w.heap.size (512 * m) (fun _ => 0)) := made_row w (512 * m)
  have k0 : Hid (Kp noB w (w.alloc (.cells (made8 (512 * m)) 5))) := Kp.alloc _ _ _
  obtain ⟨h0, h1⟩ := hs
  have hq : foldN s % 5 = m := by rw [hm]; unfold secN foldN; split <;> omega
  clear hm
  have hw2 : wrap64 ((m : Int) * 512) = (m : Int) * 512 := IntWalk.wrap64_in _ ⟨by omega, by omega⟩
  by_cases neg : s < 0
  · have hf : -((s + 1).tmod 5) = m := by
      unfold foldN at hq
      rw [if_pos neg] at hq
      rw [← Int.neg_tmod, Int.tmod_eq_emod_of_nonneg (by omega)]
      exact hq
    clear hq
    go_enter Tryz.func41, Tryz.ntmps41
    go_wp2
    generalize w.alloc (.cells (made8 (512 * m)) 5) = w0 at r0 k0 ⊢
    clear hmk
    go_loopw [6] (fun s6 wr => ∃ i : Nat, i ≤ 512 * m ∧ s6 = .int .i64 i ∧ RowB wr w.heap.size (512 * m) (fun j => if j < i then dskS seed j else 0) ∧ Kp noB w wr) (fun s6 _ => 512 * m - (intOf s6).toNat)
    case atStart => exact ⟨0, by omega, rfl, r0.out.of (fun j hj => by rw [if_neg (by omega)]), k0.out⟩
    case round =>
      clear r0 k0
      obtain ⟨i, hi, rfl, hr, kr⟩ := hrel
      by_cases hiL : i < 512 * m
      · have c1 := hr.cell hiL
        have z1 := hr.fz i
        have hlt : (i : Int) < ((512 * m : Nat) : Int) := by omega
        have H : Hid (RowB (wr.setCell ⟨w.heap.size, i, none⟩ (.int .u8 (dskS seed i))) w.heap.size (512 * m) (fun j => if j < i + 1 then dskS seed j else 0) ∧ Kp noB w (wr.setCell ⟨w.heap.size, i, none⟩ (.int .u8 (dskS seed i)))) := by
          refine ⟨(hr.set i (dskS seed i)).of (fun j hj => ?_), kr.over (kpB w.heap.size _ _ _) (fun j hj (e : j = _) => by omega)⟩
          unfold setB
          by_cases e : j = i
          · subst e
            rw [if_pos rfl, if_pos (by omega)]
          · rw [if_neg e]
            show (if j < i then dskS seed j else 0) = _
            by_cases e2 : j < i
            · rw [if_pos e2, if_pos (by omega)]
            · rw [if_neg e2, if_neg (by omega)]
        clear hr kr
        go_wp2
        go_roundw
        case rel => exact ⟨i + 1, by omega, by go_num, H.out.1, H.out.2⟩
        case measure => simp [intOf]; omega
      · have e : i = 512 * m := by omega
        subst e
        have H : Hid (RowB wr w.heap.size (512 * m) (dskS seed) ∧ Kp noB w wr) := ⟨hr.of (fun j hj => by rw [if_pos hj]), kr⟩
        clear hr kr
        go_wp2
        go_ret
        exact ⟨rfl, H.out⟩
  · have hf : s % 5 = m := by unfold foldN at hq; rw [if_neg neg] at hq; exact hq
    clear hq
    go_enter Tryz.func41, Tryz.ntmps41
    go_wp2
    generalize w.alloc (.cells (made8 (512 * m)) 5) = w0 at r0 k0 ⊢
    clear hmk
    go_loopw [6] (fun s6 wr => ∃ i : Nat, i ≤ 512 * m ∧ s6 = .int .i64 i ∧ RowB wr w.heap.size (512 * m) (fun j => if j < i then dskS seed j else 0) ∧ Kp noB w wr) (fun s6 _ => 512 * m - (intOf s6).toNat)
    case atStart => exact ⟨0, by omega, rfl, r0.out.of (fun j hj => by rw [if_neg (by omega)]), k0.out⟩
    case round =>
      clear r0 k0
      obtain ⟨i, hi, rfl, hr, kr⟩ := hrel
      by_cases hiL : i < 512 * m
      · have c1 := hr.cell hiL
        have z1 := hr.fz i
        have hlt : (i : Int) < ((512 * m : Nat) : Int) := by omega
        have H : Hid (RowB (wr.setCell ⟨w.heap.size, i, none⟩ (.int .u8 (dskS seed i))) w.heap.size (512 * m) (fun j => if j < i + 1 then dskS seed j else 0) ∧ Kp noB w (wr.setCell ⟨w.heap.size, i, none⟩ (.int .u8 (dskS seed i)))) := by
          refine ⟨(hr.set i (dskS seed i)).of (fun j hj => ?_), kr.over (kpB w.heap.size _ _ _) (fun j hj (e : j = _) => by omega)⟩
          unfold setB
          by_cases e : j = i
          · subst e
            rw [if_pos rfl, if_pos (by omega)]
          · rw [if_neg e]
            show (if j < i then dskS seed j else 0) = _
            by_cases e2 : j < i
            · rw [if_pos e2, if_pos (by omega)]
            · rw [if_neg e2, if_neg (by omega)]
        clear hr kr
        go_wp2
        go_roundw
        case rel => exact ⟨i + 1, by omega, by go_num, H.out.1, H.out.2⟩
        case measure => simp [intOf]; omega
      · have e : i = 512 * m := by omega
        subst e
        have H : Hid (RowB wr w.heap.size (512 * m) (dskS seed) ∧ Kp noB w wr) := ⟨hr.of (fun j hj => by rw [if_pos hj]), kr⟩
        clear hr kr
        go_wp2
        go_ret
        exact ⟨rfl, H.out⟩
end Go.Proofs.YtiagfmkinefidaaGreat.Dk
namespace Go.Proofs.YtiagfmkinefidaaGreat.Dk
open Go.ChangeShapes Go.WideShapes Go.ChangeAt Go.RowKit
set_option linter.unusedVariables false
set_option maxRecDepth 20000
/-- The k-th cell of its block. -/
def xC (Dv : Value) (R : Nat → Int) (c : Int) (buf : Nat → Int) (dn mo : Int) (mk fl : Bool) (sv : Value) (k : Nat) : Value :=
  if k = 0 then Dv else if k < 8 then .int .u8 (R (k - 1)) else if k = 8 then .int .u8 c else if k < 521 then .int .u8 (buf (k - 9)) else if k = 521 then .int .i64 dn else if k = 522 then .int .i64 mo else if k = 523 then .bool mk else if k = 524 then .bool fl else sv
def YAt (w : World) (B : Nat) (f : Nat → Value) : Prop := ∃ cur : Array Value, w.heap[B]? = some (.cells cur 236 (0, 0)) ∧ cur.size = 526 ∧ ∀ k, k < 526 → cur[k]? = some (f k)
section
variable {w w' : World} {B : Nat} {f : Nat → Value}
theorem YAt.kept {S : Nat → Prop} (h : YAt w B f) (k : Kp S w w') (hS : ¬ S B) : YAt w' B f := by
  obtain ⟨cur, h1, h2⟩ := h
  exact ⟨cur, heap_kept h1 k hS, h2⟩
theorem YAt.lt (h : YAt w B f) : B < w.heap.size := by
  obtain ⟨cur, h1, h2⟩ := h
  exact heap_lt h1
theorem YAt.cell (h : YAt w B f) (k : Nat) (hk : k < 526) : w.cell? ⟨B, k, none⟩ = some (f k) := by
  obtain ⟨cur, h1, h2, h3⟩ := h
  rw [cell_at h1]
  exact h3 k hk
theorem YAt.fz (h : YAt w B f) (k : Nat) : w.frozen? ⟨B, k, none⟩ = false := by
  obtain ⟨cur, h1, h2, h3⟩ := h
  exact frozen_at h1
theorem YAt.of (h : YAt w B f) {g : Nat → Value} (e : ∀ k, k < 526 → f k = g k) : YAt w B g := by
  obtain ⟨cur, h1, h2, h3⟩ := h
  exact ⟨cur, h1, h2, fun k hk => by rw [h3 k hk, e k hk]⟩
theorem YAt.set (h : YAt w B f) (k : Nat) (hk : k < 526) (v : Value) : YAt (w.setCell ⟨B, k, none⟩ v) B (fun j => if j = k then v else f j) := by
  obtain ⟨cur, h1, h2, h3⟩ := h
  refine ⟨_, heap_set h1, by rw [Array.size_setIfInBounds]; exact h2, fun j hj => ?_⟩
  rw [Array.getElem?_setIfInBounds]
  by_cases e : k = j
  · subst e
    rw [if_pos rfl, if_pos (by omega)]
    show some v = some (if k = k then v else f k)
    rw [if_pos rfl]
  · rw [if_neg e]
    show cur[j]? = some (if j = k then v else f j)
    rw [if_neg (by omega)]
    exact h3 j hj
end
section
variable {Dv : Value} {R buf : Nat → Int} {c dn mo : Int} {mk fl : Bool} {sv : Value}
theorem xC_R {j : Nat} (h : j < 7) : xC Dv R c buf dn mo mk fl sv (1 + j) = .int .u8 (R j) := by
  unfold xC
  rw [if_neg (by omega), if_pos (by omega), show 1 + j - 1 = j by omega]
theorem xC_setR {j : Nat} (h : j < 7) (x : Int) (k : Nat) : (if k = 1 + j then Value.int .u8 x else xC Dv R c buf dn mo mk fl sv k) = xC Dv (setB R j x) c buf dn mo mk fl sv k := by
  by_cases e : k = 1 + j
  · subst e
    rw [if_pos rfl, xC_R h]
    unfold setB
    rw [if_pos rfl]
  · rw [if_neg e]
    unfold xC setB
    repeat' split
    all_goals first | rfl | omega
theorem xC_setdn (x : Int) (k : Nat) : (if k = 521 then Value.int .i64 x else xC Dv R c buf dn mo mk fl sv k) = xC Dv R c buf x mo mk fl sv k := by
  by_cases e : k = 521
  · subst e; rfl
  · rw [if_neg e]; unfold xC; rw [if_neg e, if_neg e]
theorem xC_setmo (x : Int) (k : Nat) : (if k = 522 then Value.int .i64 x else xC Dv R c buf dn mo mk fl sv k) = xC Dv R c buf dn x mk fl sv k := by
  by_cases e : k = 522
  · subst e; rfl
  · rw [if_neg e]; unfold xC; rw [if_neg e, if_neg e]
theorem xC_setmk (x : Bool) (k : Nat) : (if k = 523 then Value.bool x else xC Dv R c buf dn mo mk fl sv k) = xC Dv R c buf dn mo x fl sv k := by
  by_cases e : k = 523
  · subst e; rfl
  · rw [if_neg e]; unfold xC; rw [if_neg e, if_neg e]
theorem xC_setfl (x : Bool) (k : Nat) : (if k = 524 then Value.bool x else xC Dv R c buf dn mo mk fl sv k) = xC Dv R c buf dn mo mk x sv k := by
  by_cases e : k = 524
  · subst e; rfl
  · rw [if_neg e]; unfold xC; rw [if_neg e, if_neg e]
end
/-- The document's bytes: a slice of a block of their own. -/
def DRow (w : World) (gD cap n : Nat) (D : Nat → Int) : Prop := ∃ cur, w.heap[gD]? = some (.cells cur 5 (0, 0)) ∧ 512 * n ≤ cur.size ∧ ∀ j, j < 512 * n → cur[j]? = some (.int .u8 (D j))
theorem DRow.kept {S : Nat → Prop} {w w' : World} {gD cap n : Nat} {D : Nat → Int} (h : DRow w gD cap n D) (k : Kp S w w') (hS : ¬ S gD) : DRow w' gD cap n D := by
  obtain ⟨cur, h1, h2⟩ := h
  exact ⟨cur, heap_kept h1 k hS, h2⟩
structure XAt (w : World) (B gD cap : Nat) (dn : Int) (sv : Value) (d : Id) : Prop where
  blk : YAt w B (xC (.slice (some ⟨gD, 0, none⟩) (512 * d.n) cap) d.reg d.c d.buf dn d.mode d.mark d.failed sv)
  row : DRow w gD cap d.n d.D
  le : 512 * d.n ≤ cap
  log : OwnI w sv d.log
/-- The bare block. -/
structure XRaw (w : World) (B gD cap n : Nat) (sv : Value) (l : List Int) (D R buf : Nat → Int) (c dn mo : Int) (mk fl : Bool) : Prop where
  blk : YAt w B (xC (.slice (some ⟨gD, 0, none⟩) (512 * n) cap) R c buf dn mo mk fl sv)
  row : DRow w gD cap n D
  le : 512 * n ≤ cap
  log : OwnI w sv l
section
variable {w : World} {B gD cap n : Nat} {sv : Value} {l : List Int} {D R buf : Nat → Int} {c dn mo : Int} {mk fl : Bool}
theorem XRaw.notB (h : XRaw w B gD cap n sv l D R buf c dn mo mk fl) {g : Nat} (e : sv.ownBlock = some g) : ¬ isB B g := by
  rintro (rfl : g = B)
  obtain ⟨cur, h1⟩ := h.log.lt e
  obtain ⟨c, h2, _⟩ := h.blk
  rw [h1] at h2
  simp at h2
theorem XRaw.notD (h : XRaw w B gD cap n sv l D R buf c dn mo mk fl) : ¬ isB B gD := by
  rintro (e : gD = B)
  obtain ⟨cur, h1, _⟩ := h.row
  obtain ⟨c, h2, _⟩ := h.blk
  rw [e, h2] at h1
  simp at h1
theorem XRaw.own {w' : World} {f : Nat → Value} (h : XRaw w B gD cap n sv l D R buf c dn mo mk fl) (hb : YAt w' B f) (k : Kp (isB B) w w') {R' buf' : Nat → Int} {c' dn' mo' : Int} {mk' fl' : Bool} (e : ∀ k, k < 526 → f k = xC (.slice (some ⟨gD, 0, none⟩) (512 * n) cap) R' c' buf' dn' mo' mk' fl' sv k) : XRaw w' B gD cap n sv l D R' buf' c' dn' mo' mk' fl' :=
  ⟨hb.of e, h.row.kept k h.notD, h.le, h.log.kept k (fun g e => h.notB e)⟩
theorem XRaw.setR (h : XRaw w B gD cap n sv l D R buf c dn mo mk fl) (j : Nat) (hj : j < 7) (k : Nat) (hk : k = 1 + j) (x : Int) : XRaw (w.setCell ⟨B, k, none⟩ (.int .u8 x)) B gD cap n sv l D (setB R j x) buf c dn mo mk fl := by
  subst hk
  exact h.own (h.blk.set _ (by omega) _) (kpB B _ _ _) (fun i hi => xC_setR hj x i)
theorem XRaw.setdn (h : XRaw w B gD cap n sv l D R buf c dn mo mk fl) (x : Int) : XRaw (w.setCell ⟨B, 521, none⟩ (.int .i64 x)) B gD cap n sv l D R buf c x mo mk fl :=
  h.own (h.blk.set _ (by decide) _) (kpB B _ _ _) (fun i hi => xC_setdn x i)
theorem XRaw.setmo (h : XRaw w B gD cap n sv l D R buf c dn mo mk fl) (x : Int) : XRaw (w.setCell ⟨B, 522, none⟩ (.int .i64 x)) B gD cap n sv l D R buf c dn x mk fl :=
  h.own (h.blk.set _ (by decide) _) (kpB B _ _ _) (fun i hi => xC_setmo x i)
theorem XRaw.setmk (h : XRaw w B gD cap n sv l D R buf c dn mo mk fl) (x : Bool) : XRaw (w.setCell ⟨B, 523, none⟩ (.bool x)) B gD cap n sv l D R buf c dn mo x fl :=
  h.own (h.blk.set _ (by decide) _) (kpB B _ _ _) (fun i hi => xC_setmk x i)
theorem XRaw.setfl (h : XRaw w B gD cap n sv l D R buf c dn mo mk fl) (x : Bool) : XRaw (w.setCell ⟨B, 524, none⟩ (.bool x)) B gD cap n sv l D R buf c dn mo mk x :=
  h.own (h.blk.set _ (by decide) _) (kpB B _ _ _) (fun i hi => xC_setfl x i)
end
section
variable {w : World} {B gD cap : Nat} {dn : Int} {sv : Value} {d : Id}
theorem XAt.raw (h : XAt w B gD cap dn sv d) : XRaw w B gD cap d.n sv d.log d.D d.reg d.buf d.c dn d.mode d.mark d.failed := ⟨h.blk, h.row, h.le, h.log⟩
theorem XRaw.id {n : Nat} {l : List Int} {D R buf : Nat → Int} {c mo : Int} {mk fl : Bool} (h : XRaw w B gD cap n sv l D R buf c dn mo mk fl) (d : Id) (hl : l = d.log) (hD : D = d.D) (hn : n = d.n) (hR : ∀ j, j < 7 → R j = d.reg j) (hb : buf = d.buf) (hc : c = d.c) (hg : mo = d.mode) (hm : mk = d.mark) (hf : fl = d.failed) : XAt w B gD cap dn sv d := by
  subst hl; subst hD; subst hn; subst hb; subst hc; subst hg; subst hm; subst hf
  refine ⟨h.blk.of fun k hk => ?_, h.row, h.le, h.log⟩
  by_cases q : 1 ≤ k ∧ k < 8
  · obtain ⟨j, rfl⟩ : ∃ j, k = 1 + j := ⟨k - 1, by omega⟩
    rw [xC_R (by omega), xC_R (by omega), hR j (by omega)]
  · unfold xC
    repeat' split
    all_goals first | rfl | omega
theorem XAt.lt (h : XAt w B gD cap dn sv d) : B < w.heap.size := h.blk.lt
theorem XAt.fz (h : XAt w B gD cap dn sv d) (k : Nat) : w.frozen? ⟨B, k, none⟩ = false := h.blk.fz k
theorem XAt.cr (h : XAt w B gD cap dn sv d) (j : Nat) (hj : j < 7) : w.cell? ⟨B, 1 + j, none⟩ = some (.int .u8 (d.reg j)) := by rw [h.blk.cell _ (by omega), xC_R hj]
theorem XAt.r0 (h : XAt w B gD cap dn sv d) : w.cell? ⟨B, 1, none⟩ = some (.int .u8 0) := h.cr 0 (by decide)
theorem XAt.r1 (h : XAt w B gD cap dn sv d) : w.cell? ⟨B, 2, none⟩ = some (.int .u8 d.r1) := h.cr 1 (by decide)
theorem XAt.r2 (h : XAt w B gD cap dn sv d) : w.cell? ⟨B, 3, none⟩ = some (.int .u8 d.r2) := h.cr 2 (by decide)
theorem XAt.r3 (h : XAt w B gD cap dn sv d) : w.cell? ⟨B, 4, none⟩ = some (.int .u8 d.r3) := h.cr 3 (by decide)
theorem XAt.r4 (h : XAt w B gD cap dn sv d) : w.cell? ⟨B, 5, none⟩ = some (.int .u8 d.r4) := h.cr 4 (by decide)
theorem XAt.r5 (h : XAt w B gD cap dn sv d) : w.cell? ⟨B, 6, none⟩ = some (.int .u8 d.r5) := h.cr 5 (by decide)
theorem XAt.r6 (h : XAt w B gD cap dn sv d) : w.cell? ⟨B, 7, none⟩ = some (.int .u8 d.r6) := h.cr 6 (by decide)
theorem XAt.cc (h : XAt w B gD cap dn sv d) : w.cell? ⟨B, 8, none⟩ = some (.int .u8 d.c) := h.blk.cell 8 (by decide)
theorem XAt.cdn (h : XAt w B gD cap dn sv d) : w.cell? ⟨B, 521, none⟩ = some (.int .i64 dn) := h.blk.cell 521 (by decide)
theorem XAt.cmo (h : XAt w B gD cap dn sv d) : w.cell? ⟨B, 522, none⟩ = some (.int .i64 d.mode) := h.blk.cell 522 (by decide)
theorem XAt.cmk (h : XAt w B gD cap dn sv d) : w.cell? ⟨B, 523, none⟩ = some (.bool d.mark) := h.blk.cell 523 (by decide)
theorem XAt.cfl (h : XAt w B gD cap dn sv d) : w.cell? ⟨B, 524, none⟩ = some (.bool d.failed) := h.blk.cell 524 (by decide)
end
/-- Behind a call that touches its own blocks. -/
def XOk (w : World) (B gD cap : Nat) (sv : Value) (d : Id) (w' : World) : Prop := ∃ dn', XAt w' B gD cap dn' sv d ∧ Dn d dn' ∧ Kp (isB B) w w'
/-- The blocks that it owns. -/
def footX (B gD : Nat) (sv : Value) (k : Nat) : Prop := k = B ∨ k = gD ∨ sv.ownBlock = some k
end Go.Proofs.YtiagfmkinefidaaGreat.Dk
namespace Go.Proofs.YtiagfmkinefidaaGreat.Dk
open Go.ChangeShapes Go.WideShapes Go.ChangeAt Go.RowKit
set_option linter.unusedVariables false
set_option maxRecDepth 20000
section
variable {w : World} {B gD cap : Nat} {dn : Int} {sv : Value} {d : Id}
theorem xfresh_ok (h : XAt w B gD cap dn sv d) : Calls Tryz.prog 128 #[.pointer (some ⟨B, 0, none⟩)] w fun e w' => e = .returned (.tuple #[]) ∧ XOk w B gD cap sv d.fresh w' := by
  have c0 := h.r0
  have c1 := h.r1
  have c2 := h.r2
  have c3 := h.r3
  have c4 := h.r4
  have c5 := h.r5
  have c6 := h.r6
  have cd := h.cdn
  have cf := h.cfl
  have cg := h.cmo
  have cm := h.cmk
  have y0 := h.fz 1
  have y1 := h.fz 2
  have y2 := h.fz 3
  have y3 := h.fz 4
  have y4 := h.fz 5
  have y5 := h.fz 6
  have y6 := h.fz 7
  have y7 := h.fz 521
  have y8 := h.fz 522
  have y9 := h.fz 523
  have ya := h.fz 524
  have hC : Hid (XAt w B gD cap dn sv d) := h
  clear h
  go_enter Tryz.func128, Tryz.ntmps128
  go_wp2
  go_end0
  refine ⟨rfl, 0, ?_, Dn.none rfl, ?_⟩
  · refine (((((((((((hC.out.raw.setR 0 (by decide) 1 rfl 0).setR 1 (by decide) 2 rfl 1).setR 2 (by decide) 3 rfl 1).setR 3 (by decide) 4 rfl 1).setR 4 (by decide) 5 rfl 0).setR 5 (by decide) 6 rfl 0).setR 6 (by decide) 7 rfl 0).setmo 0).setdn 0).setmk false).setfl false).id _ rfl rfl rfl (fun j hj => ?_) rfl rfl rfl rfl rfl
    rcases (by omega : j = 0 ∨ j = 1 ∨ j = 2 ∨ j = 3 ∨ j = 4 ∨ j = 5 ∨ j = 6) with rfl | rfl | rfl | rfl | rfl | rfl | rfl <;> rfl
  · exact (((((((((((kpB B _ _ _).trans (kpB B _ _ _)).trans (kpB B _ _ _)).trans (kpB B _ _ _)).trans (kpB B _ _ _)).trans (kpB B _ _ _)).trans (kpB B _ _ _)).trans (kpB B _ _ _)).trans (kpB B _ _ _)).trans (kpB B _ _ _)).trans (kpB B _ _ _))
end
end Go.Proofs.YtiagfmkinefidaaGreat.Dk
namespace Go.Proofs.YtiagfmkinefidaaGreat.Dk
open Go.ChangeShapes Go.WideShapes Go.ChangeAt Go.RowKit
set_option linter.unusedVariables false
set_option maxRecDepth 20000
section
variable {w : World} {B gD cap : Nat} {dn : Int} {sv : Value} {d : Id}
theorem xline_ok (h : XAt w B gD cap dn sv d) (k : d.Ok) : Calls Tryz.prog 132 #[.pointer (some ⟨B, 0, none⟩)] w fun e w' => e = .returned (.bool d.line) ∧ w' = w := by
  have cm := h.cmk
  have c8 := h.cc
  obtain ⟨c0, c1⟩ := k.c
  clear h k
  unfold Id.line
  generalize d.c = c at *
  cases q : d.mark
  · rw [q] at cm
    clear q
    go_enter Tryz.func132, Tryz.ntmps132
    go_wp2
    go_ret
    exact ⟨rfl, rfl⟩
  · rw [q] at cm
    clear q
    have e : (true && !(c / 2 % 2 == 1)) = (c / 2 % 2 == 0) := by
      rcases (by omega : c / 2 % 2 = 0 ∨ c / 2 % 2 = 1) with a | a <;> rw [a] <;> rfl
    rw [e]
    clear e
    go_enter Tryz.func132, Tryz.ntmps132
    go_wp2
    go_ret
    exact ⟨rfl, rfl⟩
end
end Go.Proofs.YtiagfmkinefidaaGreat.Dk
