/- What it means that a world holds a disk. -/
import Derived.Test.YtddalplpmgmplaaGrow
import Derived.Test.YtddalplpmgmplaaIdMath
import Derived.MapKept
import Derived.Maps.AppendAt
import Derived.OwnWalk
import Derived.Laws.CopyRow
import Derived.Deep.MidRow
namespace Go.Proofs.Ytddalplpmgmplaa
open Go.ChangeShapes Go.WideShapes Go.ChangeAt Go.RowKit
set_option linter.unusedVariables false

/-- Outside the blocks of S the world is as it was. -/
structure Kp (S : Nat → Prop) (w w' : World) : Prop where
  os : w'.os = w.os
  tape : w'.tape = w.tape
  output : w'.output = w.output
  size : w.heap.size ≤ w'.heap.size
  block : ∀ k, k < w.heap.size → ¬ S k → w'.heap[k]? = w.heap[k]?

theorem Kp.refl (S : Nat → Prop) (w : World) : Kp S w w := ⟨rfl, rfl, rfl, Nat.le_refl _, fun _ _ _ => rfl⟩

theorem Kp.trans {S : Nat → Prop} {a b c : World} (h : Kp S a b) (k : Kp S b c) : Kp S a c :=
  ⟨k.os.trans h.os, k.tape.trans h.tape, k.output.trans h.output, Nat.le_trans h.size k.size, fun i hi hs => (k.block i (Nat.lt_of_lt_of_le hi h.size) hs).trans (h.block i hi hs)⟩

theorem Kp.mono {S T : Nat → Prop} {a b : World} (h : Kp S a b) (hST : ∀ k, k < a.heap.size → S k → T k) : Kp T a b :=
  ⟨h.os, h.tape, h.output, h.size, fun i hi hs => h.block i hi (fun g => hs (hST i hi g))⟩

theorem Kp.alloc (S : Nat → Prop) (w : World) (o : Obj) : Kp S w (w.alloc o) :=
  ⟨rfl, rfl, rfl, by simp, fun k hk _ => Below.heap_alloc _ _ _ hk⟩

theorem Kp.setCell {S : Nat → Prop} (w : World) {p : Addr} (hp : S p.block) (u : Value) : Kp S w (w.setCell p u) :=
  ⟨rfl, rfl, rfl, by simp [World.setCell], fun k hk hs => Below.heap_setCell _ _ _ _ (fun e => hs (e ▸ hp))⟩

theorem Kp.drew {S : Nat → Prop} {w w' : World} (h : Kp S w w') : Kp S w w'.drew := ⟨h.os, h.tape, h.output, h.size, h.block⟩
theorem Kp.drewN {S : Nat → Prop} {w w' : World} (h : Kp S w w') (n : Nat) : Kp S w (w'.drewN n) := ⟨h.os, h.tape, h.output, h.size, h.block⟩

/-- Kp over another set, where that set's old blocks are in the first. -/
theorem Kp.over {S T : Nat → Prop} {a b c : World} (h : Kp T a b) (k : Kp S b c) (hS : ∀ j, j < a.heap.size → S j → T j) : Kp T a c :=
  ⟨k.os.trans h.os, k.tape.trans h.tape, k.output.trans h.output, Nat.le_trans h.size k.size, fun i hi hs => (k.block i (Nat.lt_of_lt_of_le hi h.size) (fun g => hs (hS i hi g))).trans (h.block i hi hs)⟩

theorem Kp.below {S : Nat → Prop} {w w' : World} {B : Nat} (h : Kp S w w') (hB : B ≤ w.heap.size) (hS : ∀ k, S k → B ≤ k) : Below B w w' :=
  ⟨h.os, h.tape, h.output, h.size, fun k hk => h.block k (by omega) (fun g => by have := hS k g; omega)⟩

theorem heap_lt {w : World} {b : Nat} {o : Obj} (h : w.heap[b]? = some o) : b < w.heap.size := (Array.getElem?_eq_some_iff.1 h).1

theorem heap_kept {S : Nat → Prop} {w w' : World} {b : Nat} {o : Obj} (h : w.heap[b]? = some o) (k : Kp S w w') (hS : ¬ S b) : w'.heap[b]? = some o := (k.block b (heap_lt h) hS).trans h

theorem heap_set {w : World} {b k : Nat} {v : Value} {c : Array Value} {t : TypeId} {fr : Nat × Nat} (h : w.heap[b]? = some (.cells c t fr)) : (w.setCell ⟨b, k, none⟩ v).heap[b]? = some (.cells (c.setIfInBounds k v) t fr) := by
  simp [World.setCell, Array.getElem?_modify, h]

def noB (_ : Nat) : Prop := False
def isB (B k : Nat) : Prop := k = B

theorem Kp.any {S : Nat → Prop} {w w' : World} (h : Kp noB w w') : Kp S w w' := h.mono fun _ _ f => f.elim

theorem kpB (B : Nat) (w : World) (k : Nat) (v : Value) : Kp (isB B) w (w.setCell ⟨B, k, none⟩ v) := Kp.setCell (S := isB B) w (p := ⟨B, k, none⟩) rfl v

theorem heap_new (w : World) (o : Obj) : (w.alloc o).heap[w.heap.size]? = some o := (MapKept.heap_alloc w o).1


theorem Kp.setRow {S : Nat → Prop} (w : World) {g : Nat} (hp : S g) (cs : Array Value) : Kp S w (w.setRow g cs) :=
  ⟨rfl, rfl, rfl, by simp [World.setRow], fun k hk hs => setRow_other w g k cs (fun e => hs (e ▸ hp))⟩

/-- A list of ints in a block of its own. -/
def OwnI (w : World) (v : Value) (l : List Int) : Prop := w.ownsRow 0 3 1 v l.length (l.map (Value.int .i64))

theorem OwnI.kept {S : Nat → Prop} {w w' : World} {v : Value} {l : List Int} (h : OwnI w v l) (k : Kp S w w') (hS : ∀ g, v.ownBlock = some g → ¬ S g) : OwnI w' v l := by
  refine ⟨h.1, ?_⟩
  rcases h.2 with g | ⟨g, cap, cur, rfl, hb, hg, r⟩
  · exact .inl g
  · exact .inr ⟨g, cap, cur, rfl, hb, heap_kept hg k (hS g rfl), r⟩

theorem OwnI.lt {w : World} {v : Value} {l : List Int} (h : OwnI w v l) {g : Nat} (e : v.ownBlock = some g) : ∃ cur, w.heap[g]? = some (.cells cur 3 (0, 0)) := by
  rcases h.2 with ⟨rfl, _⟩ | ⟨g', cap, cur, rfl, hb, hg, r⟩
  · cases e
  · simp only [Value.ownBlock, Option.some.injEq] at e
    subst e
    exact ⟨cur, hg⟩

theorem OwnI.sl {w : World} {v : Value} {l : List Int} (h : OwnI w v l) : ∃ p c, v = .slice p l.length c := by
  rcases h.2 with ⟨e, h2⟩ | ⟨g, cap, cur, rfl, r⟩
  · rw [h2]; exact ⟨none, 0, e⟩
  · exact ⟨_, _, rfl⟩

theorem OwnI.nil (w : World) : OwnI w (.slice none 0 0) [] := ⟨rfl, .inl ⟨rfl, rfl⟩⟩

/-- cur' is cur with the cells f 0, f 1 .. laid at the L places from o on. -/
def Laid (cur cur' : Array Value) (o L : Nat) (f : Nat → Value) : Prop := cur'.size = cur.size ∧ ∀ j, cur'[j]? = if o ≤ j ∧ j < o + L then some (f (j - o)) else cur[j]?

theorem Laid.none (cur : Array Value) (o : Nat) (f : Nat → Value) : Laid cur cur o 0 f := ⟨rfl, fun j => by rw [if_neg (by omega)]⟩

theorem Laid.then {c1 c2 c3 : Array Value} {o L K : Nat} {f g : Nat → Value} (h : Laid c1 c2 o L f) (k : Laid c2 c3 (o + L) K g) (e : ∀ j, j < K → g j = f (L + j)) : Laid c1 c3 o (L + K) f := by
  refine ⟨k.1.trans h.1, fun j => ?_⟩
  rw [k.2 j]
  by_cases a : o + L ≤ j ∧ j < o + L + K
  · rw [if_pos a, if_pos (by omega), e _ (by omega)]; congr 2; omega
  · rw [if_neg a, h.2 j]
    by_cases b : o ≤ j ∧ j < o + L
    · rw [if_pos b, if_pos (by omega)]
    · rw [if_neg b, if_neg (by omega)]

theorem Laid.one {cur : Array Value} {o : Nat} (ho : o < cur.size) (v : Value) : Laid cur (cur.setIfInBounds o v) o 1 (fun _ => v) := by
  refine ⟨by simp, fun j => ?_⟩
  rw [Array.getElem?_setIfInBounds]
  by_cases e : o = j
  · subst e; rw [if_pos rfl, if_pos ho, if_pos (by omega)]
  · rw [if_neg e, if_neg (by omega)]

theorem Laid.splice {cur : Array Value} {o : Nat} {cs : List Value} (ho : o + cs.length ≤ cur.size) (f : Nat → Value) (hf : ∀ j, j < cs.length → cs[j]? = some (f j)) :
    Laid cur (cur.toList.take o ++ cs ++ cur.toList.drop (o + cs.length)).toArray o cs.length f := by
  refine ⟨by simp; omega, fun j => ?_⟩
  rw [List.getElem?_toArray]
  by_cases a : j < o
  · rw [if_neg (by omega), List.append_assoc, List.getElem?_append_left (by simp; omega), List.getElem?_take_of_lt a, Array.getElem?_toList]
  · by_cases b : j < o + cs.length
    · rw [if_pos (by omega), List.getElem?_append_left (by simp; omega), List.getElem?_append_right (by simp; omega)]
      have e : j - (cur.toList.take o).length = j - o := by simp; omega
      rw [e, hf _ (by omega)]
    · rw [if_neg (by omega), List.getElem?_append_right (by simp; omega)]
      have e : j - (cur.toList.take o ++ cs).length = j - (o + cs.length) := by simp; omega
      rw [e, List.getElem?_drop, Array.getElem?_toList]
      congr 1; omega


theorem cell_at {w : World} {S o : Nat} {cur : Array Value} {t : TypeId} (h : w.heap[S]? = some (.cells cur t (0, 0))) : w.cell? ⟨S, o, none⟩ = cur[o]? := by simp [World.cell?, h]
theorem frozen_at {w : World} {S o : Nat} {cur : Array Value} {t : TypeId} (h : w.heap[S]? = some (.cells cur t (0, 0))) : w.frozen? ⟨S, o, none⟩ = false := by simp [World.frozen?, h]

theorem bytesT : Try.prog.underlying 22 = some (.slice 5) := Try.underlying22
theorem byteT : (Try.prog.info? 5).map (·.size) = some 1 := by kernel_rfl

/-- A copy of bytes. -/
theorem copy_any (w : World) (S o dLen dCap b q sLen sCap n : Nat) (hn : n = Nat.min sLen dLen) (cur : Array Value) (t : TypeId) (hS : w.heap[S]? = some (.cells cur t (0, 0))) (ho : o + n ≤ cur.size) (f : Nat → Int)
    (hsrc : ∀ j, j < n → w.cell? ⟨b, q + j, none⟩ = some (.int .u8 (f j))) :
    ∃ w2, (Builtin.copy_ #[22, 22] 3 #[.slice (some ⟨S, o, none⟩) dLen dCap, .slice (some ⟨b, q, none⟩) sLen sCap]).run Try.prog w = .ok (.int .i64 n) w2 ∧
      (∃ cur', w2.heap[S]? = some (.cells cur' t (0, 0)) ∧ Laid cur cur' o n (fun j => .int .u8 (f j))) ∧ Kp (isB S) w w2 := by
  obtain ⟨cs, hcs⟩ : ∃ cs : List Value, cs = (List.range n).map (fun j => Value.int .u8 (f j)) := ⟨_, rfl⟩
  have hlen : cs.length = n := by rw [hcs]; simp
  have hget : ∀ j, j < cs.length → cs[j]? = some (.int .u8 (f j)) := fun j hj => by
    rw [hlen] at hj
    rw [hcs, List.getElem?_map, List.getElem?_range hj]
    rfl
  have hl := Laid.splice (cur := cur) (o := o) (cs := cs) (by omega) (fun j => .int .u8 (f j)) hget
  have hrun := run_copy_row Try.prog w 22 22 3 5 S o dLen dCap ⟨b, q, none⟩ sLen sCap cur t cs bytesT byteT hS (by omega) (fun j v hv => by
      have hj : j < cs.length := (List.getElem?_eq_some_iff.1 hv).1
      rw [hget j hj] at hv
      cases hv
      have e : (⟨b, q, none⟩ : Addr).add j = ⟨b, q + j, none⟩ := by unfold Addr.add; split <;> simp_all
      rw [e]
      exact hsrc j (by omega)) (by omega) (fun v hv => by rw [hcs] at hv; simp at hv; obtain ⟨j, _, rfl⟩ := hv; rfl)
  rw [hlen] at hrun hl
  refine ⟨_, hrun, ⟨_, setRow_heap w S _ _ t _ hS, hl⟩, Kp.setRow (S := isB S) w rfl _⟩

/-- The code's number of what goes on. -/
def goV (m : Int) : Int := if m = 2 then 3 else if m = 3 then 2 else m

def Id.reg (d : Id) (j : Nat) : Int := if j = 1 then d.r1 else if j = 2 then d.r2 else if j = 3 then d.r3 else if j = 4 then d.r4 else if j = 5 then d.r5 else if j = 6 then d.r6 else if j = 8 then d.c else 0

/-- The k-th cell of a disk's block: the disk, how many sectors, nine registers, the buffer, how much of it is done, what goes on, the mark, what was written. -/
def cC (D : Nat → Int) (n : Nat) (R : Nat → Int) (buf : Nat → Int) (dn go : Int) (mk : Bool) (sv : Value) (k : Nat) : Value :=
  if k < 32768 then .int .u8 (D k) else if k = 32768 then .int .i64 n else if k < 32778 then .int .u8 (R (k - 32769)) else if k < 33290 then .int .u8 (buf (k - 32778)) else if k = 33290 then .int .i64 dn else if k = 33291 then .int .i64 go else if k = 33292 then .bool mk else sv

def CAt (w : World) (B : Nat) (f : Nat → Value) : Prop := ∃ cur : Array Value, w.heap[B]? = some (.cells cur 51 (0, 0)) ∧ cur.size = 33294 ∧ ∀ k, k < 33294 → cur[k]? = some (f k)

section
variable {w w' : World} {B : Nat} {f : Nat → Value}

theorem CAt.kept {S : Nat → Prop} (h : CAt w B f) (k : Kp S w w') (hS : ¬ S B) : CAt w' B f := by
  obtain ⟨cur, h1, h2⟩ := h
  exact ⟨cur, heap_kept h1 k hS, h2⟩

theorem CAt.lt (h : CAt w B f) : B < w.heap.size := by
  obtain ⟨cur, h1, h2⟩ := h
  exact heap_lt h1

theorem CAt.cell (h : CAt w B f) (k : Nat) (hk : k < 33294) : w.cell? ⟨B, k, none⟩ = some (f k) := by
  obtain ⟨cur, h1, h2, h3⟩ := h
  rw [cell_at h1]
  exact h3 k hk

theorem CAt.fz (h : CAt w B f) (k : Nat) : w.frozen? ⟨B, k, none⟩ = false := by
  obtain ⟨cur, h1, h2, h3⟩ := h
  exact frozen_at h1

theorem CAt.of (h : CAt w B f) {g : Nat → Value} (e : ∀ k, k < 33294 → f k = g k) : CAt w B g := by
  obtain ⟨cur, h1, h2, h3⟩ := h
  exact ⟨cur, h1, h2, fun k hk => by rw [h3 k hk, e k hk]⟩

theorem CAt.set (h : CAt w B f) (k : Nat) (hk : k < 33294) (v : Value) : CAt (w.setCell ⟨B, k, none⟩ v) B (fun j => if j = k then v else f j) := by
  obtain ⟨cur, h1, h2, h3⟩ := h
  refine ⟨_, heap_set h1, by rw [Array.size_setIfInBounds]; exact h2, fun j hj => ?_⟩
  rw [Array.getElem?_setIfInBounds]
  by_cases e : k = j
  · subst e
    rw [if_pos rfl, if_pos (by omega)]
    show some v = some (if k = k then v else f k)
    rw [if_pos rfl]
  · rw [if_neg e]
    show cur[j]? = some (if j = k then v else f j)
    rw [if_neg (by omega)]
    exact h3 j hj

/-- The row behind a copy into it. -/
theorem CAt.laid (h : CAt w B f) {cur cur' : Array Value} (hb : w.heap[B]? = some (.cells cur 51 (0, 0))) (hb' : w'.heap[B]? = some (.cells cur' 51 (0, 0))) {o n : Nat} {g : Nat → Value} (hl : Laid cur cur' o n g) : CAt w' B (fun j => if o ≤ j ∧ j < o + n then g (j - o) else f j) := by
  obtain ⟨c0, h1, h2, h3⟩ := h
  rw [h1] at hb
  have e : c0 = cur := by injection hb with hb; injection hb
  subst e
  refine ⟨cur', hb', by rw [hl.1]; exact h2, fun j hj => ?_⟩
  rw [hl.2 j]
  by_cases e : o ≤ j ∧ j < o + n
  · rw [if_pos e]
    show some (g (j - o)) = some (if o ≤ j ∧ j < o + n then g (j - o) else f j)
    rw [if_pos e]
  · rw [if_neg e]
    show c0[j]? = some (if o ≤ j ∧ j < o + n then g (j - o) else f j)
    rw [if_neg e]
    exact h3 j hj
end

section
variable {D : Nat → Int} {n : Nat} {R buf : Nat → Int} {dn go : Int} {mk : Bool} {sv : Value}

theorem cC_D {k : Nat} (h : k < 32768) : cC D n R buf dn go mk sv k = .int .u8 (D k) := by unfold cC; rw [if_pos h]
theorem cC_n : cC D n R buf dn go mk sv 32768 = .int .i64 n := rfl
theorem cC_R {j : Nat} (h : j < 9) : cC D n R buf dn go mk sv (32769 + j) = .int .u8 (R j) := by
  unfold cC
  rw [if_neg (by omega), if_neg (by omega), if_pos (by omega), show 32769 + j - 32769 = j by omega]
theorem cC_b {j : Nat} (h : j < 512) : cC D n R buf dn go mk sv (32778 + j) = .int .u8 (buf j) := by
  unfold cC
  rw [if_neg (by omega), if_neg (by omega), if_neg (by omega), if_pos (by omega), show 32778 + j - 32778 = j by omega]
theorem cC_dn : cC D n R buf dn go mk sv 33290 = .int .i64 dn := rfl
theorem cC_go : cC D n R buf dn go mk sv 33291 = .int .i64 go := rfl
theorem cC_mk : cC D n R buf dn go mk sv 33292 = .bool mk := rfl
theorem cC_sv : cC D n R buf dn go mk sv 33293 = sv := rfl

theorem cC_setR {j : Nat} (h : j < 9) (x : Int) (k : Nat) (hk : k < 33294) : (if k = 32769 + j then Value.int .u8 x else cC D n R buf dn go mk sv k) = cC D n (setB R j x) buf dn go mk sv k := by
  by_cases e : k = 32769 + j
  · subst e
    rw [if_pos rfl, cC_R h]
    unfold setB
    rw [if_pos rfl]
  · rw [if_neg e]
    unfold cC
    by_cases a : k < 32768
    · rw [if_pos a, if_pos a]
    · rw [if_neg a, if_neg a]
      by_cases b : k = 32768
      · rw [if_pos b, if_pos b]
      · rw [if_neg b, if_neg b]
        by_cases c : k < 32778
        · rw [if_pos c, if_pos c]
          unfold setB
          rw [if_neg (by omega)]
        · rw [if_neg c, if_neg c]

theorem cC_setdn (x : Int) (k : Nat) : (if k = 33290 then Value.int .i64 x else cC D n R buf dn go mk sv k) = cC D n R buf x go mk sv k := by
  by_cases e : k = 33290
  · subst e; rfl
  · rw [if_neg e]; unfold cC; rw [if_neg e, if_neg e]

theorem cC_setgo (x : Int) (k : Nat) : (if k = 33291 then Value.int .i64 x else cC D n R buf dn go mk sv k) = cC D n R buf dn x mk sv k := by
  by_cases e : k = 33291
  · subst e; rfl
  · rw [if_neg e]; unfold cC; rw [if_neg e, if_neg e]

theorem cC_setmk (x : Bool) (k : Nat) : (if k = 33292 then Value.bool x else cC D n R buf dn go mk sv k) = cC D n R buf dn go x sv k := by
  by_cases e : k = 33292
  · subst e; rfl
  · rw [if_neg e]; unfold cC; rw [if_neg e, if_neg e]

theorem cC_setsv (x : Value) (k : Nat) (hk : k < 33294) : (if k = 33293 then x else cC D n R buf dn go mk sv k) = cC D n R buf dn go mk x k := by
  by_cases e : k = 33293
  · subst e; rfl
  · rw [if_neg e]
    unfold cC
    repeat' split
    all_goals first | rfl | omega

/-- Bytes laid into the buffer. -/
def layB (f : Nat → Int) (o n : Nat) (g : Nat → Int) : Nat → Int := fun i => if o ≤ i ∧ i < o + n then g (i - o) else f i

theorem cC_laybuf {o m : Nat} (h : o + m ≤ 512) (g : Nat → Int) (k : Nat) : (if 32778 + o ≤ k ∧ k < 32778 + o + m then Value.int .u8 (g (k - (32778 + o))) else cC D n R buf dn go mk sv k) = cC D n R (layB buf o m g) dn go mk sv k := by
  by_cases e : 32778 + o ≤ k ∧ k < 32778 + o + m
  · rw [if_pos e]
    obtain ⟨j, rfl⟩ : ∃ j, k = 32778 + j := ⟨k - 32778, by omega⟩
    rw [cC_b (by omega)]
    unfold layB
    rw [if_pos (by omega), show 32778 + j - (32778 + o) = j - o by omega]
  · rw [if_neg e]
    by_cases c : 32778 ≤ k ∧ k < 33290
    · obtain ⟨j, rfl⟩ : ∃ j, k = 32778 + j := ⟨k - 32778, by omega⟩
      rw [cC_b (by omega), cC_b (by omega)]
      unfold layB
      rw [if_neg (by omega)]
    · unfold cC
      repeat' split
      all_goals first | rfl | omega

theorem cC_same {b' : Nat → Int} (h : ∀ i, i < 512 → buf i = b' i) (k : Nat) : cC D n R buf dn go mk sv k = cC D n R b' dn go mk sv k := by
  unfold cC
  by_cases a : k < 32778
  · repeat' split
    all_goals first | rfl | omega
  · by_cases b : k < 33290
    · rw [h _ (by omega)]
    · repeat' split
      all_goals first | rfl | omega

theorem cC_laydisk {o m : Nat} (h : o + m ≤ 32768) (g : Nat → Int) (k : Nat) : (if o ≤ k ∧ k < o + m then Value.int .u8 (g (k - o)) else cC D n R buf dn go mk sv k) = cC (layB D o m g) n R buf dn go mk sv k := by
  by_cases e : o ≤ k ∧ k < o + m
  · rw [if_pos e, cC_D (by omega)]
    unfold layB
    rw [if_pos e]
  · rw [if_neg e]
    unfold cC
    by_cases a : k < 32768
    · rw [if_pos a, if_pos a]
      unfold layB
      rw [if_neg e]
    · rw [if_neg a, if_neg a]
end

section
variable {d : Id}
theorem reg_1 (x : Int) : ({ d with r1 := x } : Id).reg = setB d.reg 1 x := by
  funext j; unfold Id.reg setB; by_cases e : j = 1 <;> simp [e]
theorem reg_2 (x : Int) : ({ d with r2 := x } : Id).reg = setB d.reg 2 x := by
  funext j; unfold Id.reg setB; by_cases e : j = 2 <;> simp [e]
theorem reg_3 (x : Int) : ({ d with r3 := x } : Id).reg = setB d.reg 3 x := by
  funext j; unfold Id.reg setB; by_cases e : j = 3 <;> simp [e]
theorem reg_4 (x : Int) : ({ d with r4 := x } : Id).reg = setB d.reg 4 x := by
  funext j; unfold Id.reg setB; by_cases e : j = 4 <;> simp [e]
theorem reg_5 (x : Int) : ({ d with r5 := x } : Id).reg = setB d.reg 5 x := by
  funext j; unfold Id.reg setB; by_cases e : j = 5 <;> simp [e]
theorem reg_6 (x : Int) : ({ d with r6 := x } : Id).reg = setB d.reg 6 x := by
  funext j; unfold Id.reg setB; by_cases e : j = 6 <;> simp [e]
theorem reg_8 (x : Int) : ({ d with c := x } : Id).reg = setB d.reg 8 x := by
  funext j; unfold Id.reg setB; by_cases e : j = 8 <;> simp [e]
end

def fC (d : Id) (dn : Int) (sv : Value) : Nat → Value := cC d.D d.n d.reg d.buf dn (goV d.mode) d.mark sv

structure IAt (w : World) (B : Nat) (dn : Int) (sv : Value) (d : Id) : Prop where
  blk : CAt w B (fC d dn sv)
  log : OwnI w sv d.log
  fl : d.failed = decide (d.r1 ≠ 0 ∧ d.r1 ≠ 1)

section
variable {w : World} {B : Nat} {dn : Int} {sv : Value} {d : Id}

theorem IAt.kept {S : Nat → Prop} {w' : World} (h : IAt w B dn sv d) (k : Kp S w w') (hB : ¬ S B) (hs : ∀ g, sv.ownBlock = some g → ¬ S g) : IAt w' B dn sv d :=
  ⟨h.blk.kept k hB, h.log.kept k hs, h.fl⟩

theorem IAt.notB (h : IAt w B dn sv d) {g : Nat} (e : sv.ownBlock = some g) : ¬ isB B g := by
  rintro (rfl : g = B)
  obtain ⟨cur, h1⟩ := h.log.lt e
  obtain ⟨c, h2, _⟩ := h.blk
  rw [h1] at h2
  simp at h2

theorem IAt.lt (h : IAt w B dn sv d) : B < w.heap.size := h.blk.lt
theorem IAt.fz (h : IAt w B dn sv d) (k : Nat) : w.frozen? ⟨B, k, none⟩ = false := h.blk.fz k
theorem IAt.cn (h : IAt w B dn sv d) : w.cell? ⟨B, 32768, none⟩ = some (.int .i64 d.n) := h.blk.cell 32768 (by decide)
theorem IAt.cr (h : IAt w B dn sv d) (j : Nat) (hj : j < 9) : w.cell? ⟨B, 32769 + j, none⟩ = some (.int .u8 (d.reg j)) := by rw [h.blk.cell _ (by omega)]; unfold fC; rw [cC_R hj]
theorem IAt.c1 (h : IAt w B dn sv d) : w.cell? ⟨B, 32770, none⟩ = some (.int .u8 d.r1) := h.cr 1 (by decide)
theorem IAt.c2 (h : IAt w B dn sv d) : w.cell? ⟨B, 32771, none⟩ = some (.int .u8 d.r2) := h.cr 2 (by decide)
theorem IAt.c3 (h : IAt w B dn sv d) : w.cell? ⟨B, 32772, none⟩ = some (.int .u8 d.r3) := h.cr 3 (by decide)
theorem IAt.c4 (h : IAt w B dn sv d) : w.cell? ⟨B, 32773, none⟩ = some (.int .u8 d.r4) := h.cr 4 (by decide)
theorem IAt.c5 (h : IAt w B dn sv d) : w.cell? ⟨B, 32774, none⟩ = some (.int .u8 d.r5) := h.cr 5 (by decide)
theorem IAt.c6 (h : IAt w B dn sv d) : w.cell? ⟨B, 32775, none⟩ = some (.int .u8 d.r6) := h.cr 6 (by decide)
theorem IAt.c8 (h : IAt w B dn sv d) : w.cell? ⟨B, 32777, none⟩ = some (.int .u8 d.c) := h.cr 8 (by decide)
theorem IAt.cb (h : IAt w B dn sv d) (j : Nat) (hj : j < 512) : w.cell? ⟨B, 32778 + j, none⟩ = some (.int .u8 (d.buf j)) := by rw [h.blk.cell _ (by omega)]; unfold fC; rw [cC_b hj]
theorem IAt.cD (h : IAt w B dn sv d) (j : Nat) (hj : j < 32768) : w.cell? ⟨B, j, none⟩ = some (.int .u8 (d.D j)) := by rw [h.blk.cell _ (by omega)]; unfold fC; rw [cC_D hj]
theorem IAt.cdn (h : IAt w B dn sv d) : w.cell? ⟨B, 33290, none⟩ = some (.int .i64 dn) := h.blk.cell 33290 (by decide)
theorem IAt.cgo (h : IAt w B dn sv d) : w.cell? ⟨B, 33291, none⟩ = some (.int .i64 (goV d.mode)) := h.blk.cell 33291 (by decide)
theorem IAt.cmk (h : IAt w B dn sv d) : w.cell? ⟨B, 33292, none⟩ = some (.bool d.mark) := h.blk.cell 33292 (by decide)
theorem IAt.csv (h : IAt w B dn sv d) : w.cell? ⟨B, 33293, none⟩ = some sv := h.blk.cell 33293 (by decide)
end

/-- The bare block: its cells are known, whatever the model says. -/
structure Raw (w : World) (B : Nat) (sv : Value) (l : List Int) (D : Nat → Int) (n : Nat) (R buf : Nat → Int) (dn go : Int) (mk : Bool) : Prop where
  blk : CAt w B (cC D n R buf dn go mk sv)
  log : OwnI w sv l

section
variable {w : World} {B : Nat} {sv : Value} {l : List Int} {D : Nat → Int} {n : Nat} {R buf : Nat → Int} {dn go : Int} {mk : Bool}

theorem Raw.notB (h : Raw w B sv l D n R buf dn go mk) {g : Nat} (e : sv.ownBlock = some g) : ¬ isB B g := by
  rintro (rfl : g = B)
  obtain ⟨cur, h1⟩ := h.log.lt e
  obtain ⟨c, h2, _⟩ := h.blk
  rw [h1] at h2
  simp at h2

theorem Raw.kept {S : Nat → Prop} {w' : World} (h : Raw w B sv l D n R buf dn go mk) (k : Kp S w w') (hB : ¬ S B) (hs : ∀ g, sv.ownBlock = some g → ¬ S g) : Raw w' B sv l D n R buf dn go mk := ⟨h.blk.kept k hB, h.log.kept k hs⟩

theorem Raw.setR (h : Raw w B sv l D n R buf dn go mk) (j : Nat) (hj : j < 9) (k : Nat) (hk : k = 32769 + j) (x : Int) : Raw (w.setCell ⟨B, k, none⟩ (.int .u8 x)) B sv l D n (setB R j x) buf dn go mk := by
  subst hk
  exact ⟨(h.blk.set _ (by omega) _).of (fun i hi => cC_setR hj x i hi), h.log.kept (kpB B _ _ _) (fun g e => h.notB e)⟩
theorem Raw.setdn (h : Raw w B sv l D n R buf dn go mk) (x : Int) : Raw (w.setCell ⟨B, 33290, none⟩ (.int .i64 x)) B sv l D n R buf x go mk :=
  ⟨(h.blk.set _ (by decide) _).of (fun i hi => cC_setdn x i), h.log.kept (kpB B _ _ _) (fun g e => h.notB e)⟩
theorem Raw.setgo (h : Raw w B sv l D n R buf dn go mk) (x : Int) : Raw (w.setCell ⟨B, 33291, none⟩ (.int .i64 x)) B sv l D n R buf dn x mk :=
  ⟨(h.blk.set _ (by decide) _).of (fun i hi => cC_setgo x i), h.log.kept (kpB B _ _ _) (fun g e => h.notB e)⟩
theorem Raw.setmk (h : Raw w B sv l D n R buf dn go mk) (x : Bool) : Raw (w.setCell ⟨B, 33292, none⟩ (.bool x)) B sv l D n R buf dn go x :=
  ⟨(h.blk.set _ (by decide) _).of (fun i hi => cC_setmk x i), h.log.kept (kpB B _ _ _) (fun g e => h.notB e)⟩
theorem Raw.setsv (h : Raw w B sv l D n R buf dn go mk) (x : Value) (l' : List Int) (hx : OwnI w x l') : Raw (w.setCell ⟨B, 33293, none⟩ x) B x l' D n R buf dn go mk :=
  ⟨(h.blk.set _ (by decide) _).of (fun i hi => cC_setsv x i hi), hx.kept (kpB B _ _ _) (fun g e => by
    rintro (rfl : g = B)
    obtain ⟨cur, h1⟩ := hx.lt e
    obtain ⟨c, h2, _⟩ := h.blk
    rw [h1] at h2
    simp at h2)⟩

theorem Raw.laybuf {w' : World} (h : Raw w B sv l D n R buf dn go mk) {cur cur' : Array Value} (hb : w.heap[B]? = some (.cells cur 51 (0, 0))) (hb' : w'.heap[B]? = some (.cells cur' 51 (0, 0))) {o m : Nat} {g : Nat → Int} (ho : o + m ≤ 512) (hl : Laid cur cur' (32778 + o) m (fun j => .int .u8 (g j))) (hk : Kp (isB B) w w') : Raw w' B sv l D n R (layB buf o m g) dn go mk :=
  ⟨(h.blk.laid hb hb' hl).of (fun i hi => cC_laybuf ho g i), h.log.kept hk (fun g e => h.notB e)⟩

theorem Raw.laydisk {w' : World} (h : Raw w B sv l D n R buf dn go mk) {cur cur' : Array Value} (hb : w.heap[B]? = some (.cells cur 51 (0, 0))) (hb' : w'.heap[B]? = some (.cells cur' 51 (0, 0))) {o m : Nat} {g : Nat → Int} (ho : o + m ≤ 32768) (hl : Laid cur cur' o m (fun j => .int .u8 (g j))) (hk : Kp (isB B) w w') : Raw w' B sv l (layB D o m g) n R buf dn go mk :=
  ⟨(h.blk.laid hb hb' hl).of (fun i hi => cC_laydisk ho g i), h.log.kept hk (fun g e => h.notB e)⟩
end

theorem IAt.raw {w : World} {B : Nat} {dn : Int} {sv : Value} {d : Id} (h : IAt w B dn sv d) : Raw w B sv d.log d.D d.n d.reg d.buf dn (goV d.mode) d.mark := ⟨h.blk, h.log⟩

/-- A disk out of its bare block. -/
theorem Raw.id {w : World} {B : Nat} {sv : Value} {l : List Int} {D : Nat → Int} {n : Nat} {R buf : Nat → Int} {dn go : Int} {mk : Bool} (h : Raw w B sv l D n R buf dn go mk) (d : Id) (hl : l = d.log) (hD : D = d.D) (hn : n = d.n) (hR : R = d.reg) (hb : buf = d.buf) (hg : go = goV d.mode) (hm : mk = d.mark) (hf : d.failed = decide (d.r1 ≠ 0 ∧ d.r1 ≠ 1)) : IAt w B dn sv d := by
  subst hl; subst hD; subst hn; subst hR; subst hb; subst hg; subst hm
  exact ⟨h.blk, h.log, hf⟩

theorem Raw.same {w : World} {B : Nat} {sv : Value} {l : List Int} {D : Nat → Int} {n : Nat} {R buf b' : Nat → Int} {dn go : Int} {mk : Bool} (h : Raw w B sv l D n R buf dn go mk) (e : ∀ i, i < 512 → buf i = b' i) : Raw w B sv l D n R b' dn go mk := ⟨h.blk.of (fun k hk => cC_same e k), h.log⟩

/-- The blocks that it owns. -/
def foot (B : Nat) (sv : Value) (k : Nat) : Prop := k = B ∨ sv.ownBlock = some k
end Go.Proofs.Ytddalplpmgmplaa
