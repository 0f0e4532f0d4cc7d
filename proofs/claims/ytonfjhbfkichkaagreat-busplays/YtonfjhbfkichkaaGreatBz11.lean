/- The bus and its devices: IdMath, IdBase, IdLeaf. -/
import Derived.Test.YtonfjhbfkichkaaGreatBz01
import Derived.MapKept
import Derived.Maps.AppendAt
import Derived.OwnWalk
import Derived.Laws.CopyRow
import Derived.Deep.MidRow
import Derived.Lib.EndianBits
import Derived.Deep.QuietTactic
import Derived.BigQuiet
import Derived.BigRegion
namespace Go.Proofs.YtonfjhbfkichkaaGreat.Dk
open Go.RowKit
set_option linter.unusedVariables false
structure Id where
 n : Nat
 D : Nat → Int
 r1 : Int
 r2 : Int
 r3 : Int
 r4 : Int
 r5 : Int
 r6 : Int
 c : Int
 buf : Nat → Int
 don : Nat
 mode : Int
 mark : Bool
 failed : Bool
 log : List Int
def byt (x : Int) : Prop := 0 ≤ x ∧ x < 256
structure Id.Ok (d : Id) : Prop where
 few : d.n ≤ 64
 D : ∀ i, i < 512 * d.n → byt (d.D i)
 r1 : byt d.r1
 r2 : byt d.r2
 r3 : byt d.r3
 r4 : byt d.r4
 r5 : byt d.r5
 r6 : byt d.r6
 c : byt d.c
 buf : ∀ i, i < 512 → byt (d.buf i)
 don : d.don < 512
 mode : d.mode = 0 ∨ d.mode = 1 ∨ d.mode = 2 ∨ d.mode = 3
def Id.off (d : Id) : Bool := d.r6 / 16 % 2 == 1
def Id.meant (d : Id) : Bool := d.r6 / 64 % 2 == 1
def Id.place (d : Id) : Int := d.r3 + d.r4 * 256 + d.r5 * 65536 + d.r6 % 16 * 16777216
def Id.there (d : Id) : Bool := decide (d.place + 1 ≤ d.n)
def Id.at (d : Id) : Nat := d.place.toNat * 512
def Id.fresh (d : Id) : Id := { d with r1 := 1, r2 := 1, r3 := 1, r4 := 0, r5 := 0, r6 := 0, mode := 0, don := 0, mark := false, failed := false }
def Id.fail (d : Id) (e : Int) : Id := { d with r1 := e, failed := true, mode := 0, mark := true }
def Id.begin (d : Id) (m : Int) : Id :=
 if d.there = true then (if m = 1 then { d with mode := m, don := 0, buf := fun i => d.D (d.at + i), mark := true } else { d with mode := m, don := 0 })
 else d.fail 16
def ecB (n : Nat) (i : Nat) : Int := if i = 0 then 64 else if i = 99 then 2 else if i = 120 then n % 256 else 0
def Id.clear (d : Id) : Id := { d with mark := false, r1 := 0, failed := false, mode := 0 }
def Id.command (d : Id) (k : Int) : Id :=
 if d.off = true then d
 else if k = 32 ∨ k = 33 ∨ k = 48 ∨ k = 49 then
  (if d.meant = true then (if k < 48 then d.clear.begin 1 else d.clear.begin 2) else d.clear.fail 4)
 else if k = 236 then { d.clear with buf := ecB d.n, mode := 3, don := 0, mark := true }
 else if k = 231 ∨ k = 145 then { d.clear with mark := true }
 else d.clear.fail 4
def Id.next (d : Id) : Id :=
 { d with r3 := (d.place + 1) % 256, r4 := (d.place + 1) / 256 % 256, r5 := (d.place + 1) / 65536 % 256, r6 := d.r6 - d.r6 % 16 + (d.place + 1) / 16777216 % 16, r2 := (d.r2 - 1) % 256 }
def Id.one (d : Id) : Id := if d.next.r2 = 0 then { d.next with mode := 0 } else d.next.begin d.mode
def Id.lay (d : Id) : Id := { d with D := fun i => if d.at ≤ i ∧ i < d.at + 512 then d.buf (i - d.at) else d.D i, log := d.log ++ [d.place] }
def setB (f : Nat → Int) (k : Nat) (x : Int) : Nat → Int := fun i => if i = k then x else f i
def Id.put (d : Id) (b : Int) : Id :=
 if d.mode = 2 then
  (if d.don + 1 < 512 then { d with buf := setB d.buf d.don b, don := d.don + 1 }
     else if d.there = true then { (({ d with buf := setB d.buf d.don b, don := 0 } : Id).lay.one) with mark := true }
     else ({ d with buf := setB d.buf d.don b, don := 0 } : Id).fail 16)
 else d
def Id.getV (d : Id) : Int := if d.mode = 1 ∨ d.mode = 3 then d.buf d.don else 255
def Id.get (d : Id) : Id :=
 if d.mode = 1 ∨ d.mode = 3 then
  (if d.don + 1 < 512 then { d with don := d.don + 1 }
     else if d.mode = 3 then { d with don := 0, mode := 0 }
     else ({ d with don := 0 } : Id).one)
 else d
def Id.puts (d : Id) (v : Int) : Nat → Id
 | 0 => d
 | k + 1 => (d.puts v k).put (v / 2 ^ (8 * k) % 256)
def Id.gets (d : Id) : Nat → Id
 | 0 => d
 | k + 1 => (d.gets k).get
def Id.getsV (d : Id) : Nat → Int
 | 0 => 0
 | k + 1 => d.getsV k + (d.gets k).getV * 2 ^ (8 * k)
def Id.ctl (d : Id) (b : Int) : Id := if b / 4 % 2 = 1 then ({ d with c := b } : Id).fresh else { d with c := b }
def Id.out (d : Id) (reg : Int) (size : Nat) (v : Int) : Id :=
 if reg = 0 then (if d.off = true then d else d.puts v size)
 else if reg = 1 then d
 else if reg = 2 then { d with r2 := v % 256 }
 else if reg = 3 then { d with r3 := v % 256 }
 else if reg = 4 then { d with r4 := v % 256 }
 else if reg = 5 then { d with r5 := v % 256 }
 else if reg = 6 then { d with r6 := v % 256 }
 else if reg = 7 then d.command (v % 256)
 else d.ctl (v % 256)
def Id.status (d : Id) : Int := 80 + (if d.mode = 0 then 0 else 8) + (if d.failed = true then 1 else 0)
def Id.inV (d : Id) (reg : Int) (size : Nat) : Int :=
 if d.off = true ∧ reg ≠ 6 then 0
 else if reg = 0 then d.getsV size
 else if reg = 1 then d.r1
 else if reg = 2 then d.r2
 else if reg = 3 then d.r3
 else if reg = 4 then d.r4
 else if reg = 5 then d.r5
 else if reg = 6 then d.r6
 else d.status
def Id.inn (d : Id) (reg : Int) (size : Nat) : Id :=
 if d.off = true then d
 else if reg = 0 then d.gets size
 else if reg = 7 then { d with mark := false }
 else d
def Id.line (d : Id) : Bool := d.mark && !(d.c / 2 % 2 == 1)
def Id.told (d : Id) : Id := { d with log := [] }
def id0 (n : Nat) (D : Nat → Int) : Id := ⟨n, D, 1, 1, 1, 0, 0, 0, 0, fun _ => 0, 0, 0, false, false, []⟩
theorem byt_m {v : Int} : byt (v % 256) := ⟨by omega, by omega⟩
theorem byt0 : byt 0 := ⟨by decide, by decide⟩
theorem byt1 : byt 1 := ⟨by decide, by decide⟩
theorem id0_ok {n : Nat} {D : Nat → Int} (h : n ≤ 64) (hD : ∀ i, i < 512 * n → byt (D i)) : (id0 n D).Ok :=
 ⟨h, hD, byt1, byt1, byt1, byt0, byt0, byt0, byt0, fun _ _ => byt0, Nat.zero_lt_succ _, .inl rfl⟩
section
variable {d : Id}
theorem Id.Ok.place (h : d.Ok) : 0 ≤ d.place ∧ d.place < 268435456 := by
 have h3 := h.r3; have h4 := h.r4; have h5 := h.r5; have h6 := h.r6
 unfold byt at h3 h4 h5 h6
 unfold Id.place
 omega
theorem Id.Ok.at (h : d.Ok) (ht : d.there = true) : d.at + 512 ≤ 512 * d.n := by
 have hp := h.place
 unfold Id.there at ht
 rw [decide_eq_true_eq] at ht
 unfold Id.at
 omega
theorem Id.Ok.fail (h : d.Ok) {e : Int} (he : byt e) : (d.fail e).Ok := { h with r1 := he, mode := .inl rfl }
theorem Id.Ok.fresh (h : d.Ok) : d.fresh.Ok := { h with r1 := byt1, r2 := byt1, r3 := byt1, r4 := byt0, r5 := byt0, r6 := byt0, don := by show 0 < 512; decide, mode := .inl rfl }
theorem Id.Ok.clear (h : d.Ok) : d.clear.Ok := { h with r1 := byt0, mode := .inl rfl }
theorem Id.Ok.next (h : d.Ok) : d.next.Ok := by
 have h6 := h.r6
 unfold byt at h6
 exact { h with r3 := byt_m, r4 := byt_m, r5 := byt_m, r6 := ⟨by show 0 ≤ d.r6 - d.r6 % 16 + (d.place + 1) / 16777216 % 16; omega, by show d.r6 - d.r6 % 16 + (d.place + 1) / 16777216 % 16 < 256; omega⟩, r2 := byt_m }
theorem Id.Ok.begin (h : d.Ok) {m : Int} (hm : m = 1 ∨ m = 2 ∨ m = 3) : (d.begin m).Ok := by
 unfold Id.begin
 split
 ·rename_i ht
  have ha := h.at ht
  split
  ·exact { h with buf := (fun i hi => h.D _ (by omega)), don := (by show 0 < 512; decide), mode := .inr hm }
  ·exact { h with don := (by show 0 < 512; decide), mode := .inr hm }
 ·exact h.fail ⟨by decide, by decide⟩
theorem Id.Ok.command (h : d.Ok) (k : Int) : (d.command k).Ok := by
 unfold Id.command
 split
 ·exact h
 ·split
  ·split
   ·split
    ·exact h.clear.begin (.inl rfl)
    ·exact h.clear.begin (.inr (.inl rfl))
   ·exact h.clear.fail ⟨by decide, by decide⟩
  ·split
   ·have hn := h.few
    refine { h.clear with buf := (fun i hi => ?_), don := (by show 0 < 512; decide), mode := .inr (.inr (.inr rfl)) }
    show byt (ecB d.n i)
    unfold ecB byt
    split
    ·decide
    ·split
     ·decide
     ·split
      ·omega
      ·decide
   ·split
    ·exact { h.clear with }
    ·exact h.clear.fail ⟨by decide, by decide⟩
theorem Id.Ok.one (h : d.Ok) (hm : d.mode = 1 ∨ d.mode = 2 ∨ d.mode = 3) : d.one.Ok := by
 unfold Id.one
 split
 ·exact { h.next with mode := .inl rfl }
 ·exact h.next.begin hm
theorem Id.Ok.setB (h : d.Ok) {b : Int} (hb : byt b) (k : Nat) {n : Nat} (hn : n < 512) : ({ d with buf := Go.Proofs.YtonfjhbfkichkaaGreat.Dk.setB d.buf k b, don := n } : Id).Ok := { h with
 buf := (fun i hi => by
  show byt (if i = k then b else d.buf i)
  split
  ·exact hb
  ·exact h.buf i hi)
 don := hn }
theorem Id.Ok.lay (h : d.Ok) (ht : d.there = true) : d.lay.Ok := { h with
 D := (fun i hi => by
  show byt (if d.at ≤ i ∧ i < d.at + 512 then d.buf (i - d.at) else d.D i)
  split
  ·exact h.buf _ (by omega)
  ·exact h.D i hi) }
theorem Id.Ok.put (h : d.Ok) {b : Int} (hb : byt b) : (d.put b).Ok := by
 unfold Id.put
 split
 ·rename_i hm
  split
  ·rename_i hd
   exact h.setB hb _ hd
  ·split
   ·rename_i ht
    have h1 := h.setB hb d.don (n := 0) (by decide)
    have h2 : ({ d with buf := Go.Proofs.YtonfjhbfkichkaaGreat.Dk.setB d.buf d.don b, don := 0 } : Id).lay.Ok := h1.lay ht
    have h3 := h2.one (.inr (.inl hm))
    exact { h3 with }
   ·exact (h.setB hb d.don (n := 0) (by decide)).fail ⟨by decide, by decide⟩
 ·exact h
theorem Id.Ok.get (h : d.Ok) : d.get.Ok := by
 unfold Id.get
 split
 ·rename_i hm
  split
  ·rename_i hd
   exact { h with don := hd }
  ·split
   ·exact { h with don := (by show 0 < 512; decide), mode := .inl rfl }
   ·rename_i h3
    have h1 : ({ d with don := 0 } : Id).Ok := { h with don := (by show 0 < 512; decide) }
    exact h1.one (.inl (hm.resolve_right h3))
 ·exact h
theorem Id.Ok.puts (h : d.Ok) (v : Int) : ∀ k, (d.puts v k).Ok
 | 0 => h
 | k + 1 => (h.puts v k).put byt_m
theorem Id.Ok.gets (h : d.Ok) : ∀ k, (d.gets k).Ok
 | 0 => h
 | k + 1 => (h.gets k).get
theorem Id.Ok.getV (h : d.Ok) : byt d.getV := by
 unfold Id.getV
 split
 ·exact h.buf _ h.don
 ·exact ⟨by decide, by decide⟩
theorem Id.Ok.out (h : d.Ok) (reg : Int) (size : Nat) (v : Int) : (d.out reg size v).Ok := by
 unfold Id.out
 split
 ·split
  ·exact h
  ·exact h.puts v size
 ·split
  ·exact h
  ·split
   ·exact { h with r2 := byt_m }
   ·split
    ·exact { h with r3 := byt_m }
    ·split
     ·exact { h with r4 := byt_m }
     ·split
      ·exact { h with r5 := byt_m }
      ·split
       ·exact { h with r6 := byt_m }
       ·split
        ·exact h.command _
        ·unfold Id.ctl
         have h1 : ({ d with c := v % 256 } : Id).Ok := { h with c := byt_m }
         split
         ·exact h1.fresh
         ·exact h1
theorem Id.Ok.inn (h : d.Ok) (reg : Int) (size : Nat) : (d.inn reg size).Ok := by
 unfold Id.inn
 split
 ·exact h
 ·split
  ·exact h.gets size
  ·split
   ·exact { h with }
   ·exact h
theorem Id.Ok.told (h : d.Ok) : d.told.Ok := { h with }
end
open Go.ChangeShapes Go.WideShapes Go.ChangeAt
structure Kp (S : Nat → Prop) (w w' : World) : Prop where
 os : w'.os = w.os
 tape : w'.tape = w.tape
 output : w'.output = w.output
 size : w.heap.size ≤ w'.heap.size
 block : ∀ k, k < w.heap.size → ¬ S k → w'.heap[k]? = w.heap[k]?
theorem Kp.refl (S : Nat → Prop) (w : World) : Kp S w w := ⟨rfl, rfl, rfl, Nat.le_refl _, fun _ _ _ => rfl⟩
theorem Kp.trans {S : Nat → Prop} {a b c : World} (h : Kp S a b) (k : Kp S b c) : Kp S a c :=
 ⟨k.os.trans h.os, k.tape.trans h.tape, k.output.trans h.output, Nat.le_trans h.size k.size, fun i hi hs => (k.block i (Nat.lt_of_lt_of_le hi h.size) hs).trans (h.block i hi hs)⟩
theorem Kp.mono {S T : Nat → Prop} {a b : World} (h : Kp S a b) (hST : ∀ k, k < a.heap.size → S k → T k) : Kp T a b :=
 ⟨h.os, h.tape, h.output, h.size, fun i hi hs => h.block i hi (fun g => hs (hST i hi g))⟩
theorem Kp.alloc (S : Nat → Prop) (w : World) (o : Obj) : Kp S w (w.alloc o) :=
 ⟨rfl, rfl, rfl, by simp, fun k hk _ => Below.heap_alloc _ _ _ hk⟩
theorem Kp.setCell {S : Nat → Prop} (w : World) {p : Addr} (hp : S p.block) (u : Value) : Kp S w (w.setCell p u) :=
 ⟨rfl, rfl, rfl, by simp [World.setCell], fun k hk hs => Below.heap_setCell _ _ _ _ (fun e => hs (e ▸ hp))⟩
theorem Kp.drew {S : Nat → Prop} {w w' : World} (h : Kp S w w') : Kp S w w'.drew := ⟨h.os, h.tape, h.output, h.size, h.block⟩
theorem Kp.drewN {S : Nat → Prop} {w w' : World} (h : Kp S w w') (n : Nat) : Kp S w (w'.drewN n) := ⟨h.os, h.tape, h.output, h.size, h.block⟩
theorem Kp.over {S T : Nat → Prop} {a b c : World} (h : Kp T a b) (k : Kp S b c) (hS : ∀ j, j < a.heap.size → S j → T j) : Kp T a c :=
 ⟨k.os.trans h.os, k.tape.trans h.tape, k.output.trans h.output, Nat.le_trans h.size k.size, fun i hi hs => (k.block i (Nat.lt_of_lt_of_le hi h.size) (fun g => hs (hS i hi g))).trans (h.block i hi hs)⟩
theorem heap_lt {w : World} {b : Nat} {o : Obj} (h : w.heap[b]? = some o) : b < w.heap.size := (Array.getElem?_eq_some_iff.1 h).1
theorem heap_kept {S : Nat → Prop} {w w' : World} {b : Nat} {o : Obj} (h : w.heap[b]? = some o) (k : Kp S w w') (hS : ¬ S b) : w'.heap[b]? = some o := (k.block b (heap_lt h) hS).trans h
theorem heap_set {w : World} {b k : Nat} {v : Value} {c : Array Value} {t : TypeId} {fr : Nat × Nat} (h : w.heap[b]? = some (.cells c t fr)) : (w.setCell ⟨b, k, none⟩ v).heap[b]? = some (.cells (c.setIfInBounds k v) t fr) := by
 simp [World.setCell, Array.getElem?_modify, h]
def noB (_ : Nat) : Prop := False
def isB (B k : Nat) : Prop := k = B
theorem Kp.any {S : Nat → Prop} {w w' : World} (h : Kp noB w w') : Kp S w w' := h.mono fun _ _ f => f.elim
theorem kpB (B : Nat) (w : World) (k : Nat) (v : Value) : Kp (isB B) w (w.setCell ⟨B, k, none⟩ v) := Kp.setCell (S := isB B) w (p := ⟨B, k, none⟩) rfl v
theorem heap_new (w : World) (o : Obj) : (w.alloc o).heap[w.heap.size]? = some o := (MapKept.heap_alloc w o).1
theorem Kp.setRow {S : Nat → Prop} (w : World) {g : Nat} (hp : S g) (cs : Array Value) : Kp S w (w.setRow g cs) :=
 ⟨rfl, rfl, rfl, by simp [World.setRow], fun k hk hs => setRow_other w g k cs (fun e => hs (e ▸ hp))⟩
def OwnI (w : World) (v : Value) (l : List Int) : Prop := w.ownsRow 0 3 1 v l.length (l.map (Value.int .i64))
theorem OwnI.kept {S : Nat → Prop} {w w' : World} {v : Value} {l : List Int} (h : OwnI w v l) (k : Kp S w w') (hS : ∀ g, v.ownBlock = some g → ¬ S g) : OwnI w' v l := by
 refine ⟨h.1, ?_⟩
 rcases h.2 with g | ⟨g, cap, cur, rfl, hb, hg, r⟩
 ·exact .inl g
 ·exact .inr ⟨g, cap, cur, rfl, hb, heap_kept hg k (hS g rfl), r⟩
theorem OwnI.lt {w : World} {v : Value} {l : List Int} (h : OwnI w v l) {g : Nat} (e : v.ownBlock = some g) : ∃ cur, w.heap[g]? = some (.cells cur 3 (0, 0)) := by
 rcases h.2 with ⟨rfl, _⟩ | ⟨g', cap, cur, rfl, hb, hg, r⟩
 ·cases e
 ·simp only [Value.ownBlock, Option.some.injEq] at e
  subst e
  exact ⟨cur, hg⟩
theorem OwnI.sl {w : World} {v : Value} {l : List Int} (h : OwnI w v l) : ∃ p c, v = .slice p l.length c := by
 rcases h.2 with ⟨e, h2⟩ | ⟨g, cap, cur, rfl, r⟩
 ·rw [h2]; exact ⟨none, 0, e⟩
 ·exact ⟨_, _, rfl⟩
theorem OwnI.nil (w : World) : OwnI w (.slice none 0 0) [] := ⟨rfl, .inl ⟨rfl, rfl⟩⟩
def Laid (cur cur' : Array Value) (o L : Nat) (f : Nat → Value) : Prop := cur'.size = cur.size ∧ ∀ j, cur'[j]? = if o ≤ j ∧ j < o + L then some (f (j - o)) else cur[j]?
theorem Laid.none (cur : Array Value) (o : Nat) (f : Nat → Value) : Laid cur cur o 0 f := ⟨rfl, fun j => by rw [if_neg (by omega)]⟩
theorem Laid.then {c1 c2 c3 : Array Value} {o L K : Nat} {f g : Nat → Value} (h : Laid c1 c2 o L f) (k : Laid c2 c3 (o + L) K g) (e : ∀ j, j < K → g j = f (L + j)) : Laid c1 c3 o (L + K) f := by
 refine ⟨k.1.trans h.1, fun j => ?_⟩
 rw [k.2 j]
 by_cases a : o + L ≤ j ∧ j < o + L + K
 ·rw [if_pos a, if_pos (by omega), e _ (by omega)]; congr 2; omega
 ·rw [if_neg a, h.2 j]
  by_cases b : o ≤ j ∧ j < o + L
  ·rw [if_pos b, if_pos (by omega)]
  ·rw [if_neg b, if_neg (by omega)]
theorem Laid.one {cur : Array Value} {o : Nat} (ho : o < cur.size) (v : Value) : Laid cur (cur.setIfInBounds o v) o 1 (fun _ => v) := by
 refine ⟨by simp, fun j => ?_⟩
 rw [Array.getElem?_setIfInBounds]
 by_cases e : o = j
 ·subst e; rw [if_pos rfl, if_pos ho, if_pos (by omega)]
 ·rw [if_neg e, if_neg (by omega)]
theorem Laid.splice {cur : Array Value} {o : Nat} {cs : List Value} (ho : o + cs.length ≤ cur.size) (f : Nat → Value) (hf : ∀ j, j < cs.length → cs[j]? = some (f j)) :
  Laid cur (cur.toList.take o ++ cs ++ cur.toList.drop (o + cs.length)).toArray o cs.length f := by
 refine ⟨by simp; omega, fun j => ?_⟩
 rw [List.getElem?_toArray]
 by_cases a : j < o
 ·rw [if_neg (by omega), List.append_assoc, List.getElem?_append_left (by simp; omega), List.getElem?_take_of_lt a, Array.getElem?_toList]
 ·by_cases b : j < o + cs.length
  ·rw [if_pos (by omega), List.getElem?_append_left (by simp; omega), List.getElem?_append_right (by simp; omega)]
   have e : j - (cur.toList.take o).length = j - o := by simp; omega
   rw [e, hf _ (by omega)]
  ·rw [if_neg (by omega), List.getElem?_append_right (by simp; omega)]
   have e : j - (cur.toList.take o ++ cs).length = j - (o + cs.length) := by simp; omega
   rw [e, List.getElem?_drop, Array.getElem?_toList]
   congr 1; omega
theorem cell_at {w : World} {S o : Nat} {cur : Array Value} {t : TypeId} (h : w.heap[S]? = some (.cells cur t (0, 0))) : w.cell? ⟨S, o, none⟩ = cur[o]? := by simp [World.cell?, h]
theorem frozen_at {w : World} {S o : Nat} {cur : Array Value} {t : TypeId} (h : w.heap[S]? = some (.cells cur t (0, 0))) : w.frozen? ⟨S, o, none⟩ = false := by simp [World.frozen?, h]
theorem bytesT : Tryz.prog.underlying 22 = some (.slice 5) := Tryz.underlying22
theorem byteT : (Tryz.prog.info? 5).map (·.size) = some 1 := by kernel_rfl
theorem copy_any (w : World) (S o dLen dCap b q sLen sCap n : Nat) (hn : n = Nat.min sLen dLen) (cur : Array Value) (t : TypeId) (hS : w.heap[S]? = some (.cells cur t (0, 0))) (ho : o + n ≤ cur.size) (f : Nat → Int)
  (hsrc : ∀ j, j < n → w.cell? ⟨b, q + j, none⟩ = some (.int .u8 (f j))) :
  ∃ w2, (Builtin.copy_ #[22, 22] 3 #[.slice (some ⟨S, o, none⟩) dLen dCap, .slice (some ⟨b, q, none⟩) sLen sCap]).run Tryz.prog w = .ok (.int .i64 n) w2 ∧
   (∃ cur', w2.heap[S]? = some (.cells cur' t (0, 0)) ∧ Laid cur cur' o n (fun j => .int .u8 (f j))) ∧ Kp (isB S) w w2 := by
 obtain ⟨cs, hcs⟩ : ∃ cs : List Value, cs = (List.range n).map (fun j => Value.int .u8 (f j)) := ⟨_, rfl⟩
 have hlen : cs.length = n := by rw [hcs]; simp
 have hget : ∀ j, j < cs.length → cs[j]? = some (.int .u8 (f j)) := fun j hj => by
  rw [hlen] at hj
  rw [hcs, List.getElem?_map, List.getElem?_range hj]
  rfl
 have hl := Laid.splice (cur := cur) (o := o) (cs := cs) (by omega) (fun j => .int .u8 (f j)) hget
 have hrun := run_copy_row Tryz.prog w 22 22 3 5 S o dLen dCap ⟨b, q, none⟩ sLen sCap cur t cs bytesT byteT hS (by omega) (fun j v hv => by
   have hj : j < cs.length := (List.getElem?_eq_some_iff.1 hv).1
   rw [hget j hj] at hv
   cases hv
   have e : (⟨b, q, none⟩ : Addr).add j = ⟨b, q + j, none⟩ := by unfold Addr.add; split <;> simp_all
   rw [e]
   exact hsrc j (by omega)) (by omega) (fun v hv => by rw [hcs] at hv; simp at hv; obtain ⟨j, _, rfl⟩ := hv; rfl)
 rw [hlen] at hrun hl
 refine ⟨_, hrun, ⟨_, setRow_heap w S _ _ t _ hS, hl⟩, Kp.setRow (S := isB S) w rfl _⟩
def goV (m : Int) : Int := if m = 2 then 3 else if m = 3 then 2 else m
def Id.reg (d : Id) (j : Nat) : Int := if j = 1 then d.r1 else if j = 2 then d.r2 else if j = 3 then d.r3 else if j = 4 then d.r4 else if j = 5 then d.r5 else if j = 6 then d.r6 else if j = 8 then d.c else 0
def cC (D : Nat → Int) (n : Nat) (R : Nat → Int) (buf : Nat → Int) (dn go : Int) (mk : Bool) (sv : Value) (k : Nat) : Value :=
 if k < 32768 then .int .u8 (D k) else if k = 32768 then .int .i64 n else if k < 32778 then .int .u8 (R (k - 32769)) else if k < 33290 then .int .u8 (buf (k - 32778)) else if k = 33290 then .int .i64 dn else if k = 33291 then .int .i64 go else if k = 33292 then .bool mk else sv
def CAt (w : World) (B : Nat) (f : Nat → Value) : Prop := ∃ cur : Array Value, w.heap[B]? = some (.cells cur 115 (0, 0)) ∧ cur.size = 33294 ∧ ∀ k, k < 33294 → cur[k]? = some (f k)
section
variable {w w' : World} {B : Nat} {f : Nat → Value}
theorem CAt.kept {S : Nat → Prop} (h : CAt w B f) (k : Kp S w w') (hS : ¬ S B) : CAt w' B f := by
 obtain ⟨cur, h1, h2⟩ := h
 exact ⟨cur, heap_kept h1 k hS, h2⟩
theorem CAt.lt (h : CAt w B f) : B < w.heap.size := by
 obtain ⟨cur, h1, h2⟩ := h
 exact heap_lt h1
theorem CAt.cell (h : CAt w B f) (k : Nat) (hk : k < 33294) : w.cell? ⟨B, k, none⟩ = some (f k) := by
 obtain ⟨cur, h1, h2, h3⟩ := h
 rw [cell_at h1]
 exact h3 k hk
theorem CAt.fz (h : CAt w B f) (k : Nat) : w.frozen? ⟨B, k, none⟩ = false := by
 obtain ⟨cur, h1, h2, h3⟩ := h
 exact frozen_at h1
theorem CAt.of (h : CAt w B f) {g : Nat → Value} (e : ∀ k, k < 33294 → f k = g k) : CAt w B g := by
 obtain ⟨cur, h1, h2, h3⟩ := h
 exact ⟨cur, h1, h2, fun k hk => by rw [h3 k hk, e k hk]⟩
theorem CAt.set (h : CAt w B f) (k : Nat) (hk : k < 33294) (v : Value) : CAt (w.setCell ⟨B, k, none⟩ v) B (fun j => if j = k then v else f j) := by
 obtain ⟨cur, h1, h2, h3⟩ := h
 refine ⟨_, heap_set h1, by rw [Array.size_setIfInBounds]; exact h2, fun j hj => ?_⟩
 rw [Array.getElem?_setIfInBounds]
 by_cases e : k = j
 ·subst e
  rw [if_pos rfl, if_pos (by omega)]
  show some v = some (if k = k then v else f k)
  rw [if_pos rfl]
 ·rw [if_neg e]
  show cur[j]? = some (if j = k then v else f j)
  rw [if_neg (by omega)]
  exact h3 j hj
theorem CAt.laid (h : CAt w B f) {cur cur' : Array Value} (hb : w.heap[B]? = some (.cells cur 115 (0, 0))) (hb' : w'.heap[B]? = some (.cells cur' 115 (0, 0))) {o n : Nat} {g : Nat → Value} (hl : Laid cur cur' o n g) : CAt w' B (fun j => if o ≤ j ∧ j < o + n then g (j - o) else f j) := by
 obtain ⟨c0, h1, h2, h3⟩ := h
 rw [h1] at hb
 have e : c0 = cur := by injection hb with hb; injection hb
 subst e
 refine ⟨cur', hb', by rw [hl.1]; exact h2, fun j hj => ?_⟩
 rw [hl.2 j]
 by_cases e : o ≤ j ∧ j < o + n
 ·rw [if_pos e]
  show some (g (j - o)) = some (if o ≤ j ∧ j < o + n then g (j - o) else f j)
  rw [if_pos e]
 ·rw [if_neg e]
  show c0[j]? = some (if o ≤ j ∧ j < o + n then g (j - o) else f j)
  rw [if_neg e]
  exact h3 j hj
end
section
variable {D : Nat → Int} {n : Nat} {R buf : Nat → Int} {dn go : Int} {mk : Bool} {sv : Value}
theorem cC_D {k : Nat} (h : k < 32768) : cC D n R buf dn go mk sv k = .int .u8 (D k) := by unfold cC; rw [if_pos h]
theorem cC_R {j : Nat} (h : j < 9) : cC D n R buf dn go mk sv (32769 + j) = .int .u8 (R j) := by
 unfold cC
 rw [if_neg (by omega), if_neg (by omega), if_pos (by omega), show 32769 + j - 32769 = j by omega]
theorem cC_b {j : Nat} (h : j < 512) : cC D n R buf dn go mk sv (32778 + j) = .int .u8 (buf j) := by
 unfold cC
 rw [if_neg (by omega), if_neg (by omega), if_neg (by omega), if_pos (by omega), show 32778 + j - 32778 = j by omega]
theorem cC_setR {j : Nat} (h : j < 9) (x : Int) (k : Nat) (hk : k < 33294) : (if k = 32769 + j then Value.int .u8 x else cC D n R buf dn go mk sv k) = cC D n (setB R j x) buf dn go mk sv k := by
 by_cases e : k = 32769 + j
 ·subst e
  rw [if_pos rfl, cC_R h]
  unfold setB
  rw [if_pos rfl]
 ·rw [if_neg e]
  unfold cC
  by_cases a : k < 32768
  ·rw [if_pos a, if_pos a]
  ·rw [if_neg a, if_neg a]
   by_cases b : k = 32768
   ·rw [if_pos b, if_pos b]
   ·rw [if_neg b, if_neg b]
    by_cases c : k < 32778
    ·rw [if_pos c, if_pos c]
     unfold setB
     rw [if_neg (by omega)]
    ·rw [if_neg c, if_neg c]
theorem cC_setdn (x : Int) (k : Nat) : (if k = 33290 then Value.int .i64 x else cC D n R buf dn go mk sv k) = cC D n R buf x go mk sv k := by
 by_cases e : k = 33290
 ·subst e; rfl
 ·rw [if_neg e]; unfold cC; rw [if_neg e, if_neg e]
theorem cC_setgo (x : Int) (k : Nat) : (if k = 33291 then Value.int .i64 x else cC D n R buf dn go mk sv k) = cC D n R buf dn x mk sv k := by
 by_cases e : k = 33291
 ·subst e; rfl
 ·rw [if_neg e]; unfold cC; rw [if_neg e, if_neg e]
theorem cC_setmk (x : Bool) (k : Nat) : (if k = 33292 then Value.bool x else cC D n R buf dn go mk sv k) = cC D n R buf dn go x sv k := by
 by_cases e : k = 33292
 ·subst e; rfl
 ·rw [if_neg e]; unfold cC; rw [if_neg e, if_neg e]
theorem cC_setsv (x : Value) (k : Nat) (hk : k < 33294) : (if k = 33293 then x else cC D n R buf dn go mk sv k) = cC D n R buf dn go mk x k := by
 by_cases e : k = 33293
 ·subst e; rfl
 ·rw [if_neg e]
  unfold cC
  repeat' split
  all_goals first | rfl | omega
def layB (f : Nat → Int) (o n : Nat) (g : Nat → Int) : Nat → Int := fun i => if o ≤ i ∧ i < o + n then g (i - o) else f i
theorem cC_laybuf {o m : Nat} (h : o + m ≤ 512) (g : Nat → Int) (k : Nat) : (if 32778 + o ≤ k ∧ k < 32778 + o + m then Value.int .u8 (g (k - (32778 + o))) else cC D n R buf dn go mk sv k) = cC D n R (layB buf o m g) dn go mk sv k := by
 by_cases e : 32778 + o ≤ k ∧ k < 32778 + o + m
 ·rw [if_pos e]
  obtain ⟨j, rfl⟩ : ∃ j, k = 32778 + j := ⟨k - 32778, by omega⟩
  rw [cC_b (by omega)]
  unfold layB
  rw [if_pos (by omega), show 32778 + j - (32778 + o) = j - o by omega]
 ·rw [if_neg e]
  by_cases c : 32778 ≤ k ∧ k < 33290
  ·obtain ⟨j, rfl⟩ : ∃ j, k = 32778 + j := ⟨k - 32778, by omega⟩
   rw [cC_b (by omega), cC_b (by omega)]
   unfold layB
   rw [if_neg (by omega)]
  ·unfold cC
   repeat' split
   all_goals first | rfl | omega
theorem cC_same {b' : Nat → Int} (h : ∀ i, i < 512 → buf i = b' i) (k : Nat) : cC D n R buf dn go mk sv k = cC D n R b' dn go mk sv k := by
 unfold cC
 by_cases a : k < 32778
 ·repeat' split
  all_goals first | rfl | omega
 ·by_cases b : k < 33290
  ·rw [h _ (by omega)]
  ·repeat' split
   all_goals first | rfl | omega
theorem cC_laydisk {o m : Nat} (h : o + m ≤ 32768) (g : Nat → Int) (k : Nat) : (if o ≤ k ∧ k < o + m then Value.int .u8 (g (k - o)) else cC D n R buf dn go mk sv k) = cC (layB D o m g) n R buf dn go mk sv k := by
 by_cases e : o ≤ k ∧ k < o + m
 ·rw [if_pos e, cC_D (by omega)]
  unfold layB
  rw [if_pos e]
 ·rw [if_neg e]
  unfold cC
  by_cases a : k < 32768
  ·rw [if_pos a, if_pos a]
   unfold layB
   rw [if_neg e]
  ·rw [if_neg a, if_neg a]
end
section
variable {d : Id}
theorem reg_1 (x : Int) : ({ d with r1 := x } : Id).reg = setB d.reg 1 x := by
 funext j; unfold Id.reg setB; by_cases e : j = 1 <;> simp [e]
theorem reg_2 (x : Int) : ({ d with r2 := x } : Id).reg = setB d.reg 2 x := by
 funext j; unfold Id.reg setB; by_cases e : j = 2 <;> simp [e]
theorem reg_3 (x : Int) : ({ d with r3 := x } : Id).reg = setB d.reg 3 x := by
 funext j; unfold Id.reg setB; by_cases e : j = 3 <;> simp [e]
theorem reg_4 (x : Int) : ({ d with r4 := x } : Id).reg = setB d.reg 4 x := by
 funext j; unfold Id.reg setB; by_cases e : j = 4 <;> simp [e]
theorem reg_5 (x : Int) : ({ d with r5 := x } : Id).reg = setB d.reg 5 x := by
 funext j; unfold Id.reg setB; by_cases e : j = 5 <;> simp [e]
theorem reg_6 (x : Int) : ({ d with r6 := x } : Id).reg = setB d.reg 6 x := by
 funext j; unfold Id.reg setB; by_cases e : j = 6 <;> simp [e]
theorem reg_8 (x : Int) : ({ d with c := x } : Id).reg = setB d.reg 8 x := by
 funext j; unfold Id.reg setB; by_cases e : j = 8 <;> simp [e]
end
def fC (d : Id) (dn : Int) (sv : Value) : Nat → Value := cC d.D d.n d.reg d.buf dn (goV d.mode) d.mark sv
structure IAt (w : World) (B : Nat) (dn : Int) (sv : Value) (d : Id) : Prop where
 blk : CAt w B (fC d dn sv)
 log : OwnI w sv d.log
 fl : d.failed = decide (d.r1 ≠ 0 ∧ d.r1 ≠ 1)
section
variable {w : World} {B : Nat} {dn : Int} {sv : Value} {d : Id}
theorem IAt.kept {S : Nat → Prop} {w' : World} (h : IAt w B dn sv d) (k : Kp S w w') (hB : ¬ S B) (hs : ∀ g, sv.ownBlock = some g → ¬ S g) : IAt w' B dn sv d :=
 ⟨h.blk.kept k hB, h.log.kept k hs, h.fl⟩
theorem IAt.notB (h : IAt w B dn sv d) {g : Nat} (e : sv.ownBlock = some g) : ¬ isB B g := by
 rintro (rfl : g = B)
 obtain ⟨cur, h1⟩ := h.log.lt e
 obtain ⟨c, h2, _⟩ := h.blk
 rw [h1] at h2
 simp at h2
theorem IAt.lt (h : IAt w B dn sv d) : B < w.heap.size := h.blk.lt
theorem IAt.fz (h : IAt w B dn sv d) (k : Nat) : w.frozen? ⟨B, k, none⟩ = false := h.blk.fz k
theorem IAt.cn (h : IAt w B dn sv d) : w.cell? ⟨B, 32768, none⟩ = some (.int .i64 d.n) := h.blk.cell 32768 (by decide)
theorem IAt.cr (h : IAt w B dn sv d) (j : Nat) (hj : j < 9) : w.cell? ⟨B, 32769 + j, none⟩ = some (.int .u8 (d.reg j)) := by rw [h.blk.cell _ (by omega)]; unfold fC; rw [cC_R hj]
theorem IAt.c1 (h : IAt w B dn sv d) : w.cell? ⟨B, 32770, none⟩ = some (.int .u8 d.r1) := h.cr 1 (by decide)
theorem IAt.c2 (h : IAt w B dn sv d) : w.cell? ⟨B, 32771, none⟩ = some (.int .u8 d.r2) := h.cr 2 (by decide)
theorem IAt.c3 (h : IAt w B dn sv d) : w.cell? ⟨B, 32772, none⟩ = some (.int .u8 d.r3) := h.cr 3 (by decide)
theorem IAt.c4 (h : IAt w B dn sv d) : w.cell? ⟨B, 32773, none⟩ = some (.int .u8 d.r4) := h.cr 4 (by decide)
theorem IAt.c5 (h : IAt w B dn sv d) : w.cell? ⟨B, 32774, none⟩ = some (.int .u8 d.r5) := h.cr 5 (by decide)
theorem IAt.c6 (h : IAt w B dn sv d) : w.cell? ⟨B, 32775, none⟩ = some (.int .u8 d.r6) := h.cr 6 (by decide)
theorem IAt.c8 (h : IAt w B dn sv d) : w.cell? ⟨B, 32777, none⟩ = some (.int .u8 d.c) := h.cr 8 (by decide)
theorem IAt.cb (h : IAt w B dn sv d) (j : Nat) (hj : j < 512) : w.cell? ⟨B, 32778 + j, none⟩ = some (.int .u8 (d.buf j)) := by rw [h.blk.cell _ (by omega)]; unfold fC; rw [cC_b hj]
theorem IAt.cD (h : IAt w B dn sv d) (j : Nat) (hj : j < 32768) : w.cell? ⟨B, j, none⟩ = some (.int .u8 (d.D j)) := by rw [h.blk.cell _ (by omega)]; unfold fC; rw [cC_D hj]
theorem IAt.cdn (h : IAt w B dn sv d) : w.cell? ⟨B, 33290, none⟩ = some (.int .i64 dn) := h.blk.cell 33290 (by decide)
theorem IAt.cgo (h : IAt w B dn sv d) : w.cell? ⟨B, 33291, none⟩ = some (.int .i64 (goV d.mode)) := h.blk.cell 33291 (by decide)
theorem IAt.cmk (h : IAt w B dn sv d) : w.cell? ⟨B, 33292, none⟩ = some (.bool d.mark) := h.blk.cell 33292 (by decide)
theorem IAt.csv (h : IAt w B dn sv d) : w.cell? ⟨B, 33293, none⟩ = some sv := h.blk.cell 33293 (by decide)
end
structure Raw (w : World) (B : Nat) (sv : Value) (l : List Int) (D : Nat → Int) (n : Nat) (R buf : Nat → Int) (dn go : Int) (mk : Bool) : Prop where
 blk : CAt w B (cC D n R buf dn go mk sv)
 log : OwnI w sv l
section
variable {w : World} {B : Nat} {sv : Value} {l : List Int} {D : Nat → Int} {n : Nat} {R buf : Nat → Int} {dn go : Int} {mk : Bool}
theorem Raw.notB (h : Raw w B sv l D n R buf dn go mk) {g : Nat} (e : sv.ownBlock = some g) : ¬ isB B g := by
 rintro (rfl : g = B)
 obtain ⟨cur, h1⟩ := h.log.lt e
 obtain ⟨c, h2, _⟩ := h.blk
 rw [h1] at h2
 simp at h2
theorem Raw.kept {S : Nat → Prop} {w' : World} (h : Raw w B sv l D n R buf dn go mk) (k : Kp S w w') (hB : ¬ S B) (hs : ∀ g, sv.ownBlock = some g → ¬ S g) : Raw w' B sv l D n R buf dn go mk := ⟨h.blk.kept k hB, h.log.kept k hs⟩
theorem Raw.setR (h : Raw w B sv l D n R buf dn go mk) (j : Nat) (hj : j < 9) (k : Nat) (hk : k = 32769 + j) (x : Int) : Raw (w.setCell ⟨B, k, none⟩ (.int .u8 x)) B sv l D n (setB R j x) buf dn go mk := by
 subst hk
 exact ⟨(h.blk.set _ (by omega) _).of (fun i hi => cC_setR hj x i hi), h.log.kept (kpB B _ _ _) (fun g e => h.notB e)⟩
theorem Raw.setdn (h : Raw w B sv l D n R buf dn go mk) (x : Int) : Raw (w.setCell ⟨B, 33290, none⟩ (.int .i64 x)) B sv l D n R buf x go mk :=
 ⟨(h.blk.set _ (by decide) _).of (fun i hi => cC_setdn x i), h.log.kept (kpB B _ _ _) (fun g e => h.notB e)⟩
theorem Raw.setgo (h : Raw w B sv l D n R buf dn go mk) (x : Int) : Raw (w.setCell ⟨B, 33291, none⟩ (.int .i64 x)) B sv l D n R buf dn x mk :=
 ⟨(h.blk.set _ (by decide) _).of (fun i hi => cC_setgo x i), h.log.kept (kpB B _ _ _) (fun g e => h.notB e)⟩
theorem Raw.setmk (h : Raw w B sv l D n R buf dn go mk) (x : Bool) : Raw (w.setCell ⟨B, 33292, none⟩ (.bool x)) B sv l D n R buf dn go x :=
 ⟨(h.blk.set _ (by decide) _).of (fun i hi => cC_setmk x i), h.log.kept (kpB B _ _ _) (fun g e => h.notB e)⟩
theorem Raw.setsv (h : Raw w B sv l D n R buf dn go mk) (x : Value) (l' : List Int) (hx : OwnI w x l') : Raw (w.setCell ⟨B, 33293, none⟩ x) B x l' D n R buf dn go mk :=
 ⟨(h.blk.set _ (by decide) _).of (fun i hi => cC_setsv x i hi), hx.kept (kpB B _ _ _) (fun g e => by
  rintro (rfl : g = B)
  obtain ⟨cur, h1⟩ := hx.lt e
  obtain ⟨c, h2, _⟩ := h.blk
  rw [h1] at h2
  simp at h2)⟩
theorem Raw.laybuf {w' : World} (h : Raw w B sv l D n R buf dn go mk) {cur cur' : Array Value} (hb : w.heap[B]? = some (.cells cur 115 (0, 0))) (hb' : w'.heap[B]? = some (.cells cur' 115 (0, 0))) {o m : Nat} {g : Nat → Int} (ho : o + m ≤ 512) (hl : Laid cur cur' (32778 + o) m (fun j => .int .u8 (g j))) (hk : Kp (isB B) w w') : Raw w' B sv l D n R (layB buf o m g) dn go mk :=
 ⟨(h.blk.laid hb hb' hl).of (fun i hi => cC_laybuf ho g i), h.log.kept hk (fun g e => h.notB e)⟩
theorem Raw.laydisk {w' : World} (h : Raw w B sv l D n R buf dn go mk) {cur cur' : Array Value} (hb : w.heap[B]? = some (.cells cur 115 (0, 0))) (hb' : w'.heap[B]? = some (.cells cur' 115 (0, 0))) {o m : Nat} {g : Nat → Int} (ho : o + m ≤ 32768) (hl : Laid cur cur' o m (fun j => .int .u8 (g j))) (hk : Kp (isB B) w w') : Raw w' B sv l (layB D o m g) n R buf dn go mk :=
 ⟨(h.blk.laid hb hb' hl).of (fun i hi => cC_laydisk ho g i), h.log.kept hk (fun g e => h.notB e)⟩
end
theorem IAt.raw {w : World} {B : Nat} {dn : Int} {sv : Value} {d : Id} (h : IAt w B dn sv d) : Raw w B sv d.log d.D d.n d.reg d.buf dn (goV d.mode) d.mark := ⟨h.blk, h.log⟩
theorem Raw.id {w : World} {B : Nat} {sv : Value} {l : List Int} {D : Nat → Int} {n : Nat} {R buf : Nat → Int} {dn go : Int} {mk : Bool} (h : Raw w B sv l D n R buf dn go mk) (d : Id) (hl : l = d.log) (hD : D = d.D) (hn : n = d.n) (hR : R = d.reg) (hb : buf = d.buf) (hg : go = goV d.mode) (hm : mk = d.mark) (hf : d.failed = decide (d.r1 ≠ 0 ∧ d.r1 ≠ 1)) : IAt w B dn sv d := by
 subst hl; subst hD; subst hn; subst hR; subst hb; subst hg; subst hm
 exact ⟨h.blk, h.log, hf⟩
theorem Raw.same {w : World} {B : Nat} {sv : Value} {l : List Int} {D : Nat → Int} {n : Nat} {R buf b' : Nat → Int} {dn go : Int} {mk : Bool} (h : Raw w B sv l D n R buf dn go mk) (e : ∀ i, i < 512 → buf i = b' i) : Raw w B sv l D n R b' dn go mk := ⟨h.blk.of (fun k hk => cC_same e k), h.log⟩
def foot (B : Nat) (sv : Value) (k : Nat) : Prop := k = B ∨ sv.ownBlock = some k
theorem iand16' : ∀ n : Fin 256, (bits .and .u8 (n.val : Int) 16 != 0) = ((n.val : Int) / 16 % 2 == 1) := by decide +kernel
theorem iand64' : ∀ n : Fin 256, (bits .and .u8 (n.val : Int) 64 == 0) = !((n.val : Int) / 64 % 2 == 1) := by decide +kernel
theorem iand4' : ∀ n : Fin 256, (bits .and .u8 (n.val : Int) 4 != 0) = ((n.val : Int) / 4 % 2 == 1) := by decide +kernel
theorem iand2' : ∀ n : Fin 256, (bits .and .u8 (n.val : Int) 2 == 0) = !((n.val : Int) / 2 % 2 == 1) := by decide +kernel
theorem iand15' : ∀ n : Fin 256, bits .and .u8 (n.val : Int) 15 = (n.val : Int) % 16 := by decide +kernel
theorem iandn15' : ∀ n : Fin 256, bits .andNot .u8 (n.val : Int) 15 = (n.val : Int) - (n.val : Int) % 16 := by decide +kernel
theorem ior15' : ∀ n m : Fin 16, bits .or .u8 (16 * (n.val : Int)) (m.val : Int) = 16 * (n.val : Int) + (m.val : Int) := by decide +kernel
theorem byFin {p : Int → Prop} (h : ∀ n : Fin 256, p (n.val : Int)) {v : Int} (hv : byt v) : p v := by
 have := h ⟨v.toNat, by have := hv.1; have := hv.2; omega⟩
 simp only [Int.toNat_of_nonneg hv.1] at this
 exact this
theorem iand16 {v : Int} (h : byt v) : (bits .and .u8 v 16 != 0) = (v / 16 % 2 == 1) := byFin (p := fun v => (bits .and .u8 v 16 != 0) = (v / 16 % 2 == 1)) iand16' h
theorem iand64 {v : Int} (h : byt v) : (bits .and .u8 v 64 == 0) = !(v / 64 % 2 == 1) := byFin (p := fun v => (bits .and .u8 v 64 == 0) = !(v / 64 % 2 == 1)) iand64' h
theorem iand4 {v : Int} (h : byt v) : (bits .and .u8 v 4 != 0) = (v / 4 % 2 == 1) := byFin (p := fun v => (bits .and .u8 v 4 != 0) = (v / 4 % 2 == 1)) iand4' h
theorem iand2 {v : Int} (h : byt v) : (bits .and .u8 v 2 == 0) = !(v / 2 % 2 == 1) := byFin (p := fun v => (bits .and .u8 v 2 == 0) = !(v / 2 % 2 == 1)) iand2' h
theorem iand15 {v : Int} (h : byt v) : bits .and .u8 v 15 = v % 16 := byFin (p := fun v => bits .and .u8 v 15 = v % 16) iand15' h
theorem iandn15 {v : Int} (h : byt v) : bits .andNot .u8 v 15 = v - v % 16 := byFin (p := fun v => bits .andNot .u8 v 15 = v - v % 16) iandn15' h
theorem ior15 {v x : Int} (h : byt v) (x0 : 0 ≤ x) (x1 : x < 16) : bits .or .u8 (v - v % 16) x = v - v % 16 + x := by
 have h0 := h.1
 have h1 := h.2
 have := ior15' ⟨(v / 16).toNat, by omega⟩ ⟨x.toNat, by omega⟩
 simp only [Int.toNat_of_nonneg x0, Int.toNat_of_nonneg (show 0 ≤ v / 16 by omega)] at this
 rw [show v - v % 16 = 16 * (v / 16) by omega]
 exact this
theorem wraps62 (n : Int) (h0 : 0 ≤ n) (h1 : n < 2 ^ 62) : IntKind.i64.wrap n = n := by rw [IntKind.wrap_i64]; omega
theorem i64_mask (n : Int) (k m : Nat) (hk : (BitVec.ofInt 64 (m : Int)).toNat = 2 ^ k - 1) (h2 : (2 : Nat) ^ k ≤ 4294967296) (h3 : (2 ^ 64) % (2 : Nat) ^ k = 0) : bits .and .i64 n m = n % ((2 ^ k : Nat) : Int) := by
 have key : (BitVec.ofInt 64 n &&& BitVec.ofInt 64 (m : Int)).toNat = (n % ((2 ^ 64 : Nat) : Int)).toNat % 2 ^ k := by
  rw [BitVec.toNat_and, BitVec.toNat_ofInt, hk, Nat.and_two_pow_sub_one_eq_mod]
 show IntKind.i64.wrap ((BitVec.ofInt 64 n &&& BitVec.ofInt 64 (m : Int)).toNat : Nat) = _
 have hp : 0 < (2 : Nat) ^ k := Nat.two_pow_pos k
 have hm : (n % ((2 ^ 64 : Nat) : Int)).toNat % 2 ^ k < 2 ^ k := Nat.mod_lt _ hp
 rw [key, IntKind.wrap_i64]
 have e : (((n % ((2 ^ 64 : Nat) : Int)).toNat % 2 ^ k : Nat) : Int) = n % ((2 ^ k : Nat) : Int) := by
  rw [Int.natCast_emod, Int.toNat_of_nonneg (Int.emod_nonneg _ (by decide))]
  exact Int.emod_emod_of_dvd n (Int.natCast_dvd_natCast.2 (Nat.dvd_of_mod_eq_zero h3))
 rw [e]
 have b0 : 0 ≤ n % ((2 ^ k : Nat) : Int) := Int.emod_nonneg _ (by omega)
 have b1 : n % ((2 ^ k : Nat) : Int) < ((2 ^ k : Nat) : Int) := Int.emod_lt_of_pos _ (by omega)
 generalize n % ((2 ^ k : Nat) : Int) = r at *
 generalize (2 : Nat) ^ k = p at *
 omega
theorem iand28 (n : Int) : bits .and .i64 n 268435455 = n % 268435456 := i64_mask n 28 268435455 (by decide) (by decide) (by decide)
def Dn (d : Id) (dn : Int) : Prop := d.mode ≠ 0 → dn = d.don
def DOk (w : World) (B : Nat) (sv : Value) (d : Id) (w' : World) : Prop := ∃ dn', IAt w' B dn' sv d ∧ Dn d dn' ∧ Kp (isB B) w w'
section
variable {w : World} {B : Nat} {dn : Int} {sv : Value} {d : Id}
theorem IAt.ok (h : IAt w B dn sv d) (hd : Dn d dn) : DOk w B sv d w := ⟨dn, h, hd, Kp.refl _ _⟩
theorem Dn.none {dn : Int} (e : d.mode = 0) : Dn d dn := fun q => absurd e q
theorem IAt.keep {w' : World} (h : IAt w B dn sv d) (k : Kp noB w w') : IAt w' B dn sv d := h.kept k id (fun _ _ => id)
theorem isOther_any (h : IAt w B dn sv d) (k : d.Ok) : Calls Tryz.prog 99 #[.pointer (some ⟨B, 0, none⟩)] w fun e w' => e = .returned (.bool d.off) ∧ w' = w := by
 have c6 := h.c6
 have e6 := iand16 k.r6
 clear h k
 unfold Id.off
 go_enter Tryz.func99, Tryz.ntmps99
 go_wp2
 go_ret
 exact ⟨ret_bool rfl, rfl⟩
theorem place_any (h : IAt w B dn sv d) (k : d.Ok) : Calls Tryz.prog 164 #[.pointer (some ⟨B, 0, none⟩)] w fun e w' => e = .returned (.int .i64 d.place) ∧ Kp noB w w' := by
 have c3 := h.c3
 have c4 := h.c4
 have c5 := h.c5
 have c6 := h.c6
 have e6 := iand15 k.r6
 obtain ⟨a0, a1⟩ := k.r3
 obtain ⟨b0, b1⟩ := k.r4
 obtain ⟨f0, f1⟩ := k.r5
 have q0 : 0 ≤ d.r6 % 16 := by omega
 have q1 : d.r6 % 16 < 16 := by omega
 clear h k
 unfold Id.place
 generalize d.r6 % 16 = q at *
 generalize d.r3 = a at *
 generalize d.r4 = b at *
 generalize d.r5 = f at *
 have e1 : bits .or .i64 a (b * 256) = a + b * 256 := bits_join_low .i64 62 (by decide) wraps62 8 a (b * 256) (by omega) (by omega) (by omega) (by omega) (by omega) (by omega)
 have e2 : bits .or .i64 (a + b * 256) (f * 65536) = a + b * 256 + f * 65536 := bits_join_low .i64 62 (by decide) wraps62 16 _ _ (by omega) (by omega) (by omega) (by omega) (by omega) (by omega)
 have e3 : bits .or .i64 (a + b * 256 + f * 65536) (q * 16777216) = a + b * 256 + f * 65536 + q * 16777216 := bits_join_low .i64 62 (by decide) wraps62 24 _ _ (by omega) (by omega) (by omega) (by omega) (by omega) (by omega)
 go_enter Tryz.func164, Tryz.ntmps164
 go_wp2
 go_quiet (fail)
 go_wp2
 go_ret
 exact ⟨rfl, (Kp.refl _ _).drewN _⟩
theorem fail_ok (h : IAt w B dn sv d) (x : Int) (hx : x = 4 ∨ x = 16) : Calls Tryz.prog 140 #[.pointer (some ⟨B, 0, none⟩), .int .u8 x] w fun e w' => e = .returned (.tuple #[]) ∧ DOk w B sv (d.fail x) w' := by
 have c1 := h.c1
 have cg := h.cgo
 have cm := h.cmk
 have z1 := h.fz 32770
 have z2 := h.fz 33291
 have z3 := h.fz 33292
 have H : Hid (DOk w B sv (d.fail x) (((w.setCell ⟨B, 32770, none⟩ (.int .u8 x)).setCell ⟨B, 33291, none⟩ (.int .i64 0)).setCell ⟨B, 33292, none⟩ (.bool true))) := by
  refine ⟨dn, (((h.raw.setR 1 (by decide) 32770 rfl x).setgo 0).setmk true).id (d.fail x) rfl rfl rfl ?_ rfl rfl rfl ?_, Dn.none rfl, ((kpB B _ _ _).trans (kpB B _ _ _)).trans (kpB B _ _ _)⟩
  ·exact (reg_1 (d := { d with failed := true, mode := 0, mark := true }) x).symm
  ·show true = decide (x ≠ 0 ∧ x ≠ 1)
   rcases hx with rfl | rfl <;> rfl
 clear h
 go_enter Tryz.func140, Tryz.ntmps140
 go_wp2
 go_end0
 exact ⟨rfl, H.out⟩
theorem setPlace_ok (h : IAt w B dn sv d) (k : d.Ok) (n : Int) (n0 : 0 ≤ n) (n1 : n < 268435456) : Calls Tryz.prog 178 #[.pointer (some ⟨B, 0, none⟩), .int .i64 n] w fun e w' => e = .returned (.tuple #[]) ∧ IAt w' B dn sv { d with r3 := n % 256, r4 := n / 256 % 256, r5 := n / 65536 % 256, r6 := d.r6 - d.r6 % 16 + n / 16777216 } ∧ Kp (isB B) w w' := by
 have c3 := h.c3
 have c4 := h.c4
 have c5 := h.c5
 have c6 := h.c6
 have z3 := h.fz 32772
 have z4 := h.fz 32773
 have z5 := h.fz 32774
 have z6 := h.fz 32775
 have e1 := iandn15 k.r6
 have e3 := ior15 k.r6 (x := n / 16777216) (by omega) (by omega)
 obtain ⟨w2, hw⟩ : ∃ w2, w2 = (((w.setCell ⟨B, 32772, none⟩ (.int .u8 (n % 256))).setCell ⟨B, 32773, none⟩ (.int .u8 (n / 256 % 256))).setCell ⟨B, 32774, none⟩ (.int .u8 (n / 65536 % 256))).setCell ⟨B, 32775, none⟩ (.int .u8 (d.r6 - d.r6 % 16 + n / 16777216)) := ⟨_, rfl⟩
 have H : IAt w2 B dn sv { d with r3 := n % 256, r4 := n / 256 % 256, r5 := n / 65536 % 256, r6 := d.r6 - d.r6 % 16 + n / 16777216 } := by
  rw [hw]
  refine ((((h.raw.setR 3 (by decide) 32772 rfl _).setR 4 (by decide) 32773 rfl _).setR 5 (by decide) 32774 rfl _).setR 6 (by decide) 32775 rfl _).id _ rfl rfl rfl ?_ rfl rfl rfl h.fl
  exact ((reg_6 (d := { d with r3 := n % 256, r4 := n / 256 % 256, r5 := n / 65536 % 256 }) _).trans (congrArg (fun f => setB f 6 _) ((reg_5 (d := { d with r3 := n % 256, r4 := n / 256 % 256 }) _).trans (congrArg (fun f => setB f 5 _) ((reg_4 (d := { d with r3 := n % 256 }) _).trans (congrArg (fun f => setB f 4 _) (reg_3 (d := d) _))))))).symm
 have hk : Kp (isB B) w w2 := by
  rw [hw]
  exact (((kpB B _ _ _).trans (kpB B _ _ _)).trans (kpB B _ _ _)).trans (kpB B _ _ _)
 have HH : Hid (IAt w2.drew B dn sv { d with r3 := n % 256, r4 := n / 256 % 256, r5 := n / 65536 % 256, r6 := d.r6 - d.r6 % 16 + n / 16777216 } ∧ Kp (isB B) w w2.drew) := ⟨H.keep (Kp.refl _ _).drew, hk.drew⟩
 rw [hw] at HH
 clear h k H hk hw
 go_enter Tryz.func178, Tryz.ntmps178
 go_wp2
 go_region
 go_wp2
 go_end0
 exact ⟨rfl, HH.out⟩
theorem reg_start (d : Id) : setB (setB (setB (setB (setB (setB (setB (setB (setB d.reg 0 0) 1 1) 2 1) 3 1) 4 0) 5 0) 6 0) 7 0) 8 0 = ({ d with c := 0 } : Id).fresh.reg := by
 funext j
 rcases (by omega : j = 0 ∨ j = 1 ∨ j = 2 ∨ j = 3 ∨ j = 4 ∨ j = 5 ∨ j = 6 ∨ j = 7 ∨ j = 8 ∨ 9 ≤ j) with rfl | rfl | rfl | rfl | rfl | rfl | rfl | rfl | rfl | h
 ·rfl
 ·rfl
 ·rfl
 ·rfl
 ·rfl
 ·rfl
 ·rfl
 ·rfl
 ·rfl
 ·have n0 : j ≠ 0 := by omega
  have n1 : j ≠ 1 := by omega
  have n2 : j ≠ 2 := by omega
  have n3 : j ≠ 3 := by omega
  have n4 : j ≠ 4 := by omega
  have n5 : j ≠ 5 := by omega
  have n6 : j ≠ 6 := by omega
  have n7 : j ≠ 7 := by omega
  have n8 : j ≠ 8 := by omega
  simp only [setB, Id.reg, Id.fresh, if_neg n0, if_neg n1, if_neg n2, if_neg n3, if_neg n4, if_neg n5, if_neg n6, if_neg n7, if_neg n8]
theorem start_ok (h : IAt w B dn sv d) : Calls Tryz.prog 58 #[.pointer (some ⟨B, 0, none⟩)] w fun e w' => e = .returned (.tuple #[]) ∧ DOk w B sv ({ d with c := 0 } : Id).fresh w' := by
 have c0 : w.cell? ⟨B, 32769, none⟩ = some (.int .u8 0) := h.cr 0 (by decide)
 have c1 := h.c1
 have c2 := h.c2
 have c3 := h.c3
 have c4 := h.c4
 have c5 := h.c5
 have c6 := h.c6
 have c7 : w.cell? ⟨B, 32776, none⟩ = some (.int .u8 0) := h.cr 7 (by decide)
 have c8 := h.c8
 have cg := h.cgo
 have cm := h.cmk
 have y0 := h.fz 32769
 have y1 := h.fz 32770
 have y2 := h.fz 32771
 have y3 := h.fz 32772
 have y4 := h.fz 32773
 have y5 := h.fz 32774
 have y6 := h.fz 32775
 have y7 := h.fz 32776
 have y8 := h.fz 32777
 have y9 := h.fz 33291
 have ya := h.fz 33292
 have hC : Hid (IAt w B dn sv d) := h
 clear h
 go_enter Tryz.func58, Tryz.ntmps58
 go_wp2
 go_end0
 refine ⟨rfl, dn, ?_, Dn.none rfl, ?_⟩
 ·refine (((((((((((hC.out.raw.setR 0 (by decide) 32769 rfl 0).setR 1 (by decide) 32770 rfl 1).setR 2 (by decide) 32771 rfl 1).setR 3 (by decide) 32772 rfl 1).setR 4 (by decide) 32773 rfl 0).setR 5 (by decide) 32774 rfl 0).setR 6 (by decide) 32775 rfl 0).setR 7 (by decide) 32776 rfl 0).setR 8 (by decide) 32777 rfl 0).setgo 0).setmk false).id _ rfl rfl rfl ?_ rfl rfl rfl rfl
  exact reg_start d
 ·exact (((((((((((kpB B _ _ _).trans (kpB B _ _ _)).trans (kpB B _ _ _)).trans (kpB B _ _ _)).trans (kpB B _ _ _)).trans (kpB B _ _ _)).trans (kpB B _ _ _)).trans (kpB B _ _ _)).trans (kpB B _ _ _)).trans (kpB B _ _ _)).trans (kpB B _ _ _))
theorem howItIs_any (h : IAt w B dn sv d) (k : d.Ok) : Calls Tryz.prog 101 #[.pointer (some ⟨B, 0, none⟩)] w fun e w' => e = .returned (.int .u32 d.status) ∧ w' = w := by
 have c1 := h.c1
 have cg := h.cgo
 have hf := h.fl
 have km := k.mode
 clear h k
 unfold Id.status
 have o1 : bits .or .u32 80 8 = 88 := by decide
 have o2 : bits .or .u32 88 1 = 89 := by decide
 have o3 : bits .or .u32 80 1 = 81 := by decide
 by_cases a : d.r1 = 0
 ·have hf' : d.failed = false := by rw [hf]; simp [a]
  rw [a] at c1
  rw [hf']
  clear hf a hf'
  rcases km with m | m | m | m <;> rw [m] at cg ⊢ <;> clear m
  all_goals
   unfold goV at cg
   simp only [Int.reduceEq, if_false, if_true] at cg
   go_enter Tryz.func101, Tryz.ntmps101
   go_wp2
   go_ret
   exact ⟨rfl, rfl⟩
 ·have a' : (d.r1 == 0) = false := by simpa using a
  by_cases b : d.r1 = 1
  ·have hf' : d.failed = false := by rw [hf]; simp [b]
   rw [b] at c1
   rw [hf']
   clear hf a a' b hf'
   rcases km with m | m | m | m <;> rw [m] at cg ⊢ <;> clear m
   all_goals
    unfold goV at cg
    simp only [Int.reduceEq, if_false, if_true] at cg
    go_enter Tryz.func101, Tryz.ntmps101
    go_wp2
    go_ret
    exact ⟨rfl, rfl⟩
  ·have b' : (d.r1 == 1) = false := by simpa using b
   have hf' : d.failed = true := by rw [hf]; simp [a, b]
   have a2 : (d.r1 != 0) = true := by simpa using a
   have b2 : (d.r1 != 1) = true := by simpa using b
   rw [hf']
   clear hf hf' a b
   rcases km with m | m | m | m <;> rw [m] at cg ⊢ <;> clear m
   all_goals
    unfold goV at cg
    simp only [Int.reduceEq, if_false, if_true] at cg
    go_enter Tryz.func101, Tryz.ntmps101
    go_wp2
    go_ret
    exact ⟨rfl, rfl⟩
end
end Go.Proofs.YtonfjhbfkichkaaGreat.Dk
