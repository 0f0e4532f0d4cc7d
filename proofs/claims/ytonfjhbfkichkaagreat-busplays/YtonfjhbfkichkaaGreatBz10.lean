/- The bus and its devices: PtMath, PtBase, PtMap, PtLeaf, PtTail. -/
import Derived.Test.YtonfjhbfkichkaaGreatBz01
import Derived.MapKept
import Derived.Carry
namespace Go.Proofs.YtonfjhbfkichkaaGreat.Pt
open Go.RowKit
set_option linter.unusedVariables false
structure Cn where
 mode : Int
 how : Int
 len : Int
 began : Int
 st : Bool
 fst : Int
 wants : Bool
 upper : Bool
 held : Int
 holds : Bool
def Cn.whole (c : Cn) : Int := if c.len = 0 then 65536 else c.len
def Cn.steps (c : Cn) (now : Int) : Int := (now - c.began) % 18446744073709551616
def Cn.value (c : Cn) (now : Int) : Int :=
 if c.st then c.whole % 65536
 else if c.mode = 0 then (c.whole - c.steps now) % 65536
 else if c.mode = 2 then (c.whole - c.steps now % c.whole) % 65536
 else if c.mode = 3 then (c.whole - c.steps now % c.whole) % 65536
 else c.whole % 65536
def Cn.line (c : Cn) (now : Int) : Bool :=
 if c.st then c.mode != 0
 else if c.mode = 0 then decide (c.whole ≤ c.steps now)
 else if c.mode = 2 then c.steps now % c.whole != c.whole - 1
 else if c.mode = 3 then decide (c.steps now % c.whole < (c.whole + 1) / 2)
 else true
def Cn.hold (c : Cn) (now : Int) : Cn := if c.holds then c else { c with held := c.value now, holds := true }
def md (n : Int) : Int := if 5 < n then n - 4 else n
def Cn.setUp (c : Cn) (b n : Int) : Cn := ⟨md n, b, c.len, 0, true, 0, false, b == 2, 0, false⟩
def Cn.begin (c : Cn) (l now : Int) : Cn := { c with len := l, began := now, st := false }
def Cn.write (c : Cn) (v now : Int) : Cn :=
 if c.how = 1 then c.begin v now
 else if c.how = 2 then c.begin (v * 256) now
 else if c.wants then { c with wants := false }.begin (v * 256 + c.fst) now
 else { c with fst := v, wants := true }
def Cn.seen (c : Cn) (now : Int) : Int := if c.holds then c.held else c.value now
def Cn.told (c : Cn) (now : Int) : Int := if c.upper then c.seen now / 256 else c.seen now % 256
def Cn.read (c : Cn) : Cn := { c with upper := if c.how = 3 then !c.upper else c.upper, holds := if c.upper || c.how == 1 then false else c.holds }
structure Cn.Ok (c : Cn) : Prop where
 mode : 0 ≤ c.mode ∧ c.mode ≤ 5
 how : 1 ≤ c.how ∧ c.how ≤ 3
 len : 0 ≤ c.len ∧ c.len < 65536
 began : 0 ≤ c.began ∧ c.began < 18446744073709551616
 fst : 0 ≤ c.fst ∧ c.fst < 256
 held : 0 ≤ c.held ∧ c.held < 65536
 up : c.upper = true → c.how ≠ 1
 up2 : c.how = 2 → c.upper = true
theorem Cn.Ok.whole {c : Cn} (h : c.Ok) : 1 ≤ c.whole ∧ c.whole ≤ 65536 := by
 have := h.len
 unfold Cn.whole
 split <;> omega
theorem Cn.steps_bd (c : Cn) (now : Int) : 0 ≤ c.steps now ∧ c.steps now < 18446744073709551616 := by
 unfold Cn.steps
 omega
theorem Cn.value_bd (c : Cn) (now : Int) : 0 ≤ c.value now ∧ c.value now < 65536 := by
 unfold Cn.value
 repeat' split
 all_goals omega
theorem Cn.Ok.hold {c : Cn} (h : c.Ok) (now : Int) : (c.hold now).Ok := by
 unfold Cn.hold
 split
 ·exact h
 ·exact ⟨h.mode, h.how, h.len, h.began, h.fst, c.value_bd now, h.up, h.up2⟩
theorem Cn.Ok.setUp {c : Cn} (h : c.Ok) {b n : Int} (b0 : 1 ≤ b) (b1 : b ≤ 3) (n0 : 0 ≤ n) (n1 : n ≤ 7) : (c.setUp b n).Ok := by
 refine ⟨?_, ⟨b0, b1⟩, h.len, ?_, ?_, ?_, ?_, ?_⟩
 ·show 0 ≤ md n ∧ md n ≤ 5
  unfold md; split <;> omega
 ·exact ⟨by show (0 : Int) ≤ 0; omega, by show (0 : Int) < _; omega⟩
 ·exact ⟨by show (0 : Int) ≤ 0; omega, by show (0 : Int) < _; omega⟩
 ·exact ⟨by show (0 : Int) ≤ 0; omega, by show (0 : Int) < _; omega⟩
 ·intro e
  have e' : (b == 2) = true := e
  have : b = 2 := by simpa using e'
  show b ≠ 1
  omega
 ·intro e
  show (b == 2) = true
  have : b = 2 := e
  simp [this]
theorem Cn.Ok.begin {c : Cn} (h : c.Ok) {l now : Int} (l0 : 0 ≤ l) (l1 : l < 65536) (n0 : 0 ≤ now) (n1 : now < 18446744073709551616) : (c.begin l now).Ok :=
 ⟨h.mode, h.how, ⟨l0, l1⟩, ⟨n0, n1⟩, h.fst, h.held, h.up, h.up2⟩
theorem Cn.Ok.write {c : Cn} (h : c.Ok) {v now : Int} (v0 : 0 ≤ v) (v1 : v < 256) (n0 : 0 ≤ now) (n1 : now < 18446744073709551616) : (c.write v now).Ok := by
 have f := h.fst
 unfold Cn.write
 split
 ·exact h.begin v0 (by omega) n0 n1
 ·split
  ·exact h.begin (by omega) (by omega) n0 n1
  ·split
   ·exact ⟨h.mode, h.how, ⟨by show 0 ≤ v * 256 + c.fst; omega, by show v * 256 + c.fst < 65536; omega⟩, ⟨n0, n1⟩, h.fst, h.held, h.up, h.up2⟩
   ·exact ⟨h.mode, h.how, h.len, h.began, ⟨v0, v1⟩, h.held, h.up, h.up2⟩
theorem Cn.Ok.read {c : Cn} (h : c.Ok) : (c.read).Ok := by
 refine ⟨h.mode, h.how, h.len, h.began, h.fst, h.held, ?_, ?_⟩
 ·intro e
  have e' : (if c.how = 3 then !c.upper else c.upper) = true := e
  show c.how ≠ 1
  split at e'
  ·omega
  ·exact h.up e'
 ·intro e
  have e' : c.how = 2 := e
  show (if c.how = 3 then !c.upper else c.upper) = true
  rw [if_neg (by omega)]
  exact h.up2 e'
theorem Cn.seen_bd {c : Cn} (h : c.Ok) (now : Int) : 0 ≤ c.seen now ∧ c.seen now < 65536 := by
 unfold Cn.seen
 split
 ·exact h.held
 ·exact c.value_bd now
theorem Cn.told_bd {c : Cn} (h : c.Ok) (now : Int) : 0 ≤ c.told now ∧ c.told now < 256 := by
 have := Cn.seen_bd h now
 unfold Cn.told
 split <;> omega
def upd (f : Nat → Cn) (i : Nat) (c : Cn) : Nat → Cn := fun j => if j = i then c else f j
theorem upd_at (f : Nat → Cn) (i : Nat) (c : Cn) : upd f i c i = c := by unfold upd; rw [if_pos rfl]
theorem upd_ne (f : Nat → Cn) {i j : Nat} (c : Cn) (h : j ≠ i) : upd f i c j = f j := by unfold upd; rw [if_neg h]
theorem upd_self (f : Nat → Cn) (i : Nat) : upd f i (f i) = f := by
 funext j
 unfold upd
 split
 ·rename_i h; rw [h]
 ·rfl
def Oks (f : Nat → Cn) : Prop := ∀ i, (f i).Ok
theorem Oks.upd {f : Nat → Cn} (h : Oks f) (i : Nat) {c : Cn} (k : c.Ok) : Oks (upd f i c) := by
 intro j
 unfold Proofs.YtonfjhbfkichkaaGreat.Pt.upd
 split
 ·exact k
 ·exact h j
def cmdF (f : Nat → Cn) (v now : Int) : Nat → Cn :=
 if v / 64 = 3 then f
 else if v / 16 % 4 = 0 then upd f (v / 64).toNat ((f (v / 64).toNat).hold now)
 else upd f (v / 64).toNat ((f (v / 64).toNat).setUp (v / 16 % 4) (v / 2 % 8))
def outF (f : Nat → Cn) (p v now : Int) : Nat → Cn := if p = 3 then cmdF f v now else upd f p.toNat ((f p.toNat).write v now)
def innV (f : Nat → Cn) (p now : Int) : Int := if p = 3 then 255 else (f p.toNat).told now
def innF (f : Nat → Cn) (p : Int) : Nat → Cn := if p = 3 then f else upd f p.toNat (f p.toNat).read
theorem Oks.cmd {f : Nat → Cn} (h : Oks f) {v now : Int} (v0 : 0 ≤ v) (v1 : v < 256) : Oks (cmdF f v now) := by
 unfold cmdF
 split
 ·exact h
 ·split
  ·exact h.upd _ ((h _).hold now)
  ·exact h.upd _ ((h _).setUp (by omega) (by omega) (by omega) (by omega))
theorem Oks.out {f : Nat → Cn} (h : Oks f) {p v now : Int} (v0 : 0 ≤ v) (v1 : v < 256) (n0 : 0 ≤ now) (n1 : now < 18446744073709551616) : Oks (outF f p v now) := by
 unfold outF
 split
 ·exact h.cmd v0 v1
 ·exact h.upd _ ((h _).write v0 v1 n0 n1)
theorem Oks.inn {f : Nat → Cn} (h : Oks f) (p : Int) : Oks (innF f p) := by
 unfold innF
 split
 ·exact h
 ·exact h.upd _ (h _).read
def cn0 : Cn := ⟨3, 3, 0, 0, false, 0, false, false, 0, false⟩
theorem cn0_ok : cn0.Ok := ⟨by decide, by decide, by decide, by decide, by decide, by decide, by decide, by decide⟩
open Go.ChangeShapes Go.WideShapes Go.ChangeAt
structure Kp (S : Nat → Prop) (w w' : World) : Prop where
 os : w'.os = w.os
 tape : w'.tape = w.tape
 output : w'.output = w.output
 size : w.heap.size ≤ w'.heap.size
 block : ∀ k, k < w.heap.size → ¬ S k → w'.heap[k]? = w.heap[k]?
theorem Kp.refl (S : Nat → Prop) (w : World) : Kp S w w := ⟨rfl, rfl, rfl, Nat.le_refl _, fun _ _ _ => rfl⟩
theorem Kp.trans {S : Nat → Prop} {a b c : World} (h : Kp S a b) (k : Kp S b c) : Kp S a c :=
 ⟨k.os.trans h.os, k.tape.trans h.tape, k.output.trans h.output, Nat.le_trans h.size k.size, fun i hi hs => (k.block i (Nat.lt_of_lt_of_le hi h.size) hs).trans (h.block i hi hs)⟩
theorem Kp.mono {S T : Nat → Prop} {a b : World} (h : Kp S a b) (hST : ∀ k, k < a.heap.size → S k → T k) : Kp T a b :=
 ⟨h.os, h.tape, h.output, h.size, fun i hi hs => h.block i hi (fun g => hs (hST i hi g))⟩
theorem Kp.alloc (S : Nat → Prop) (w : World) (o : Obj) : Kp S w (w.alloc o) :=
 ⟨rfl, rfl, rfl, by simp, fun k hk _ => Below.heap_alloc _ _ _ hk⟩
theorem Kp.setCell {S : Nat → Prop} (w : World) {p : Addr} (hp : S p.block) (u : Value) : Kp S w (w.setCell p u) :=
 ⟨rfl, rfl, rfl, by simp [World.setCell], fun k hk hs => Below.heap_setCell _ _ _ _ (fun e => hs (e ▸ hp))⟩
theorem Kp.drew {S : Nat → Prop} {w w' : World} (h : Kp S w w') : Kp S w w'.drew := ⟨h.os, h.tape, h.output, h.size, h.block⟩
theorem Kp.drewN {S : Nat → Prop} {w w' : World} (h : Kp S w w') (n : Nat) : Kp S w (w'.drewN n) := ⟨h.os, h.tape, h.output, h.size, h.block⟩
theorem Kp.over {S T : Nat → Prop} {a b c : World} (h : Kp T a b) (k : Kp S b c) (hS : ∀ j, j < a.heap.size → S j → T j) : Kp T a c :=
 ⟨k.os.trans h.os, k.tape.trans h.tape, k.output.trans h.output, Nat.le_trans h.size k.size, fun i hi hs => (k.block i (Nat.lt_of_lt_of_le hi h.size) (fun g => hs (hS i hi g))).trans (h.block i hi hs)⟩
theorem heap_lt {w : World} {b : Nat} {o : Obj} (h : w.heap[b]? = some o) : b < w.heap.size := (Array.getElem?_eq_some_iff.1 h).1
theorem heap_kept {S : Nat → Prop} {w w' : World} {b : Nat} {o : Obj} (h : w.heap[b]? = some o) (k : Kp S w w') (hS : ¬ S b) : w'.heap[b]? = some o := (k.block b (heap_lt h) hS).trans h
theorem heap_set {w : World} {b k : Nat} {v : Value} {c : Array Value} {t : TypeId} {fr : Nat × Nat} (h : w.heap[b]? = some (.cells c t fr)) : (w.setCell ⟨b, k, none⟩ v).heap[b]? = some (.cells (c.setIfInBounds k v) t fr) := by
 simp [World.setCell, Array.getElem?_modify, h]
def noB (_ : Nat) : Prop := False
def isB (B k : Nat) : Prop := k = B
theorem Kp.any {S : Nat → Prop} {w w' : World} (h : Kp noB w w') : Kp S w w' := h.mono fun _ _ f => f.elim
theorem kpB (B : Nat) (w : World) (k : Nat) (v : Value) : Kp (isB B) w (w.setCell ⟨B, k, none⟩ v) := Kp.setCell (S := isB B) w (p := ⟨B, k, none⟩) rfl v
theorem heap_new (w : World) (o : Obj) : (w.alloc o).heap[w.heap.size]? = some o := (MapKept.heap_alloc w o).1
def cnC (c : Cn) : Array Value := #[.int .u8 c.mode, .int .u8 c.how, .int .u16 c.len, .int .u64 c.began, .bool c.st, .int .u8 c.fst, .bool c.wants, .bool c.upper, .int .u16 c.held, .bool c.holds]
structure PAt (w : World) (B : Nat) (f : Nat → Cn) : Prop where
 blk : ∃ cs, w.heap[B]? = some (.cells cs 125 (0, 0)) ∧ cs.size = 30 ∧ ∀ i k, i < 3 → k < 10 → cs[10 * i + k]? = (cnC (f i))[k]?
theorem PAt.kept {S : Nat → Prop} {w w' : World} {B : Nat} {f : Nat → Cn} (h : PAt w B f) (k : Kp S w w') (hS : ¬ S B) : PAt w' B f := by
 obtain ⟨cs, a, b⟩ := h.blk
 exact ⟨cs, heap_kept a k hS, b⟩
structure CAt (w : World) (B o : Nat) (f : Nat → Cn) (i : Nat) (c : Cn) : Prop where
 pit : PAt w B (upd f i c)
 hi : i < 3
 ho : o = 10 * i
theorem CAt.kept {S : Nat → Prop} {w w' : World} {B o : Nat} {f : Nat → Cn} {i : Nat} {c : Cn} (h : CAt w B o f i c) (k : Kp S w w') (hS : ¬ S B) : CAt w' B o f i c := ⟨h.pit.kept k hS, h.hi, h.ho⟩
section
variable {w : World} {B o : Nat} {f : Nat → Cn} {i : Nat} {c : Cn}
theorem CAt.cell (h : CAt w B o f i c) {k : Nat} (hk : k < 10) {v : Value} (e : (cnC c)[k]? = some v) : w.cell? ⟨B, o + k, none⟩ = some v := by
 obtain ⟨cs, a, b, d⟩ := h.pit.blk
 have := d i k h.hi hk
 rw [upd_at] at this
 rw [h.ho]
 simp [World.cell?, a, this, e]
theorem CAt.c0 (h : CAt w B o f i c) : w.cell? ⟨B, o, none⟩ = some (.int .u8 c.mode) := h.cell (k := 0) (by decide) rfl
theorem CAt.c1 (h : CAt w B o f i c) : w.cell? ⟨B, o + 1, none⟩ = some (.int .u8 c.how) := h.cell (k := 1) (by decide) rfl
theorem CAt.c2 (h : CAt w B o f i c) : w.cell? ⟨B, o + 2, none⟩ = some (.int .u16 c.len) := h.cell (k := 2) (by decide) rfl
theorem CAt.c3 (h : CAt w B o f i c) : w.cell? ⟨B, o + 3, none⟩ = some (.int .u64 c.began) := h.cell (k := 3) (by decide) rfl
theorem CAt.c4 (h : CAt w B o f i c) : w.cell? ⟨B, o + 4, none⟩ = some (.bool c.st) := h.cell (k := 4) (by decide) rfl
theorem CAt.c5 (h : CAt w B o f i c) : w.cell? ⟨B, o + 5, none⟩ = some (.int .u8 c.fst) := h.cell (k := 5) (by decide) rfl
theorem CAt.c6 (h : CAt w B o f i c) : w.cell? ⟨B, o + 6, none⟩ = some (.bool c.wants) := h.cell (k := 6) (by decide) rfl
theorem CAt.c7 (h : CAt w B o f i c) : w.cell? ⟨B, o + 7, none⟩ = some (.bool c.upper) := h.cell (k := 7) (by decide) rfl
theorem CAt.c8 (h : CAt w B o f i c) : w.cell? ⟨B, o + 8, none⟩ = some (.int .u16 c.held) := h.cell (k := 8) (by decide) rfl
theorem CAt.c9 (h : CAt w B o f i c) : w.cell? ⟨B, o + 9, none⟩ = some (.bool c.holds) := h.cell (k := 9) (by decide) rfl
theorem CAt.fz (h : CAt w B o f i c) (j : Nat) : w.frozen? ⟨B, j, none⟩ = false := by
 obtain ⟨cs, a, b, d⟩ := h.pit.blk
 simp [World.frozen?, a]
theorem PAt.lt (h : PAt w B f) : B < w.heap.size := by
 obtain ⟨cs, a, b, d⟩ := h.blk
 exact heap_lt a
theorem CAt.drew (h : CAt w B o f i c) : CAt w.drew B o f i c := h.kept ((Kp.refl noB _).drew) id
theorem CAt.alloc (h : CAt w B o f i c) (b : Obj) : CAt (w.alloc b) B o f i c := h.kept (Kp.alloc noB _ _) id
theorem CAt.set (h : CAt w B o f i c) {k : Nat} (hk : k < 10) (v : Value) (c' : Cn) (e : (cnC c).setIfInBounds k v = cnC c') : CAt (w.setCell ⟨B, o + k, none⟩ v) B o f i c' := by
 obtain ⟨cs, a, b, d⟩ := h.pit.blk
 have hi := h.hi
 have ho := h.ho
 refine ⟨⟨_, heap_set a, by simp [b], ?_⟩, h.hi, h.ho⟩
 intro j l hj hl
 subst ho
 by_cases ej : j = i
 ·subst ej
  rw [upd_at, ← e]
  have := d j l hj hl
  rw [upd_at] at this
  by_cases el : l = k
  ·subst el
   rw [Array.getElem?_setIfInBounds_self, Array.getElem?_setIfInBounds_self]
   have s1 : (cnC c).size = 10 := rfl
   rw [if_pos (by omega), if_pos (by omega)]
  ·rw [Array.getElem?_setIfInBounds_ne (by omega), Array.getElem?_setIfInBounds_ne (by omega)]
   exact this
 ·rw [upd_ne _ _ ej, Array.getElem?_setIfInBounds_ne (by omega)]
  have := d j l hj hl
  rw [upd_ne _ _ ej] at this
  exact this
theorem CAt.set0 (h : CAt w B o f i c) (v : Value) (c' : Cn) (e : (cnC c).setIfInBounds 0 v = cnC c') : CAt (w.setCell ⟨B, o, none⟩ v) B o f i c' := h.set (k := 0) (by decide) v c' e
end
theorem keyT : Tryz.prog.underlying 5 = some (.int .u8) := by kernel_rfl
theorem mapT : Tryz.prog.underlying 184 = some (.map 5 182) := by kernel_rfl
theorem alloc_set (w : World) (o o' : Obj) : ({ w.alloc o with heap := (w.alloc o).heap.setIfInBounds w.heap.size o' } : World) = w.alloc o' := by
 have e : (w.alloc o).heap.setIfInBounds w.heap.size o' = (w.alloc o').heap := by
  show (w.heap.push o).setIfInBounds w.heap.size o' = w.heap.push o'
  apply Array.ext
  ·simp
  ·intro i h1 h2
   have h3 : i < w.heap.size + 1 := by simpa using h2
   by_cases h : w.heap.size = i
   ·subst h; simp
   ·have h4 : i < w.heap.size := by omega
    rw [Array.getElem_setIfInBounds_ne (h := h), Array.getElem_push_lt h4, Array.getElem_push_lt h4]
    simp; omega
 rw [e]
 rfl
theorem put_new (w : World) (es : Array MapEntry) (n : Nat) (i : Int) (v : Value) (hf : Instr.findNow (.int .u8) (.int .u8 i) es.toList 0 = some none) :
  (Instr.mapUpdate 184 (.map (some w.heap.size)) (.int .u8 i) v).run Tryz.prog (w.alloc (.map es n)) = .ok () (w.alloc (.map (es.push ⟨.int .u8 i, v, n⟩) (n + 1))) := by
 have hb : (w.alloc (.map es n)).heap[w.heap.size]? = some (.map es n) := (MapKept.heap_alloc w (.map es n)).1
 have hc := MapKept.run_checkKey (P := Tryz.prog) (w := w.alloc (.map es n)) keyT (k := .int .u8 i) (by simp [MapKept.IsKey]) false 9999
 have hd := MapKept.run_findKey (P := Tryz.prog) (w := w.alloc (.map es n)) keyT hf
 have hs := MapKept.run_setObj_map (P := Tryz.prog) (.map (es.push ⟨.int .u8 i, v, n⟩) (n + 1)) hb
 rw [alloc_set] at hs
 simp [Instr.mapUpdate, run_underlying mapT, MapKept.run_getObj_map hb, hc, hd, hs, Result.andThen]
theorem look_any (b : Nat) (w : World) (es : Array MapEntry) (n : Nat) (hb : w.heap[b]? = some (.map es n)) (i : Int) (r : Option (Nat × Value)) (hf : Instr.findNow (.int .u8) (.int .u8 i) es.toList 0 = some r) :
  (Instr.lookup 184 (.map (some b)) (.int .u8 i) true).run Tryz.prog w = .ok (match r with | some (_, v) => .tuple #[v, .bool true] | none => .tuple #[.agg #[.nilFunc, .nilFunc], .bool false]) w := by
 have hc := MapKept.run_checkKey (P := Tryz.prog) (w := w) keyT (k := .int .u8 i) (by simp [MapKept.IsKey]) es.isEmpty 9999
 have hd := MapKept.run_findKey (P := Tryz.prog) (w := w) keyT hf
 cases r with
 | none => simp [Instr.lookup, run_underlying mapT, MapKept.run_getObj_map hb, hc, hd, Result.andThen]
 | some p => simp [Instr.lookup, run_underlying mapT, MapKept.run_getObj_map hb, hc, hd, Result.andThen]
def fL : Value := .func (.func 172) #[] #[]
def fV0 : Value := .func (.func 173) #[] #[]
def fL0 : Value := .func (.func 174) #[] #[]
def fL2 (b : Nat) : Value := .func (.func 175) #[] #[.pointer (some ⟨b, 0, none⟩)]
def fL3 : Value := .func (.func 176) #[] #[]
def mdEs (b : Nat) : Array MapEntry := #[⟨.int .u8 0, .agg #[fV0, fL0], 0⟩, ⟨.int .u8 2, .agg #[fL, fL2 b], 1⟩, ⟨.int .u8 3, .agg #[fL, fL3], 2⟩]
def mdL : Obj := .cells #[fL] 179
theorem modes_any (w : World) :
  Calls Tryz.prog 151 #[] w fun e w' => e = .returned (.map (some (w.heap.size + 1))) ∧ w' = (w.alloc mdL).alloc (.map (mdEs w.heap.size) 3) := by
 unfold mdL mdEs fL fV0 fL0 fL2 fL3
 have hmm := @run_makeMap Tryz.prog
 have s1 : (w.alloc (.cells #[.func (.func 172) #[] #[]] 179)).heap.size = w.heap.size + 1 := by simp
 have p0 := put_new (w.alloc (.cells #[.func (.func 172) #[] #[]] 179)) #[] 0 0 (.agg #[.func (.func 173) #[] #[], .func (.func 174) #[] #[]]) (by rfl)
 have p1 := put_new (w.alloc (.cells #[.func (.func 172) #[] #[]] 179)) #[⟨.int .u8 0, .agg #[.func (.func 173) #[] #[], .func (.func 174) #[] #[]], 0⟩] 1 2 (.agg #[.func (.func 172) #[] #[], .func (.func 175) #[] #[.pointer (some ⟨w.heap.size, 0, none⟩)]]) (by rfl)
 have p2 := put_new (w.alloc (.cells #[.func (.func 172) #[] #[]] 179)) #[⟨.int .u8 0, .agg #[.func (.func 173) #[] #[], .func (.func 174) #[] #[]], 0⟩, ⟨.int .u8 2, .agg #[.func (.func 172) #[] #[], .func (.func 175) #[] #[.pointer (some ⟨w.heap.size, 0, none⟩)]], 1⟩] 2 3 (.agg #[.func (.func 172) #[] #[], .func (.func 176) #[] #[]]) (by rfl)
 rw [s1] at p0 p1 p2
 simp only [List.push_toArray, List.cons_append, List.nil_append, Nat.zero_add, Nat.reduceAdd] at p0 p1 p2
 go_enter Tryz.func151, Tryz.ntmps151
 go_wp2
 go_ret
 exact ⟨rfl, rfl⟩
theorem rem_bd {l n : Int} (l0 : 1 ≤ l) : 0 ≤ n % l ∧ n % l < l := ⟨Int.emod_nonneg _ (by omega), Int.emod_lt_of_pos _ (by omega)⟩
theorem left_any (w : World) (l n : Int) (l0 : 1 ≤ l) (l1 : l ≤ 65536) (n0 : 0 ≤ n) : Calls Tryz.prog 172 #[.int .u64 l, .int .u64 n] w fun e w' => e = .returned (.int .u64 (l - n % l)) ∧ w' = w := by
 have h : (l == 0) = false := by simp; omega
 have r := rem_bd (n := n) l0
 go_enter Tryz.func172, Tryz.ntmps172
 go_wp2
 go_ret
 exact ⟨ret_int (by omega), rfl⟩
theorem val0_any (w : World) (l n : Int) : Calls Tryz.prog 173 #[.int .u64 l, .int .u64 n] w fun e w' => e = .returned (.int .u64 ((l - n) % 18446744073709551616)) ∧ w' = w := by
 go_enter Tryz.func173, Tryz.ntmps173
 go_wp2
 go_ret
 exact ⟨rfl, rfl⟩
theorem line0_any (w : World) (l n : Int) : Calls Tryz.prog 174 #[.int .u64 l, .int .u64 n] w fun e w' => e = .returned (.bool (decide (l ≤ n))) ∧ w' = w := by
 go_enter Tryz.func174, Tryz.ntmps174
 go_wp2
 go_ret
 exact ⟨rfl, rfl⟩
theorem line2_any (w : World) (l n : Int) (b : Nat) (hb : w.cell? ⟨b, 0, none⟩ = some fL) (l0 : 1 ≤ l) (l1 : l ≤ 65536) (n0 : 0 ≤ n) : Calls Tryz.prog 175 #[.int .u64 l, .int .u64 n, .pointer (some ⟨b, 0, none⟩)] w fun e w' => e = .returned (.bool (n % l != l - 1)) ∧ w' = w := by
 have H : Hid _ := left_any w l n l0 l1 n0
 have r := rem_bd (n := n) l0
 have e1 : (l - n % l != 1) = (n % l != l - 1) := by
  by_cases e : n % l = l - 1
  ·rw [e]; simp; omega
  ·have e' : ¬ l - n % l = 1 := by omega
   rw [bne, bne, beq_false_of_ne e', beq_false_of_ne e]
 unfold fL at hb
 go_enter Tryz.func175, Tryz.ntmps175
 go_wp2_with fail
 refine Calls.mono H.out ?_; rintro e w1 ⟨rfl, hw⟩; replace hw := hw.symm; subst hw
 go_wp2
 go_ret
 exact ⟨rfl, rfl⟩
theorem line3_any (w : World) (l n : Int) (l0 : 1 ≤ l) (l1 : l ≤ 65536) (n0 : 0 ≤ n) : Calls Tryz.prog 176 #[.int .u64 l, .int .u64 n] w fun e w' => e = .returned (.bool (decide (n % l < (l + 1) / 2))) ∧ w' = w := by
 have h : (l == 0) = false := by simp; omega
 have r := rem_bd (n := n) l0
 go_enter Tryz.func176, Tryz.ntmps176
 go_wp2
 go_ret
 exact ⟨ret_bool (by congr 1), rfl⟩
section
variable {w : World} {B o : Nat} {f : Nat → Cn} {i : Nat} {c : Cn}
theorem whole_ok (h : CAt w B o f i c) (l1 : 0 ≤ c.len ∧ c.len < 65536) : Calls Tryz.prog 152 #[.pointer (some ⟨B, o, none⟩)] w fun e w' => e = .returned (.int .u64 c.whole) ∧ w' = w := by
 have c2 := h.c2
 obtain ⟨l0, l1⟩ := l1
 unfold Cn.whole
 by_cases e : c.len = 0
 ·rw [if_pos e]
  rw [e] at c2
  go_enter Tryz.func152, Tryz.ntmps152
  go_wp2
  go_ret
  exact ⟨rfl, rfl⟩
 ·rw [if_neg e]
  have e' : (c.len == 0) = false := by simp [e]
  go_enter Tryz.func152, Tryz.ntmps152
  go_wp2
  go_ret
  exact ⟨ret_int (by omega), rfl⟩
theorem begin_ok (h : CAt w B o f i c) (l now : Int) : Calls Tryz.prog 170 #[.pointer (some ⟨B, o, none⟩), .int .u16 l, .int .u64 now] w fun e w' => e = .returned (.tuple #[]) ∧ CAt w' B o f i (c.begin l now) ∧ Kp (isB B) w w' := by
 have c2 := h.c2
 have c3 := h.c3
 have c4 := h.c4
 have z2 := h.fz (o + 2)
 have z3 := h.fz (o + 3)
 have z4 := h.fz (o + 4)
 go_enter Tryz.func170, Tryz.ntmps170
 go_wp2
 go_end0
 exact ⟨rfl, ((h.set (k := 2) (by decide) _ { c with len := l } rfl).set (k := 3) (by decide) _ { c with len := l, began := now } rfl).set (k := 4) (by decide) _ (c.begin l now) rfl, ((kpB B w _ _).trans (kpB B _ _ _)).trans (kpB B _ _ _)⟩
end
theorem has_ok (w : World) (a : Addr) (p : Int) (p0 : 0 ≤ p) (p1 : p ≤ 3) : Calls Tryz.prog 144 #[.pointer (some a), .int .i64 p] w fun e w' => e = .returned (.bool true) ∧ w' = w := by
 have d0 : decide (0 ≤ p) = true := by simp [p0]
 have d1 : decide (p ≤ 3) = true := by simp [p1]
 go_enter Tryz.func144, Tryz.ntmps144
 go_wp2
 go_ret
 exact ⟨rfl, rfl⟩
def mdW (w : World) : World := (w.alloc mdL).alloc (.map (mdEs w.heap.size) 3)
theorem mdW_size (w : World) : (mdW w).heap.size = w.heap.size + 2 := by simp [mdW]
theorem mdW_kp (w : World) : Kp noB w (mdW w) := (Kp.alloc _ _ _).trans (Kp.alloc _ _ _)
theorem mdW_map (w : World) : (mdW w).heap[w.heap.size + 1]? = some (.map (mdEs w.heap.size) 3) := by
 have := heap_new (w.alloc mdL) (.map (mdEs w.heap.size) 3)
 rw [show (w.alloc mdL).heap.size = w.heap.size + 1 by simp] at this
 exact this
def mdR (b : Nat) (m : Int) : Value :=
 if m = 0 then .tuple #[.agg #[fV0, fL0], .bool true]
 else if m = 2 then .tuple #[.agg #[fL, fL2 b], .bool true]
 else if m = 3 then .tuple #[.agg #[fL, fL3], .bool true]
 else .tuple #[.agg #[.nilFunc, .nilFunc], .bool false]
theorem look_md (b q : Nat) (w : World) (hb : w.heap[b]? = some (.map (mdEs q) 3)) (m : Int) : (Instr.lookup 184 (.map (some b)) (.int .u8 m) true).run Tryz.prog w = .ok (mdR q m) w := by
 unfold mdR
 by_cases e0 : m = 0
 ·subst e0
  rw [if_pos rfl]
  exact look_any b w (mdEs q) 3 hb 0 (some (0, .agg #[fV0, fL0])) rfl
 ·rw [if_neg e0]
  by_cases e2 : m = 2
  ·subst e2
   rw [if_pos rfl]
   exact look_any b w (mdEs q) 3 hb 2 (some (1, .agg #[fL, fL2 q])) rfl
  ·rw [if_neg e2]
   by_cases e3 : m = 3
   ·subst e3
    rw [if_pos rfl]
    exact look_any b w (mdEs q) 3 hb 3 (some (2, .agg #[fL, fL3])) rfl
   ·rw [if_neg e3]
    refine look_any b w (mdEs q) 3 hb m none ?_
    have a0 : (m == 0) = false := by simp [e0]
    have a2 : (m == 2) = false := by simp [e2]
    have a3 : (m == 3) = false := by simp [e3]
    simp [mdEs, Instr.findNow, Instr.sameNow, a0, a2, a3]
theorem look_w (W : World) (m : Int) : (Instr.lookup 184 (.map (some (W.heap.size + 1))) (.int .u8 m) true).run Tryz.prog (mdW W) = .ok (mdR W.heap.size m) (mdW W) := look_md _ _ _ (mdW_map W) m
theorem look_wa (W : World) (m : Int) (b : Obj) : (Instr.lookup 184 (.map (some (W.heap.size + 1))) (.int .u8 m) true).run Tryz.prog ((mdW W).alloc b) = .ok (mdR W.heap.size m) ((mdW W).alloc b) := look_md _ _ _ (heap_kept (mdW_map W) (Kp.alloc noB _ _) id) m
section
variable {w : World} {B o : Nat} {f : Nat → Cn} {i : Nat} {c : Cn}
theorem CAt.md (h : CAt w B o f i c) : CAt (mdW w) B o f i c := h.kept (mdW_kp w) id
end
def m0 : Obj := .cells #[.nilFunc, .nilFunc] 182
theorem m0_at (w : World) : (mdW (w.alloc m0).drew).heap[w.heap.size]? = some m0 := heap_kept (S := noB) (heap_new w m0) ((Kp.refl noB (w.alloc m0)).drew.trans (mdW_kp _)) id
theorem m0_c (w : World) {k : Nat} (hk : k < 2) : (mdW (w.alloc m0).drew).cell? ⟨w.heap.size, k, none⟩ = some .nilFunc := by
 have h := m0_at w
 generalize mdW (w.alloc m0).drew = W at h ⊢
 unfold m0 at h
 rcases (by omega : k = 0 ∨ k = 1) with rfl | rfl <;> simp [World.cell?, h]
theorem m0_z (w : World) (k : Nat) : (mdW (w.alloc m0).drew).frozen? ⟨w.heap.size, k, none⟩ = false := by
 have h := m0_at w
 generalize mdW (w.alloc m0).drew = W at h ⊢
 unfold m0 at h
 simp [World.frozen?, h]
theorem mdW_left (w : World) : (mdW w).cell? ⟨w.heap.size, 0, none⟩ = some fL := by
 have h : (mdW w).heap[w.heap.size]? = some mdL := heap_kept (S := noB) (heap_new w mdL) (Kp.alloc _ _ _) id
 generalize mdW w = W at h ⊢
 unfold mdL at h
 simp [World.cell?, h]
structure Tl (w W : World) (q b : Nat) (v l : Value) : Prop where
 x0 : W.cell? ⟨q, 0, none⟩ = some v
 x1 : W.cell? ⟨q, 1, none⟩ = some l
 left : W.cell? ⟨b, 0, none⟩ = some fL
 kp : Kp noB w W
theorem tlA (w : World) (v l : Value) : Tl w ((mdW w.drew).alloc (.cells #[v, l] 182)) (w.heap.size + 2) w.heap.size v l := by
 have h : ((mdW w.drew).alloc (.cells #[v, l] 182)).heap[w.heap.size + 2]? = some (.cells #[v, l] 182) := by
  have := heap_new (mdW w.drew) (.cells #[v, l] 182)
  rw [mdW_size] at this
  exact this
 refine ⟨by simp [World.cell?, h], by simp [World.cell?, h], ?_, ((Kp.refl noB w).drew.trans (mdW_kp _)).trans (Kp.alloc _ _ _)⟩
 have k := mdW_left w.drew
 have s := mdW_size w.drew
 generalize mdW w.drew = W at k s ⊢
 rw [World.cell?_alloc_lt _ _ _ (by rw [s]; show w.heap.size < w.heap.size + 2; omega)]
 exact k
theorem tlB (w : World) (v l : Value) : Tl w (((mdW (w.alloc m0).drew).setCell ⟨w.heap.size, 0, none⟩ v).setCell ⟨w.heap.size, 1, none⟩ l) w.heap.size (w.heap.size + 1) v l := by
 have h := m0_at w
 have k := mdW_left (w.alloc m0).drew
 have p := mdW_kp (w.alloc m0).drew
 have sz : w.heap.size + 2 ≤ (mdW (w.alloc m0).drew).heap.size := by rw [mdW_size]; simp
 rw [show (w.alloc m0).drew.heap.size = w.heap.size + 1 by simp] at k
 generalize mdW (w.alloc m0).drew = W at h k p sz ⊢
 unfold m0 at h p
 have e := heap_set (k := 1) (v := l) (heap_set (k := 0) (v := v) h)
 have g : Kp (isB w.heap.size) W ((W.setCell ⟨w.heap.size, 0, none⟩ v).setCell ⟨w.heap.size, 1, none⟩ l) := (kpB _ _ _ _).trans (kpB _ _ _ _)
 refine ⟨?_, ?_, ?_, ?_⟩
 ·unfold World.cell?; rw [e]; rfl
 ·unfold World.cell?; rw [e]; rfl
 ·refine (World.cell?_of_block (w := W) (g.block (w.heap.size + 1) ?_ (fun e => by unfold isB at e; omega))).trans k
  have := p.size
  have s2 : w.heap.size + 2 ≤ W.heap.size := sz
  omega
 ·exact (((Kp.alloc noB w _).drew).trans p).over g (fun j hj e => by unfold isB at e; omega)
end Go.Proofs.YtonfjhbfkichkaaGreat.Pt
