/- Decode: a plain model of the reader of bytes and of the form that is filled, and what it means that a world holds them. -/
import Derived.Test.YtolnaodlghahlaaGreatDoorGrow
import Derived.Laws.CopyOwn
namespace Go.Proofs.YtolnaodlghahlaaGreatDoor
open Go.ChangeShapes Go.WideShapes Go.ChangeAt Go.RowKit
set_option linter.unusedVariables false

/-- Outside the blocks of S the world is as it was. -/
structure Kp (S : Nat → Prop) (w w' : World) : Prop where
  os : w'.os = w.os
  tape : w'.tape = w.tape
  output : w'.output = w.output
  size : w.heap.size ≤ w'.heap.size
  block : ∀ k, k < w.heap.size → ¬ S k → w'.heap[k]? = w.heap[k]?

theorem Kp.refl (S : Nat → Prop) (w : World) : Kp S w w := ⟨rfl, rfl, rfl, Nat.le_refl _, fun _ _ _ => rfl⟩

theorem Kp.trans {S : Nat → Prop} {a b c : World} (h : Kp S a b) (k : Kp S b c) : Kp S a c :=
  ⟨k.os.trans h.os, k.tape.trans h.tape, k.output.trans h.output, Nat.le_trans h.size k.size, fun i hi hs => (k.block i (Nat.lt_of_lt_of_le hi h.size) hs).trans (h.block i hi hs)⟩

theorem Kp.mono {S T : Nat → Prop} {a b : World} (h : Kp S a b) (hST : ∀ k, k < a.heap.size → S k → T k) : Kp T a b :=
  ⟨h.os, h.tape, h.output, h.size, fun i hi hs => h.block i hi (fun g => hs (hST i hi g))⟩

theorem Kp.alloc (S : Nat → Prop) (w : World) (o : Obj) : Kp S w (w.alloc o) :=
  ⟨rfl, rfl, rfl, by simp, fun k hk _ => Below.heap_alloc _ _ _ hk⟩

theorem Kp.setCell {S : Nat → Prop} (w : World) {p : Addr} (hp : S p.block) (u : Value) : Kp S w (w.setCell p u) :=
  ⟨rfl, rfl, rfl, by simp [World.setCell], fun k hk hs => Below.heap_setCell _ _ _ _ (fun e => hs (e ▸ hp))⟩

theorem Kp.drew {S : Nat → Prop} {w w' : World} (h : Kp S w w') : Kp S w w'.drew := ⟨h.os, h.tape, h.output, h.size, h.block⟩
theorem Kp.drewN {S : Nat → Prop} {w w' : World} (h : Kp S w w') (n : Nat) : Kp S w (w'.drewN n) := ⟨h.os, h.tape, h.output, h.size, h.block⟩


theorem cell_lt {w : World} {b o : Nat} {v : Value} (h : w.cell? ⟨b, o, none⟩ = some v) : b < w.heap.size := by
  by_cases e : b < w.heap.size
  · exact e
  · have : w.heap[b]? = none := Array.getElem?_eq_none (by omega)
    simp [World.cell?, this] at h

theorem cell_kept {S : Nat → Prop} {w w' : World} {b o : Nat} {v : Value} (h : w.cell? ⟨b, o, none⟩ = some v) (k : Kp S w w') (hS : ¬ S b) : w'.cell? ⟨b, o, none⟩ = some v := by
  rw [World.cell?_of_block (w := w) (k.block b (cell_lt h) hS)]; exact h

theorem heap_lt {w : World} {b : Nat} {o : Obj} (h : w.heap[b]? = some o) : b < w.heap.size := (Array.getElem?_eq_some_iff.1 h).1

theorem heap_kept {S : Nat → Prop} {w w' : World} {b : Nat} {o : Obj} (h : w.heap[b]? = some o) (k : Kp S w w') (hS : ¬ S b) : w'.heap[b]? = some o := (k.block b (heap_lt h) hS).trans h

theorem heap_set {w : World} {b k : Nat} {v : Value} {c : Array Value} {t : TypeId} {fr : Nat × Nat} (h : w.heap[b]? = some (.cells c t fr)) : (w.setCell ⟨b, k, none⟩ v).heap[b]? = some (.cells (c.setIfInBounds k v) t fr) := by
  simp [World.setCell, Array.getElem?_modify, h]

/-! ### the plain model -/
structure Opd where
  kind : Int
  reg : Int
  size : Int
  seg : Int
  base : Int
  index : Int
  scale : Int
  disp : Int
  imm : Int

def Opd.zero : Opd := ⟨0, 0, 0, 0, 0, 0, 0, 0, 0⟩
def Opd.vals (o : Opd) : Array Value := #[.int .i64 o.kind, .int .i64 o.reg, .int .i64 o.size, .int .i64 o.seg, .int .i64 o.base, .int .i64 o.index, .int .i64 o.scale, .int .u32 o.disp, .int .u32 o.imm]

structure Ins where
  op : Int
  sub : Int
  size : Int
  a : Opd
  b : Opd
  c : Opd
  rep : Int
  len : Int

def Ins.zero : Ins := ⟨0, 0, 0, .zero, .zero, .zero, 0, 0⟩
def Ins.vals (x : Ins) : Array Value := #[.int .i64 x.op, .int .i64 x.sub, .int .i64 x.size] ++ x.a.vals ++ x.b.vals ++ x.c.vals ++ #[.int .i64 x.rep, .int .i64 x.len]

/-- The reader (at, err) and the form. -/
structure Sg where
  at' : Nat
  err : Int
  op : Int
  v : Int
  seg : Int
  rep : Int
  fl : Option (Int × Int × Int)
  ins : Ins

/-- What stays: where the reader and the form lie, the bytes. -/
structure Cx where
  S : Nat
  F : Nat
  p : Option Addr
  cap : Nat
  L : Nat
  bt : Nat → Int
  lo : Nat

structure Good (σ : Sg) : Prop where
  op0 : 0 ≤ σ.op
  op1 : σ.op < 4096
  vv : σ.v = 2 ∨ σ.v = 4
  fb : ∀ m n r, σ.fl = some (m, n, r) → (0 ≤ m ∧ m < 4) ∧ (0 ≤ n ∧ n < 8) ∧ 0 ≤ r ∧ r < 8

def Cx.own (X : Cx) (k : Nat) : Prop := k = X.S ∨ k = X.F

def srcC (X : Cx) (σ : Sg) : Array Value := #[.slice X.p X.L X.cap, .int .i64 σ.at', .int .i64 σ.err]

def frmC (X : Cx) (σ : Sg) (fp : Value) : Array Value := #[.func (.func 17) #[.pointer (some ⟨X.S, 0, none⟩)] #[], .func (.func 18) #[.pointer (some ⟨X.S, 0, none⟩)] #[], .int .i64 σ.op, .int .i64 σ.v, .int .i64 σ.seg, .int .i64 σ.rep, fp,
  .int .i64 σ.ins.op, .int .i64 σ.ins.sub, .int .i64 σ.ins.size,
  .int .i64 σ.ins.a.kind, .int .i64 σ.ins.a.reg, .int .i64 σ.ins.a.size, .int .i64 σ.ins.a.seg, .int .i64 σ.ins.a.base, .int .i64 σ.ins.a.index, .int .i64 σ.ins.a.scale, .int .u32 σ.ins.a.disp, .int .u32 σ.ins.a.imm,
  .int .i64 σ.ins.b.kind, .int .i64 σ.ins.b.reg, .int .i64 σ.ins.b.size, .int .i64 σ.ins.b.seg, .int .i64 σ.ins.b.base, .int .i64 σ.ins.b.index, .int .i64 σ.ins.b.scale, .int .u32 σ.ins.b.disp, .int .u32 σ.ins.b.imm,
  .int .i64 σ.ins.c.kind, .int .i64 σ.ins.c.reg, .int .i64 σ.ins.c.size, .int .i64 σ.ins.c.seg, .int .i64 σ.ins.c.base, .int .i64 σ.ins.c.index, .int .i64 σ.ins.c.scale, .int .u32 σ.ins.c.disp, .int .u32 σ.ins.c.imm,
  .int .i64 σ.ins.rep, .int .i64 σ.ins.len]

def FlAt (X : Cx) (w : World) : Option (Int × Int × Int) → Value → Prop
  | none, fp => fp = .pointer none
  | some (m, n, r), fp => ∃ q, fp = .pointer (some ⟨q, 0, none⟩) ∧ ¬ X.own q ∧ w.heap[q]? = some (.cells #[.int .i64 m, .int .i64 n, .int .i64 r] 88 (0, 0))

structure St (X : Cx) (w : World) (σ : Sg) : Prop where
  ne : X.S ≠ X.F
  src : w.heap[X.S]? = some (.cells (srcC X σ) 51 (0, 0))
  frm : ∃ fp, w.heap[X.F]? = some (.cells (frmC X σ fp) 55 (0, 0)) ∧ FlAt X w σ.fl fp
  byt : ∀ j, j < X.L → ∃ b o, X.p = some ⟨b, o, none⟩ ∧ b < X.lo ∧ w.cell? ⟨b, o + j, none⟩ = some (.int .u8 (X.bt j))
  bd : ∀ j, j < X.L → 0 ≤ X.bt j ∧ X.bt j < 256
  lt : X.L ≤ 4611686018427387904
  le : σ.at' ≤ 15
  lL : σ.at' ≤ X.L
  los : X.lo ≤ X.S
  lof : X.lo ≤ X.F
  gd : Good σ

theorem St.notown {X : Cx} {w : World} {σ : Sg} (h : St X w σ) {b : Nat} (hb : b < X.lo) : ¬ X.own b := by
  have := h.los
  have := h.lof
  rintro (e | e) <;> omega

theorem FlAt.kp {X : Cx} {w w' : World} {fl : Option (Int × Int × Int)} {fp : Value} (h : FlAt X w fl fp) (k : Kp X.own w w') : FlAt X w' fl fp := by
  cases fl with
  | none => exact h
  | some x =>
    obtain ⟨m, n, r⟩ := x
    obtain ⟨q, e, hq, hh⟩ := h
    exact ⟨q, e, hq, heap_kept hh k hq⟩

theorem byt_kp {X : Cx} {w w' : World} {σ : Sg} (h : St X w σ) (k : Kp X.own w w') : ∀ j, j < X.L → ∃ b o, X.p = some ⟨b, o, none⟩ ∧ b < X.lo ∧ w'.cell? ⟨b, o + j, none⟩ = some (.int .u8 (X.bt j)) := fun j hj => by
  obtain ⟨b, o, e, hb, hc⟩ := h.byt j hj
  exact ⟨b, o, e, hb, cell_kept hc k (h.notown hb)⟩

/-- What touches neither the reader nor the form leaves both as they are. -/
theorem St.kp {X : Cx} {w w' : World} {σ : Sg} (h : St X w σ) (k : Kp (fun _ => False) w w') : St X w' σ := by
  have k' : Kp X.own w w' := k.mono fun _ _ f => f.elim
  obtain ⟨fp, h1, h2⟩ := h.frm
  exact ⟨h.ne, heap_kept h.src k id, ⟨fp, heap_kept h1 k id, h2.kp k'⟩, byt_kp h k', h.bd, h.lt, h.le, h.lL, h.los, h.lof, h.gd⟩

theorem St.alloc {X : Cx} {w : World} {σ : Sg} (h : St X w σ) (o : Obj) : St X (w.alloc o) σ := h.kp (Kp.alloc _ _ _)

theorem St.drewN {X : Cx} {w : World} {σ : Sg} (h : St X w σ) (n : Nat) : St X (w.drewN n) σ := h.kp ((Kp.refl _ _).drewN n)

/-- A store into the reader. -/
theorem St.setS {X : Cx} {w : World} {σ σ' : Sg} (h : St X w σ) (k : Nat) (v : Value) (e : (srcC X σ).setIfInBounds k v = srcC X σ') (eF : ∀ fp, frmC X σ fp = frmC X σ' fp) (el : σ.fl = σ'.fl) (le : σ'.at' ≤ 15) (lL : σ'.at' ≤ X.L) (gd : Good σ') : St X (w.setCell ⟨X.S, k, none⟩ v) σ' := by
  have k' : Kp X.own w (w.setCell ⟨X.S, k, none⟩ v) := Kp.setCell w (Or.inl rfl) v
  obtain ⟨fp, h1, h2⟩ := h.frm
  refine ⟨h.ne, ?_, ⟨fp, ?_, ?_⟩, byt_kp h k', h.bd, h.lt, le, lL, h.los, h.lof, gd⟩
  · rw [heap_set h.src, e]
  · rw [← eF]; exact heap_kept h1 (Kp.setCell (S := fun k => k = X.S) w rfl v) (fun e => h.ne e.symm)
  · rw [← el]; exact h2.kp k'

/-- A store into the form, but for its pointer. -/
theorem St.setF {X : Cx} {w : World} {σ σ' : Sg} (h : St X w σ) (k : Nat) (v : Value) (e : ∀ fp, (frmC X σ fp).setIfInBounds k v = frmC X σ' fp) (eS : srcC X σ = srcC X σ') (el : σ.fl = σ'.fl) (ea : σ.at' = σ'.at') (gd : Good σ') : St X (w.setCell ⟨X.F, k, none⟩ v) σ' := by
  have k' : Kp X.own w (w.setCell ⟨X.F, k, none⟩ v) := Kp.setCell w (Or.inr rfl) v
  obtain ⟨fp, h1, h2⟩ := h.frm
  refine ⟨h.ne, ?_, ⟨fp, ?_, ?_⟩, byt_kp h k', h.bd, h.lt, ea ▸ h.le, ea ▸ h.lL, h.los, h.lof, gd⟩
  · rw [← eS]; exact heap_kept h.src (Kp.setCell (S := fun k => k = X.F) w rfl v) h.ne
  · rw [heap_set h1, e]
  · rw [← el]; exact h2.kp k'

theorem St.s0 {X : Cx} {w : World} {σ : Sg} (h : St X w σ) : w.cell? ⟨X.S, 0, none⟩ = some (.slice X.p X.L X.cap) := by simp [World.cell?, h.src, srcC]
theorem St.s1 {X : Cx} {w : World} {σ : Sg} (h : St X w σ) : w.cell? ⟨X.S, 1, none⟩ = some (.int .i64 σ.at') := by simp [World.cell?, h.src, srcC]
theorem St.s2 {X : Cx} {w : World} {σ : Sg} (h : St X w σ) : w.cell? ⟨X.S, 2, none⟩ = some (.int .i64 σ.err) := by simp [World.cell?, h.src, srcC]
theorem St.sf {X : Cx} {w : World} {σ : Sg} (h : St X w σ) (j : Nat) : w.frozen? ⟨X.S, j, none⟩ = false := by simp [World.frozen?, h.src]
theorem St.ff {X : Cx} {w : World} {σ : Sg} (h : St X w σ) (j : Nat) : w.frozen? ⟨X.F, j, none⟩ = false := by
  obtain ⟨fp, h1, _⟩ := h.frm
  simp [World.frozen?, h1]
theorem St.f0 {X : Cx} {w : World} {σ : Sg} (h : St X w σ) : w.cell? ⟨X.F, 0, none⟩ = some (.func (.func 17) #[.pointer (some ⟨X.S, 0, none⟩)] #[]) := by
  obtain ⟨fp, h1, _⟩ := h.frm
  simp [World.cell?, h1, frmC]
theorem St.f1 {X : Cx} {w : World} {σ : Sg} (h : St X w σ) : w.cell? ⟨X.F, 1, none⟩ = some (.func (.func 18) #[.pointer (some ⟨X.S, 0, none⟩)] #[]) := by
  obtain ⟨fp, h1, _⟩ := h.frm
  simp [World.cell?, h1, frmC]
theorem St.f2 {X : Cx} {w : World} {σ : Sg} (h : St X w σ) : w.cell? ⟨X.F, 2, none⟩ = some (.int .i64 σ.op) := by
  obtain ⟨fp, h1, _⟩ := h.frm
  simp [World.cell?, h1, frmC]
theorem St.f3 {X : Cx} {w : World} {σ : Sg} (h : St X w σ) : w.cell? ⟨X.F, 3, none⟩ = some (.int .i64 σ.v) := by
  obtain ⟨fp, h1, _⟩ := h.frm
  simp [World.cell?, h1, frmC]
theorem St.f4 {X : Cx} {w : World} {σ : Sg} (h : St X w σ) : w.cell? ⟨X.F, 4, none⟩ = some (.int .i64 σ.seg) := by
  obtain ⟨fp, h1, _⟩ := h.frm
  simp [World.cell?, h1, frmC]
theorem St.f5 {X : Cx} {w : World} {σ : Sg} (h : St X w σ) : w.cell? ⟨X.F, 5, none⟩ = some (.int .i64 σ.rep) := by
  obtain ⟨fp, h1, _⟩ := h.frm
  simp [World.cell?, h1, frmC]

theorem St.ltF {X : Cx} {w : World} {σ : Sg} (h : St X w σ) : X.F < w.heap.size := by obtain ⟨fp, h1, _⟩ := h.frm; exact heap_lt h1
theorem St.ltS {X : Cx} {w : World} {σ : Sg} (h : St X w σ) : X.S < w.heap.size := heap_lt h.src

theorem St.low {X : Cx} {w : World} {σ : Sg} (h : St X w σ) : X.lo ≤ w.heap.size := by have := h.los; have := h.ltS; omega
theorem St.fresh {X : Cx} {w : World} {σ : Sg} (h : St X w σ) : ¬ X.own w.heap.size := by
  have := h.ltS
  have := h.ltF
  rintro (e | e) <;> omega

/-- A change of a block that is neither the reader's nor the form's nor the fields' nor the bytes'. -/
theorem St.other {X : Cx} {w w' : World} {σ : Sg} {q : Nat} {c : Array Value} {t : TypeId} {fr : Nat × Nat} (h : St X w σ) (k : Kp (fun b => b = q) w w') (hlo : X.lo ≤ q) (hq : w.heap[q]? = some (.cells c t fr)) (ht : t ≠ 51 ∧ t ≠ 55 ∧ t ≠ 88) : St X w' σ := by
  have hS : ¬ X.S = q := fun e => by rw [← e, h.src] at hq; injection hq with hq; injection hq with _ e2; exact ht.1 e2.symm
  obtain ⟨fp, h1, h2⟩ := h.frm
  have hF : ¬ X.F = q := fun e => by rw [← e, h1] at hq; injection hq with hq; injection hq with _ e2; exact ht.2.1 e2.symm
  refine ⟨h.ne, heap_kept h.src k hS, ⟨fp, heap_kept h1 k hF, ?_⟩, fun j hj => ?_, h.bd, h.lt, h.le, h.lL, h.los, h.lof, h.gd⟩
  · cases hf : σ.fl with
    | none => rw [hf] at h2; exact h2
    | some x =>
      obtain ⟨m, n, r⟩ := x
      rw [hf] at h2
      obtain ⟨g, e, hg, hh⟩ := h2
      refine ⟨g, e, hg, heap_kept hh k fun e2 => ?_⟩
      rw [← (show g = q from e2), hh] at hq
      injection hq with hq
      injection hq with _ e3
      exact ht.2.2 e3.symm
  · obtain ⟨b, o, e, hb, hc⟩ := h.byt j hj
    exact ⟨b, o, e, hb, cell_kept hc k (by show ¬ b = q; omega)⟩

/-- A store of the fields' pointer. -/
theorem St.setFl {X : Cx} {w : World} {σ : Sg} (h : St X w σ) (q : Nat) (m n r : Int) (hq : ¬ X.own q) (hh : w.heap[q]? = some (.cells #[.int .i64 m, .int .i64 n, .int .i64 r] 88 (0, 0))) (b : (0 ≤ m ∧ m < 4) ∧ (0 ≤ n ∧ n < 8) ∧ 0 ≤ r ∧ r < 8) : St X (w.setCell ⟨X.F, 6, none⟩ (.pointer (some ⟨q, 0, none⟩))) { σ with fl := some (m, n, r) } := by
  have k' : Kp X.own w (w.setCell ⟨X.F, 6, none⟩ (.pointer (some ⟨q, 0, none⟩))) := Kp.setCell w (Or.inr rfl) _
  obtain ⟨fp, h1, h2⟩ := h.frm
  refine ⟨h.ne, ?_, ⟨_, ?_, q, rfl, hq, heap_kept hh k' hq⟩, byt_kp h k', h.bd, h.lt, h.le, h.lL, h.los, h.lof, ⟨h.gd.op0, h.gd.op1, h.gd.vv, ?_⟩⟩
  · exact heap_kept h.src (Kp.setCell (S := fun k => k = X.F) w rfl _) h.ne
  · rw [heap_set h1]; rfl
  · rintro m' n' r' e
    injection e with e
    injection e with e1 e
    injection e with e2 e3
    subst e1 e2 e3
    exact b

/-! ### the steps -/
def take (X : Cx) (σ : Sg) : Int × Sg :=
  if σ.err ≠ 0 then (0, σ) else if σ.at' = 15 then (0, { σ with err := 62 }) else if σ.at' = X.L then (0, { σ with err := 61 }) else (X.bt σ.at', { σ with at' := σ.at' + 1 })

def refuse (σ : Sg) : Sg := if σ.err = 0 then { σ with err := 60 } else σ

def Done (X : Cx) (w : World) (σ : Sg) (w' : World) : Prop := St X w' σ ∧ Kp X.own w w'

theorem take_bd {w : World} {X : Cx} {σ : Sg} (h : St X w σ) : 0 ≤ (take X σ).1 ∧ (take X σ).1 < 256 := by
  unfold take
  split
  · exact ⟨Int.le_refl _, (by decide : (0 : Int) < 256)⟩
  · split
    · exact ⟨Int.le_refl _, (by decide : (0 : Int) < 256)⟩
    · split
      · exact ⟨Int.le_refl _, (by decide : (0 : Int) < 256)⟩
      · exact h.bd _ (by have := h.lL; omega)

theorem take_ok (w : World) (X : Cx) (σ : Sg) (h : St X w σ) :
    Calls Tryz.prog 17 #[.pointer (some ⟨X.S, 0, none⟩)] w fun e w' => e = .returned (.int .i64 (take X σ).1) ∧ Done X w (take X σ).2 w' := by
  have c0 := h.s0
  have c1 := h.s1
  have c2 := h.s2
  have z1 := h.sf 1
  have z2 := h.sf 2
  have hL := h.lt
  have hl := h.le
  have hlL := h.lL
  obtain ⟨a, ha⟩ : ∃ a, a = σ.at' := ⟨_, rfl⟩
  obtain ⟨er, her⟩ : ∃ er, er = σ.err := ⟨_, rfl⟩
  obtain ⟨L, hLe⟩ : ∃ L, L = X.L := ⟨_, rfl⟩
  rw [← ha] at c1 hl hlL
  rw [← her] at c2
  rw [← hLe] at c0 hL hlL
  have Ha : Hid (a = σ.at') := ha
  have He : Hid (er = σ.err) := her
  have HLe : Hid (L = X.L) := hLe
  clear ha her hLe
  by_cases e0 : er = 0
  · by_cases e1 : (a : Int) = 15
    · have ht : take X σ = (0, { σ with err := 62 }) := by
        unfold take
        rw [if_neg (by rw [← He.out]; simpa using e0), if_pos (by rw [← Ha.out]; omega)]
      rw [ht]
      go_enter Tryz.func17, Tryz.ntmps17
      go_wp2
      go_ret
      exact ⟨rfl, h.setS 2 _ rfl (fun _ => rfl) rfl h.le h.lL ⟨h.gd.op0, h.gd.op1, h.gd.vv, h.gd.fb⟩, Kp.setCell w (Or.inl rfl) _⟩
    · by_cases e2 : (a : Int) = (L : Int)
      · have ht : take X σ = (0, { σ with err := 61 }) := by
          unfold take
          rw [if_neg (by rw [← He.out]; simpa using e0), if_neg (by rw [← Ha.out]; omega), if_pos (by rw [← Ha.out, ← HLe.out]; omega)]
        rw [ht]
        go_enter Tryz.func17, Tryz.ntmps17
        go_wp2
        go_quiet (fail)
        go_wp2
        go_ret
        exact ⟨rfl, (h.drewN _).setS 2 _ rfl (fun _ => rfl) rfl h.le h.lL ⟨h.gd.op0, h.gd.op1, h.gd.vv, h.gd.fb⟩, ((Kp.refl _ w).drewN _).trans (Kp.setCell _ (Or.inl rfl) _)⟩
      · obtain ⟨b, o, hp, hb, hc⟩ := h.byt a (by have := HLe.out; omega)
        have hbS : ¬ b = X.S := fun e => h.notown hb (Or.inl e)
        have hbS' : ¬ X.S = b := fun e => h.notown hb (Or.inl e.symm)
        obtain ⟨y, hy⟩ : ∃ y, y = X.bt a := ⟨_, rfl⟩
        have ht : take X σ = (y, { σ with at' := a + 1 }) := by
          unfold take
          rw [if_neg (by rw [← He.out]; simpa using e0), if_neg (by rw [← Ha.out]; omega), if_neg (by rw [← Ha.out, ← HLe.out]; omega), ← Ha.out, hy]
        rw [← hy] at hc
        have hyb := h.bd a (by have := HLe.out; omega)
        rw [← hy] at hyb
        obtain ⟨y0, y1⟩ := hyb
        clear hy
        rw [hp] at c0
        have i0 : 0 ≤ (a : Int) := by omega
        have i1 : (a : Int) < (L : Int) := by omega
        have hw : IntKind.i64.wrap (a : Int) = a := IntWalk.i64_in _ ⟨by omega, by omega⟩
        have hlast : ∀ n m : Nat, Done X w { σ with at' := a + 1 } (((w.drewN n).setCell ⟨X.S, 1, none⟩ (.int .i64 ((a : Int) + 1))).drewN m) := fun n m => by
          refine ⟨((h.drewN n).setS (σ' := { σ with at' := a + 1 }) 1 _ ?_ (fun _ => rfl) rfl (by show a + 1 ≤ 15; omega) (by show a + 1 ≤ X.L; have := HLe.out; omega) ⟨h.gd.op0, h.gd.op1, h.gd.vv, h.gd.fb⟩).drewN m, (((Kp.refl _ w).drewN n).trans (Kp.setCell _ (Or.inl rfl) _)).drewN m⟩
          rfl
        have Hlast : Hid (∀ n m : Nat, Done X w { σ with at' := a + 1 } (((w.drewN n).setCell ⟨X.S, 1, none⟩ (.int .i64 ((a : Int) + 1))).drewN m)) := hlast
        clear hlast
        rw [ht]
        go_enter Tryz.func17, Tryz.ntmps17
        go_wp2
        go_quiet (fail)
        go_wp2
        go_quiet (fail)
        go_wp2
        go_ret
        exact ⟨rfl, Hlast.out _ _⟩
  · have e0' : (er != 0) = true := by simpa using e0
    have ht : take X σ = (0, σ) := by
      unfold take
      rw [if_pos (by rw [← He.out]; exact e0)]
    rw [ht]
    go_enter Tryz.func17, Tryz.ntmps17
    go_wp2
    go_ret
    exact ⟨rfl, h, Kp.refl _ _⟩

theorem refuse_ok (w : World) (X : Cx) (σ : Sg) (h : St X w σ) :
    Calls Tryz.prog 18 #[.pointer (some ⟨X.S, 0, none⟩)] w fun e w' => e = .returned (.tuple #[]) ∧ Done X w (refuse σ) w' := by
  have c2 := h.s2
  have z2 := h.sf 2
  obtain ⟨er, her⟩ : ∃ er, er = σ.err := ⟨_, rfl⟩
  rw [← her] at c2
  have He : Hid (er = σ.err) := her
  clear her
  by_cases e0 : er = 0
  · have ht : refuse σ = { σ with err := 60 } := by unfold refuse; rw [if_pos (by rw [← He.out]; exact e0)]
    rw [ht]
    go_enter Tryz.func18, Tryz.ntmps18
    go_wp2
    go_end0
    exact ⟨rfl, h.setS 2 _ rfl (fun _ => rfl) rfl h.le h.lL ⟨h.gd.op0, h.gd.op1, h.gd.vv, h.gd.fb⟩, Kp.setCell w (Or.inl rfl) _⟩
  · have ht : refuse σ = σ := by unfold refuse; rw [if_neg (by rw [← He.out]; exact e0)]
    rw [ht]
    go_enter Tryz.func18, Tryz.ntmps18
    go_wp2
    go_end0
    exact ⟨rfl, h, Kp.refl _ _⟩

end Go.Proofs.YtolnaodlghahlaaGreatDoor
