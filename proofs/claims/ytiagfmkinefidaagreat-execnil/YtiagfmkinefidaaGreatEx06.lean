/- The bus and its devices: DecBase, DecLeaf, DecTake, DecNum. -/
import Derived.Test.YtiagfmkinefidaaGreatEx01
import Derived.Laws.CopyOwn
import Derived.MapKept
import Derived.Laws.CopyRow
import Derived.LoopTactic
import Derived.LoopN
namespace Go.Proofs.YtiagfmkinefidaaGreat.Dc
open Go.ChangeShapes Go.WideShapes Go.ChangeAt Go.RowKit
set_option linter.unusedVariables false
set_option maxRecDepth 20000
/-- Outside the blocks of S the world is as it was. -/
structure Kp (S : Nat → Prop) (w w' : World) : Prop where
  os : w'.os = w.os
  tape : w'.tape = w.tape
  output : w'.output = w.output
  size : w.heap.size ≤ w'.heap.size
  block : ∀ k, k < w.heap.size → ¬ S k → w'.heap[k]? = w.heap[k]?
theorem Kp.refl (S : Nat → Prop) (w : World) : Kp S w w := ⟨rfl, rfl, rfl, Nat.le_refl _, fun _ _ _ => rfl⟩
theorem Kp.trans {S : Nat → Prop} {a b c : World} (h : Kp S a b) (k : Kp S b c) : Kp S a c :=
  ⟨k.os.trans h.os, k.tape.trans h.tape, k.output.trans h.output, Nat.le_trans h.size k.size, fun i hi hs => (k.block i (Nat.lt_of_lt_of_le hi h.size) hs).trans (h.block i hi hs)⟩
theorem Kp.mono {S T : Nat → Prop} {a b : World} (h : Kp S a b) (hST : ∀ k, k < a.heap.size → S k → T k) : Kp T a b :=
  ⟨h.os, h.tape, h.output, h.size, fun i hi hs => h.block i hi (fun g => hs (hST i hi g))⟩
theorem Kp.alloc (S : Nat → Prop) (w : World) (o : Obj) : Kp S w (w.alloc o) :=
  ⟨rfl, rfl, rfl, by simp, fun k hk _ => Below.heap_alloc _ _ _ hk⟩
theorem Kp.setCell {S : Nat → Prop} (w : World) {p : Addr} (hp : S p.block) (u : Value) : Kp S w (w.setCell p u) :=
  ⟨rfl, rfl, rfl, by simp [World.setCell], fun k hk hs => Below.heap_setCell _ _ _ _ (fun e => hs (e ▸ hp))⟩
theorem Kp.drew {S : Nat → Prop} {w w' : World} (h : Kp S w w') : Kp S w w'.drew := ⟨h.os, h.tape, h.output, h.size, h.block⟩
theorem Kp.drewN {S : Nat → Prop} {w w' : World} (h : Kp S w w') (n : Nat) : Kp S w (w'.drewN n) := ⟨h.os, h.tape, h.output, h.size, h.block⟩
theorem cell_lt {w : World} {b o : Nat} {v : Value} (h : w.cell? ⟨b, o, none⟩ = some v) : b < w.heap.size := by
  by_cases e : b < w.heap.size
  · exact e
  · have : w.heap[b]? = none := Array.getElem?_eq_none (by omega)
    simp [World.cell?, this] at h
theorem cell_kept {S : Nat → Prop} {w w' : World} {b o : Nat} {v : Value} (h : w.cell? ⟨b, o, none⟩ = some v) (k : Kp S w w') (hS : ¬ S b) : w'.cell? ⟨b, o, none⟩ = some v := by
  rw [World.cell?_of_block (w := w) (k.block b (cell_lt h) hS)]; exact h
theorem heap_lt {w : World} {b : Nat} {o : Obj} (h : w.heap[b]? = some o) : b < w.heap.size := (Array.getElem?_eq_some_iff.1 h).1
theorem heap_kept {S : Nat → Prop} {w w' : World} {b : Nat} {o : Obj} (h : w.heap[b]? = some o) (k : Kp S w w') (hS : ¬ S b) : w'.heap[b]? = some o := (k.block b (heap_lt h) hS).trans h
theorem heap_set {w : World} {b k : Nat} {v : Value} {c : Array Value} {t : TypeId} {fr : Nat × Nat} (h : w.heap[b]? = some (.cells c t fr)) : (w.setCell ⟨b, k, none⟩ v).heap[b]? = some (.cells (c.setIfInBounds k v) t fr) := by
  simp [World.setCell, Array.getElem?_modify, h]
/-! ### the plain model -/
structure Opd where
  kind : Int
  reg : Int
  size : Int
  seg : Int
  base : Int
  index : Int
  scale : Int
  disp : Int
  imm : Int
def Opd.zero : Opd := ⟨0, 0, 0, 0, 0, 0, 0, 0, 0⟩
def Opd.vals (o : Opd) : Array Value := #[.int .i64 o.kind, .int .i64 o.reg, .int .i64 o.size, .int .i64 o.seg, .int .i64 o.base, .int .i64 o.index, .int .i64 o.scale, .int .u32 o.disp, .int .u32 o.imm]
structure Ins where
  op : Int
  sub : Int
  size : Int
  a : Opd
  b : Opd
  c : Opd
  rep : Int
  len : Int
def Ins.zero : Ins := ⟨0, 0, 0, .zero, .zero, .zero, 0, 0⟩
/-- The reader (at, err) and the form. -/
structure Sg where
  at' : Nat
  err : Int
  op : Int
  v : Int
  seg : Int
  rep : Int
  fl : Option (Int × Int × Int)
  ins : Ins
/-- What stays: where the reader and the form lie, the bytes. -/
structure Cx where
  S : Nat
  F : Nat
  p : Option Addr
  cap : Nat
  L : Nat
  bt : Nat → Int
  lo : Nat
structure Good (σ : Sg) : Prop where
  op0 : 0 ≤ σ.op
  op1 : σ.op < 4096
  vv : σ.v = 2 ∨ σ.v = 4
  fb : ∀ m n r, σ.fl = some (m, n, r) → (0 ≤ m ∧ m < 4) ∧ (0 ≤ n ∧ n < 8) ∧ 0 ≤ r ∧ r < 8
def Cx.own (X : Cx) (k : Nat) : Prop := k = X.S ∨ k = X.F
def srcC (X : Cx) (σ : Sg) : Array Value := #[.slice X.p X.L X.cap, .int .i64 σ.at', .int .i64 σ.err]
def frmC (X : Cx) (σ : Sg) (fp : Value) : Array Value := #[.func (.func 86) #[.pointer (some ⟨X.S, 0, none⟩)] #[], .func (.func 87) #[.pointer (some ⟨X.S, 0, none⟩)] #[], .int .i64 σ.op, .int .i64 σ.v, .int .i64 σ.seg, .int .i64 σ.rep, fp,
  .int .i64 σ.ins.op, .int .i64 σ.ins.sub, .int .i64 σ.ins.size,
  .int .i64 σ.ins.a.kind, .int .i64 σ.ins.a.reg, .int .i64 σ.ins.a.size, .int .i64 σ.ins.a.seg, .int .i64 σ.ins.a.base, .int .i64 σ.ins.a.index, .int .i64 σ.ins.a.scale, .int .u32 σ.ins.a.disp, .int .u32 σ.ins.a.imm,
  .int .i64 σ.ins.b.kind, .int .i64 σ.ins.b.reg, .int .i64 σ.ins.b.size, .int .i64 σ.ins.b.seg, .int .i64 σ.ins.b.base, .int .i64 σ.ins.b.index, .int .i64 σ.ins.b.scale, .int .u32 σ.ins.b.disp, .int .u32 σ.ins.b.imm,
  .int .i64 σ.ins.c.kind, .int .i64 σ.ins.c.reg, .int .i64 σ.ins.c.size, .int .i64 σ.ins.c.seg, .int .i64 σ.ins.c.base, .int .i64 σ.ins.c.index, .int .i64 σ.ins.c.scale, .int .u32 σ.ins.c.disp, .int .u32 σ.ins.c.imm,
  .int .i64 σ.ins.rep, .int .i64 σ.ins.len]
def FlAt (X : Cx) (w : World) : Option (Int × Int × Int) → Value → Prop
  | none, fp => fp = .pointer none
  | some (m, n, r), fp => ∃ q, fp = .pointer (some ⟨q, 0, none⟩) ∧ ¬ X.own q ∧ w.heap[q]? = some (.cells #[.int .i64 m, .int .i64 n, .int .i64 r] 294 (0, 0))
structure St (X : Cx) (w : World) (σ : Sg) : Prop where
  ne : X.S ≠ X.F
  src : w.heap[X.S]? = some (.cells (srcC X σ) 198 (0, 0))
  frm : ∃ fp, w.heap[X.F]? = some (.cells (frmC X σ fp) 203 (0, 0)) ∧ FlAt X w σ.fl fp
  byt : ∀ j, j < X.L → ∃ b o, X.p = some ⟨b, o, none⟩ ∧ b < X.lo ∧ w.cell? ⟨b, o + j, none⟩ = some (.int .u8 (X.bt j))
  bd : ∀ j, j < X.L → 0 ≤ X.bt j ∧ X.bt j < 256
  lt : X.L ≤ 4611686018427387904
  le : σ.at' ≤ 15
  lL : σ.at' ≤ X.L
  los : X.lo ≤ X.S
  lof : X.lo ≤ X.F
  gd : Good σ
theorem St.notown {X : Cx} {w : World} {σ : Sg} (h : St X w σ) {b : Nat} (hb : b < X.lo) : ¬ X.own b := by
  have := h.los
  have := h.lof
  rintro (e | e) <;> omega
theorem FlAt.kp {X : Cx} {w w' : World} {fl : Option (Int × Int × Int)} {fp : Value} (h : FlAt X w fl fp) (k : Kp X.own w w') : FlAt X w' fl fp := by
  cases fl with
  | none => exact h
  | some x =>
    obtain ⟨m, n, r⟩ := x
    obtain ⟨q, e, hq, hh⟩ := h
    exact ⟨q, e, hq, heap_kept hh k hq⟩
theorem byt_kp {X : Cx} {w w' : World} {σ : Sg} (h : St X w σ) (k : Kp X.own w w') : ∀ j, j < X.L → ∃ b o, X.p = some ⟨b, o, none⟩ ∧ b < X.lo ∧ w'.cell? ⟨b, o + j, none⟩ = some (.int .u8 (X.bt j)) := fun j hj => by
  obtain ⟨b, o, e, hb, hc⟩ := h.byt j hj
  exact ⟨b, o, e, hb, cell_kept hc k (h.notown hb)⟩
/-- What touches neither the reader nor the form leaves both as they are. -/
theorem St.kp {X : Cx} {w w' : World} {σ : Sg} (h : St X w σ) (k : Kp (fun _ => False) w w') : St X w' σ := by
  have k' : Kp X.own w w' := k.mono fun _ _ f => f.elim
  obtain ⟨fp, h1, h2⟩ := h.frm
  exact ⟨h.ne, heap_kept h.src k id, ⟨fp, heap_kept h1 k id, h2.kp k'⟩, byt_kp h k', h.bd, h.lt, h.le, h.lL, h.los, h.lof, h.gd⟩
theorem St.alloc {X : Cx} {w : World} {σ : Sg} (h : St X w σ) (o : Obj) : St X (w.alloc o) σ := h.kp (Kp.alloc _ _ _)
theorem St.drewN {X : Cx} {w : World} {σ : Sg} (h : St X w σ) (n : Nat) : St X (w.drewN n) σ := h.kp ((Kp.refl _ _).drewN n)
/-- A store into the reader. -/
theorem St.setS {X : Cx} {w : World} {σ σ' : Sg} (h : St X w σ) (k : Nat) (v : Value) (e : (srcC X σ).setIfInBounds k v = srcC X σ') (eF : ∀ fp, frmC X σ fp = frmC X σ' fp) (el : σ.fl = σ'.fl) (le : σ'.at' ≤ 15) (lL : σ'.at' ≤ X.L) (gd : Good σ') : St X (w.setCell ⟨X.S, k, none⟩ v) σ' := by
  have k' : Kp X.own w (w.setCell ⟨X.S, k, none⟩ v) := Kp.setCell w (Or.inl rfl) v
  obtain ⟨fp, h1, h2⟩ := h.frm
  refine ⟨h.ne, ?_, ⟨fp, ?_, ?_⟩, byt_kp h k', h.bd, h.lt, le, lL, h.los, h.lof, gd⟩
  · rw [heap_set h.src, e]
  · rw [← eF]; exact heap_kept h1 (Kp.setCell (S := fun k => k = X.S) w rfl v) (fun e => h.ne e.symm)
  · rw [← el]; exact h2.kp k'
/-- A store into the form, but for its pointer. -/
theorem St.setF {X : Cx} {w : World} {σ σ' : Sg} (h : St X w σ) (k : Nat) (v : Value) (e : ∀ fp, (frmC X σ fp).setIfInBounds k v = frmC X σ' fp) (eS : srcC X σ = srcC X σ') (el : σ.fl = σ'.fl) (ea : σ.at' = σ'.at') (gd : Good σ') : St X (w.setCell ⟨X.F, k, none⟩ v) σ' := by
  have k' : Kp X.own w (w.setCell ⟨X.F, k, none⟩ v) := Kp.setCell w (Or.inr rfl) v
  obtain ⟨fp, h1, h2⟩ := h.frm
  refine ⟨h.ne, ?_, ⟨fp, ?_, ?_⟩, byt_kp h k', h.bd, h.lt, ea ▸ h.le, ea ▸ h.lL, h.los, h.lof, gd⟩
  · rw [← eS]; exact heap_kept h.src (Kp.setCell (S := fun k => k = X.F) w rfl v) h.ne
  · rw [heap_set h1, e]
  · rw [← el]; exact h2.kp k'
theorem St.s0 {X : Cx} {w : World} {σ : Sg} (h : St X w σ) : w.cell? ⟨X.S, 0, none⟩ = some (.slice X.p X.L X.cap) := by simp [World.cell?, h.src, srcC]
theorem St.s1 {X : Cx} {w : World} {σ : Sg} (h : St X w σ) : w.cell? ⟨X.S, 1, none⟩ = some (.int .i64 σ.at') := by simp [World.cell?, h.src, srcC]
theorem St.s2 {X : Cx} {w : World} {σ : Sg} (h : St X w σ) : w.cell? ⟨X.S, 2, none⟩ = some (.int .i64 σ.err) := by simp [World.cell?, h.src, srcC]
theorem St.sf {X : Cx} {w : World} {σ : Sg} (h : St X w σ) (j : Nat) : w.frozen? ⟨X.S, j, none⟩ = false := by simp [World.frozen?, h.src]
theorem St.ff {X : Cx} {w : World} {σ : Sg} (h : St X w σ) (j : Nat) : w.frozen? ⟨X.F, j, none⟩ = false := by
  obtain ⟨fp, h1, _⟩ := h.frm
  simp [World.frozen?, h1]
theorem St.f0 {X : Cx} {w : World} {σ : Sg} (h : St X w σ) : w.cell? ⟨X.F, 0, none⟩ = some (.func (.func 86) #[.pointer (some ⟨X.S, 0, none⟩)] #[]) := by
  obtain ⟨fp, h1, _⟩ := h.frm
  simp [World.cell?, h1, frmC]
theorem St.f1 {X : Cx} {w : World} {σ : Sg} (h : St X w σ) : w.cell? ⟨X.F, 1, none⟩ = some (.func (.func 87) #[.pointer (some ⟨X.S, 0, none⟩)] #[]) := by
  obtain ⟨fp, h1, _⟩ := h.frm
  simp [World.cell?, h1, frmC]
theorem St.f2 {X : Cx} {w : World} {σ : Sg} (h : St X w σ) : w.cell? ⟨X.F, 2, none⟩ = some (.int .i64 σ.op) := by
  obtain ⟨fp, h1, _⟩ := h.frm
  simp [World.cell?, h1, frmC]
theorem St.f3 {X : Cx} {w : World} {σ : Sg} (h : St X w σ) : w.cell? ⟨X.F, 3, none⟩ = some (.int .i64 σ.v) := by
  obtain ⟨fp, h1, _⟩ := h.frm
  simp [World.cell?, h1, frmC]
theorem St.f4 {X : Cx} {w : World} {σ : Sg} (h : St X w σ) : w.cell? ⟨X.F, 4, none⟩ = some (.int .i64 σ.seg) := by
  obtain ⟨fp, h1, _⟩ := h.frm
  simp [World.cell?, h1, frmC]
theorem St.f5 {X : Cx} {w : World} {σ : Sg} (h : St X w σ) : w.cell? ⟨X.F, 5, none⟩ = some (.int .i64 σ.rep) := by
  obtain ⟨fp, h1, _⟩ := h.frm
  simp [World.cell?, h1, frmC]
theorem St.ltF {X : Cx} {w : World} {σ : Sg} (h : St X w σ) : X.F < w.heap.size := by obtain ⟨fp, h1, _⟩ := h.frm; exact heap_lt h1
theorem St.ltS {X : Cx} {w : World} {σ : Sg} (h : St X w σ) : X.S < w.heap.size := heap_lt h.src
theorem St.low {X : Cx} {w : World} {σ : Sg} (h : St X w σ) : X.lo ≤ w.heap.size := by have := h.los; have := h.ltS; omega
theorem St.fresh {X : Cx} {w : World} {σ : Sg} (h : St X w σ) : ¬ X.own w.heap.size := by
  have := h.ltS
  have := h.ltF
  rintro (e | e) <;> omega
/-- A change of a block that is neither the reader's nor the form's nor the fields' nor the bytes'. -/
theorem St.other {X : Cx} {w w' : World} {σ : Sg} {q : Nat} {c : Array Value} {t : TypeId} {fr : Nat × Nat} (h : St X w σ) (k : Kp (fun b => b = q) w w') (hlo : X.lo ≤ q) (hq : w.heap[q]? = some (.cells c t fr)) (ht : t ≠ 198 ∧ t ≠ 203 ∧ t ≠ 294) : St X w' σ := by
  have hS : ¬ X.S = q := fun e => by rw [← e, h.src] at hq; injection hq with hq; injection hq with _ e2; exact ht.1 e2.symm
  obtain ⟨fp, h1, h2⟩ := h.frm
  have hF : ¬ X.F = q := fun e => by rw [← e, h1] at hq; injection hq with hq; injection hq with _ e2; exact ht.2.1 e2.symm
  refine ⟨h.ne, heap_kept h.src k hS, ⟨fp, heap_kept h1 k hF, ?_⟩, fun j hj => ?_, h.bd, h.lt, h.le, h.lL, h.los, h.lof, h.gd⟩
  · cases hf : σ.fl with
    | none => rw [hf] at h2; exact h2
    | some x =>
      obtain ⟨m, n, r⟩ := x
      rw [hf] at h2
      obtain ⟨g, e, hg, hh⟩ := h2
      refine ⟨g, e, hg, heap_kept hh k fun e2 => ?_⟩
      rw [← (show g = q from e2), hh] at hq
      injection hq with hq
      injection hq with _ e3
      exact ht.2.2 e3.symm
  · obtain ⟨b, o, e, hb, hc⟩ := h.byt j hj
    exact ⟨b, o, e, hb, cell_kept hc k (by show ¬ b = q; omega)⟩
def take (X : Cx) (σ : Sg) : Int × Sg :=
  if σ.err ≠ 0 then (0, σ) else if σ.at' = 15 then (0, { σ with err := 62 }) else if σ.at' = X.L then (0, { σ with err := 61 }) else (X.bt σ.at', { σ with at' := σ.at' + 1 })
def refuse (σ : Sg) : Sg := if σ.err = 0 then { σ with err := 60 } else σ
def Done (X : Cx) (w : World) (σ : Sg) (w' : World) : Prop := St X w' σ ∧ Kp X.own w w'
theorem take_bd {w : World} {X : Cx} {σ : Sg} (h : St X w σ) : 0 ≤ (take X σ).1 ∧ (take X σ).1 < 256 := by
  unfold take
  split
  · exact ⟨Int.le_refl _, (by decide : (0 : Int) < 256)⟩
  · split
    · exact ⟨Int.le_refl _, (by decide : (0 : Int) < 256)⟩
    · split
      · exact ⟨Int.le_refl _, (by decide : (0 : Int) < 256)⟩
      · exact h.bd _ (by have := h.lL; omega)
theorem take_ok (w : World) (X : Cx) (σ : Sg) (h : St X w σ) :
    Calls Tryz.prog 86 #[.pointer (some ⟨X.S, 0, none⟩)] w fun e w' => e = .returned (.int .i64 (take X σ).1) ∧ Done X w (take X σ).2 w' := by
  have c0 := h.s0
  have c1 := h.s1
  have c2 := h.s2
  have z1 := h.sf 1
  have z2 := h.sf 2
  have hL := h.lt
  have hl := h.le
  have hlL := h.lL
  obtain ⟨a, ha⟩ : ∃ a, a = σ.at' := ⟨_, rfl⟩
  obtain ⟨er, her⟩ : ∃ er, er = σ.err := ⟨_, rfl⟩
  obtain ⟨L, hLe⟩ : ∃ L, L = X.L := ⟨_, rfl⟩
  rw [← ha] at c1 hl hlL
  rw [← her] at c2
  rw [← hLe] at c0 hL hlL
  have Ha : Hid (a = σ.at') := ha
  have He : Hid (er = σ.err) := her
  have HLe : Hid (L = X.L) := hLe
  clear ha her hLe
  by_cases e0 : er = 0
  · by_cases e1 : (a : Int) = 15
    · have ht : take X σ = (0, { σ with err := 62 }) := by
        unfold take
        rw [if_neg (by rw [← He.out]; simpa using e0), if_pos (by rw [← Ha.out]; omega)]
      rw [ht]
      go_enter Tryz.func86, Tryz.ntmps86
      go_wp2
      go_ret
      exact ⟨rfl, h.setS 2 _ rfl (fun _ => rfl) rfl h.le h.lL ⟨h.gd.op0, h.gd.op1, h.gd.vv, h.gd.fb⟩, Kp.setCell w (Or.inl rfl) _⟩
    · by_cases e2 : (a : Int) = (L : Int)
      · have ht : take X σ = (0, { σ with err := 61 }) := by
          unfold take
          rw [if_neg (by rw [← He.out]; simpa using e0), if_neg (by rw [← Ha.out]; omega), if_pos (by rw [← Ha.out, ← HLe.out]; omega)]
        rw [ht]
        go_enter Tryz.func86, Tryz.ntmps86
        go_wp2
        go_quiet (fail)
        go_wp2
        go_ret
        exact ⟨rfl, (h.drewN _).setS 2 _ rfl (fun _ => rfl) rfl h.le h.lL ⟨h.gd.op0, h.gd.op1, h.gd.vv, h.gd.fb⟩, ((Kp.refl _ w).drewN _).trans (Kp.setCell _ (Or.inl rfl) _)⟩
      · obtain ⟨b, o, hp, hb, hc⟩ := h.byt a (by have := HLe.out; omega)
        have hbS : ¬ b = X.S := fun e => h.notown hb (Or.inl e)
        have hbS' : ¬ X.S = b := fun e => h.notown hb (Or.inl e.symm)
        obtain ⟨y, hy⟩ : ∃ y, y = X.bt a := ⟨_, rfl⟩
        have ht : take X σ = (y, { σ with at' := a + 1 }) := by
          unfold take
          rw [if_neg (by rw [← He.out]; simpa using e0), if_neg (by rw [← Ha.out]; omega), if_neg (by rw [← Ha.out, ← HLe.out]; omega), ← Ha.out, hy]
        rw [← hy] at hc
        have hyb := h.bd a (by have := HLe.out; omega)
        rw [← hy] at hyb
        obtain ⟨y0, y1⟩ := hyb
        clear hy
        rw [hp] at c0
        have i0 : 0 ≤ (a : Int) := by omega
        have i1 : (a : Int) < (L : Int) := by omega
        have hw : IntKind.i64.wrap (a : Int) = a := IntWalk.i64_in _ ⟨by omega, by omega⟩
        have hlast : ∀ n m : Nat, Done X w { σ with at' := a + 1 } (((w.drewN n).setCell ⟨X.S, 1, none⟩ (.int .i64 ((a : Int) + 1))).drewN m) := fun n m => by
          refine ⟨((h.drewN n).setS (σ' := { σ with at' := a + 1 }) 1 _ ?_ (fun _ => rfl) rfl (by show a + 1 ≤ 15; omega) (by show a + 1 ≤ X.L; have := HLe.out; omega) ⟨h.gd.op0, h.gd.op1, h.gd.vv, h.gd.fb⟩).drewN m, (((Kp.refl _ w).drewN n).trans (Kp.setCell _ (Or.inl rfl) _)).drewN m⟩
          rfl
        have Hlast : Hid (∀ n m : Nat, Done X w { σ with at' := a + 1 } (((w.drewN n).setCell ⟨X.S, 1, none⟩ (.int .i64 ((a : Int) + 1))).drewN m)) := hlast
        clear hlast
        rw [ht]
        go_enter Tryz.func86, Tryz.ntmps86
        go_wp2
        go_quiet (fail)
        go_wp2
        go_quiet (fail)
        go_wp2
        go_ret
        exact ⟨rfl, Hlast.out _ _⟩
  · have e0' : (er != 0) = true := by simpa using e0
    have ht : take X σ = (0, σ) := by
      unfold take
      rw [if_pos (by rw [← He.out]; exact e0)]
    rw [ht]
    go_enter Tryz.func86, Tryz.ntmps86
    go_wp2
    go_ret
    exact ⟨rfl, h, Kp.refl _ _⟩
theorem refuse_ok (w : World) (X : Cx) (σ : Sg) (h : St X w σ) :
    Calls Tryz.prog 87 #[.pointer (some ⟨X.S, 0, none⟩)] w fun e w' => e = .returned (.tuple #[]) ∧ Done X w (refuse σ) w' := by
  have c2 := h.s2
  have z2 := h.sf 2
  obtain ⟨er, her⟩ : ∃ er, er = σ.err := ⟨_, rfl⟩
  rw [← her] at c2
  have He : Hid (er = σ.err) := her
  clear her
  by_cases e0 : er = 0
  · have ht : refuse σ = { σ with err := 60 } := by unfold refuse; rw [if_pos (by rw [← He.out]; exact e0)]
    rw [ht]
    go_enter Tryz.func87, Tryz.ntmps87
    go_wp2
    go_end0
    exact ⟨rfl, h.setS 2 _ rfl (fun _ => rfl) rfl h.le h.lL ⟨h.gd.op0, h.gd.op1, h.gd.vv, h.gd.fb⟩, Kp.setCell w (Or.inl rfl) _⟩
  · have ht : refuse σ = σ := by unfold refuse; rw [if_neg (by rw [← He.out]; exact e0)]
    rw [ht]
    go_enter Tryz.func87, Tryz.ntmps87
    go_wp2
    go_end0
    exact ⟨rfl, h, Kp.refl _ _⟩
end Go.Proofs.YtiagfmkinefidaaGreat.Dc
namespace Go.Proofs.YtiagfmkinefidaaGreat.Dc
open Go.ChangeShapes Go.WideShapes Go.ChangeAt Go.RowKit
set_option linter.unusedVariables false
set_option maxRecDepth 20000
def noB (_ : Nat) : Prop := False
theorem Kp.any {S : Nat → Prop} {w w' : World} (h : Kp noB w w') : Kp S w w' := h.mono fun _ _ f => f.elim
theorem St.no {X : Cx} {w w' : World} {σ : Sg} (h : St X w σ) (k : Kp noB w w') : St X w' σ := h.kp k
theorem and7 (n : Int) : bits .and .i64 n 7 = n % 8 := by
  have h7 : (BitVec.ofInt 64 7).toNat = 2 ^ 3 - 1 := by decide
  have key : (BitVec.ofInt 64 n &&& BitVec.ofInt 64 7).toNat = (n % ((2 ^ 64 : Nat) : Int)).toNat % 2 ^ 3 := by
    rw [BitVec.toNat_and, BitVec.toNat_ofInt, h7, Nat.and_two_pow_sub_one_eq_mod]
  show IntKind.i64.wrap ((BitVec.ofInt 64 n &&& BitVec.ofInt 64 7).toNat : Nat) = n % 8
  rw [key, IntKind.wrap_i64]
  omega
theorem and15 (n : Int) : bits .and .i64 n 15 = n % 16 := by
  have h7 : (BitVec.ofInt 64 15).toNat = 2 ^ 4 - 1 := by decide
  have key : (BitVec.ofInt 64 n &&& BitVec.ofInt 64 15).toNat = (n % ((2 ^ 64 : Nat) : Int)).toNat % 2 ^ 4 := by
    rw [BitVec.toNat_and, BitVec.toNat_ofInt, h7, Nat.and_two_pow_sub_one_eq_mod]
  show IntKind.i64.wrap ((BitVec.ofInt 64 n &&& BitVec.ofInt 64 15).toNat : Nat) = n % 16
  rw [key, IntKind.wrap_i64]
  omega
def regO (r s : Int) : Opd := { Opd.zero with kind := 1, reg := r, size := s }
def numO (n : Int) : Opd := { Opd.zero with kind := 3, imm := n }
def segO (r : Int) : Opd := { Opd.zero with kind := 4, reg := r }
def memO (g s : Int) : Opd := { Opd.zero with kind := 2, size := s, seg := if g = -1 then 3 else g, base := -1, index := -1, scale := 1 }
theorem register_ok (w : World) (r s : Int) :
    Calls Tryz.prog 450 #[.int .i64 r, .int .i64 s] w fun e w' => e = .returned (.agg (regO r s).vals) ∧ Kp noB w w' := by
  go_enter Tryz.func450, Tryz.ntmps450
  go_wp2
  exact bodyPost_ret (v := .agg (regO r s).vals) (by simp [results, Tryz.results450, go_sem, regO, Opd.zero, Opd.vals]) rfl ⟨rfl, Kp.alloc _ _ _⟩
theorem number_ok (w : World) (n : Int) :
    Calls Tryz.prog 455 #[.int .u32 n] w fun e w' => e = .returned (.agg (numO n).vals) ∧ Kp noB w w' := by
  go_enter Tryz.func455, Tryz.ntmps455
  go_wp2
  exact bodyPost_ret (v := .agg (numO n).vals) (by simp [results, Tryz.results455, go_sem, numO, Opd.zero, Opd.vals]) rfl ⟨rfl, Kp.alloc _ _ _⟩
theorem segment_ok (w : World) (r : Int) :
    Calls Tryz.prog 243 #[.int .i64 r] w fun e w' => e = .returned (.func (.func 456) #[] #[.pointer (some ⟨w.heap.size, 0, none⟩)]) ∧ w' = w.alloc (.cells #[.int .i64 r] 3) := by
  go_enter Tryz.func243, Tryz.ntmps243
  go_wp2
  go_ret
  exact ⟨rfl, rfl⟩
theorem constant_ok (w : World) (r : Int) :
    Calls Tryz.prog 320 #[.int .u32 r] w fun e w' => e = .returned (.func (.func 462) #[] #[.pointer (some ⟨w.heap.size, 0, none⟩)]) ∧ w' = w.alloc (.cells #[.int .u32 r] 23) := by
  go_enter Tryz.func320, Tryz.ntmps320
  go_wp2
  go_ret
  exact ⟨rfl, rfl⟩
theorem segment1_ok (w : World) (f : Value) (s r : Int) (q : Nat) (hq : w.cell? ⟨q, 0, none⟩ = some (.int .i64 r)) :
    Calls Tryz.prog 456 #[f, .int .i64 s, .pointer (some ⟨q, 0, none⟩)] w fun e w' => e = .returned (.agg (segO r).vals) ∧ Kp noB w w' := by
  have hqs := cell_lt hq
  go_enter Tryz.func456, Tryz.ntmps456
  go_wp2
  exact bodyPost_ret (v := .agg (segO r).vals) (by simp [results, Tryz.results456, go_sem, segO, Opd.zero, Opd.vals]) rfl ⟨rfl, Kp.alloc _ _ _⟩
theorem new_res {S : Nat → Prop} {w w1 : World} (k : Kp S (w.alloc (.cells Opd.zero.vals 38)) w1) (hS : ¬ S w.heap.size) : w.heap.size < w1.heap.size ∧ w1.heap[w.heap.size]? = some (.cells Opd.zero.vals 38 (0, 0)) := by
  have h := (MapKept.heap_alloc w (.cells Opd.zero.vals 38)).1
  have h1 := heap_kept h k hS
  exact ⟨heap_lt h1, h1⟩
theorem res_fz {w : World} {q : Nat} {o : Opd} (h : w.heap[q]? = some (.cells o.vals 38 (0, 0))) (j : Nat) : w.frozen? ⟨q, j, none⟩ = false := by simp [World.frozen?, h]
theorem vals_size (o : Opd) : o.vals.size = 9 := rfl
theorem put_res {w : World} {q : Nat} {o0 : Opd} (h : w.heap[q]? = some (.cells o0.vals 38 (0, 0))) (o : Opd) : (storeCells ⟨q, 0, none⟩ o.vals.toList).run Tryz.prog w = .ok () (w.setRow q o.vals) := by
  have e := run_storeCells_at Tryz.prog q 0 38 o.vals.toList 0 o0.vals w h (Nat.le_refl 9) (by simp [Opd.vals, Value.oneCell'])
  rw [e]
  congr 2
theorem got_res {w : World} {q : Nat} {o0 : Opd} (h : w.heap[q]? = some (.cells o0.vals 38 (0, 0))) (o : Opd) : (w.setRow q o.vals).heap[q]? = some (.cells o.vals 38 (0, 0)) := setRow_heap w q _ _ _ _ h
theorem res_cells {w : World} {q : Nat} {o : Opd} (h : w.heap[q]? = some (.cells o.vals 38 (0, 0))) : w.cell? ⟨q, 0, none⟩ = some (.int .i64 o.kind) ∧ w.cell? ⟨q, 1, none⟩ = some (.int .i64 o.reg) ∧ w.cell? ⟨q, 2, none⟩ = some (.int .i64 o.size) ∧ w.cell? ⟨q, 3, none⟩ = some (.int .i64 o.seg) ∧ w.cell? ⟨q, 4, none⟩ = some (.int .i64 o.base) ∧ w.cell? ⟨q, 5, none⟩ = some (.int .i64 o.index) ∧ w.cell? ⟨q, 6, none⟩ = some (.int .i64 o.scale) ∧ w.cell? ⟨q, 7, none⟩ = some (.int .u32 o.disp) ∧ w.cell? ⟨q, 8, none⟩ = some (.int .u32 o.imm) := by
  refine ⟨?_, ?_, ?_, ?_, ?_, ?_, ?_, ?_, ?_⟩ <;> simp [World.cell?, h, Opd.vals]
theorem Kp.setRow {S : Nat → Prop} (w : World) {g : Nat} (hp : S g) (cs : Array Value) : Kp S w (w.setRow g cs) :=
  ⟨rfl, rfl, rfl, by simp [World.setRow], fun k hk hs => setRow_other w g k cs (fun e => hs (e ▸ hp))⟩
/-- What happened since the result's own block was made. -/
theorem res_kp {S : Nat → Prop} {w w1 : World} {c : Array Value} (k : Kp S (w.alloc (.cells c 38)) w1) (cs : Array Value) : Kp S w (w1.setRow w.heap.size cs) := by
  refine ⟨k.os, k.tape, k.output, ?_, fun i hi hs => ?_⟩
  · have := k.size
    simp at this ⊢
    omega
  · rw [setRow_other _ _ _ _ (by omega), k.block i (by simp; omega) hs]
    exact Below.heap_alloc _ _ _ hi
theorem constant1_ok (w : World) (f : Value) (s r : Int) (q : Nat) (hq : w.cell? ⟨q, 0, none⟩ = some (.int .u32 r)) :
    Calls Tryz.prog 462 #[f, .int .i64 s, .pointer (some ⟨q, 0, none⟩)] w fun e w' => e = .returned (.agg (numO r).vals) ∧ Kp noB w w' := by
  have hqs := cell_lt hq
  go_enter Tryz.func462, Tryz.ntmps462
  go_wp2_with fail
  refine (number_ok _ _).mono ?_; rintro e w1 ⟨rfl, k1⟩
  obtain ⟨hq0, hb0⟩ := new_res k1 id
  have hst := put_res hb0 (numO r)
  have hsz := vals_size (numO r)
  have hb1 := got_res hb0 (numO r)
  obtain ⟨r0, r1, r2, r3, r4, r5, r6, r7, r8⟩ := res_cells hb1
  have hk := res_kp k1 (numO r).vals
  go_wp2
  exact bodyPost_ret (v := .agg (numO r).vals) (by simp [results, Tryz.results462, go_sem, r0, r1, r2, r3, r4, r5, r6, r7, r8]; rfl) rfl ⟨rfl, hk⟩
theorem n_ok (w : World) (X : Cx) (σ : Sg) (h : St X w σ) :
    Calls Tryz.prog 232 #[.pointer (some ⟨X.F, 0, none⟩)] w fun e w' => e = .returned (.int .i64 (σ.op / 8 % 8)) ∧ w' = w := by
  have c2 := h.f2
  have h0 := h.gd.op0
  have h1 := h.gd.op1
  go_enter Tryz.func232, Tryz.ntmps232
  go_wp2
  go_ret
  exact ⟨ret_int (and7 _), rfl⟩
theorem r_ok (w : World) (X : Cx) (σ : Sg) (h : St X w σ) :
    Calls Tryz.prog 457 #[.pointer (some ⟨X.F, 0, none⟩)] w fun e w' => e = .returned (.int .i64 (σ.op % 8)) ∧ w' = w := by
  have c2 := h.f2
  have h0 := h.gd.op0
  have h1 := h.gd.op1
  go_enter Tryz.func457, Tryz.ntmps457
  go_wp2
  go_ret
  exact ⟨ret_int (and7 _), rfl⟩
theorem c_ok (w : World) (X : Cx) (σ : Sg) (h : St X w σ) :
    Calls Tryz.prog 267 #[.pointer (some ⟨X.F, 0, none⟩)] w fun e w' => e = .returned (.int .i64 (σ.op % 16)) ∧ w' = w := by
  have c2 := h.f2
  have h0 := h.gd.op0
  have h1 := h.gd.op1
  go_enter Tryz.func267, Tryz.ntmps267
  go_wp2
  go_ret
  exact ⟨ret_int (and15 _), rfl⟩
theorem memory_ok (w : World) (X : Cx) (σ : Sg) (h : St X w σ) (s : Int) :
    Calls Tryz.prog 451 #[.pointer (some ⟨X.F, 0, none⟩), .int .i64 s] w fun e w' => e = .returned (.agg (memO σ.seg s).vals) ∧ Kp noB w w' := by
  have c4 := h.f4
  have hF := h.ltF
  by_cases hs : σ.seg = -1
  · have hm : memO σ.seg s = memO (-1) s := by rw [hs]
    rw [hm]
    go_enter Tryz.func451, Tryz.ntmps451
    go_wp2
    exact bodyPost_ret (v := .agg (memO (-1) s).vals) (by simp [results, Tryz.results451, go_sem, memO, Opd.zero, Opd.vals]) rfl ⟨rfl, Kp.alloc _ _ _⟩
  · go_enter Tryz.func451, Tryz.ntmps451
    go_wp2
    exact bodyPost_ret (v := .agg (memO σ.seg s).vals) (by simp [results, Tryz.results451, go_sem, memO, Opd.zero, Opd.vals, hs]) rfl ⟨rfl, Kp.alloc _ _ _⟩
def isPre (b : Int) : Bool := b == 0x26 || b == 0x2E || b == 0x36 || b == 0x3E || b == 0x64 || b == 0x65 || b == 0x66 || b == 0xF2 || b == 0xF3
def preS (b : Int) (σ : Sg) : Sg :=
  if b = 0x26 then { σ with seg := 0 } else if b = 0x2E then { σ with seg := 1 } else if b = 0x36 then { σ with seg := 2 } else if b = 0x3E then { σ with seg := 3 } else if b = 0x64 then { σ with seg := 4 } else if b = 0x65 then { σ with seg := 5 } else if b = 0x66 then { σ with v := 2 } else if b = 0xF2 then { σ with rep := 2 } else if b = 0xF3 then { σ with rep := 1 } else σ
theorem prefix_ok (w : World) (X : Cx) (σ : Sg) (h : St X w σ) (b : Int) :
    Calls Tryz.prog 133 #[.pointer (some ⟨X.F, 0, none⟩), .int .i64 b] w fun e w' => e = .returned (.bool (isPre b)) ∧ Done X w (preS b σ) w' := by
  have c3 := h.f3
  have c4 := h.f4
  have c5 := h.f5
  have z3 := h.ff 3
  have z4 := h.ff 4
  have z5 := h.ff 5
  have hv : ∀ g : Int, (g = 2 ∨ g = 4) → Done X w { σ with v := g } (w.setCell ⟨X.F, 3, none⟩ (.int .i64 g)) := fun g hg => ⟨h.setF 3 _ (fun _ => rfl) rfl rfl rfl ⟨h.gd.op0, h.gd.op1, hg, h.gd.fb⟩, Kp.setCell w (Or.inr rfl) _⟩
  have hs : ∀ g : Int, Done X w { σ with seg := g } (w.setCell ⟨X.F, 4, none⟩ (.int .i64 g)) := fun g => ⟨h.setF 4 _ (fun _ => rfl) rfl rfl rfl ⟨h.gd.op0, h.gd.op1, h.gd.vv, h.gd.fb⟩, Kp.setCell w (Or.inr rfl) _⟩
  have hr : ∀ g : Int, Done X w { σ with rep := g } (w.setCell ⟨X.F, 5, none⟩ (.int .i64 g)) := fun g => ⟨h.setF 5 _ (fun _ => rfl) rfl rfl rfl ⟨h.gd.op0, h.gd.op1, h.gd.vv, h.gd.fb⟩, Kp.setCell w (Or.inr rfl) _⟩
  have h0 : Done X w σ w := ⟨h, Kp.refl _ _⟩
  obtain ⟨T, hT⟩ : ∃ T, T = isPre b := ⟨_, rfl⟩
  obtain ⟨σ', hσ⟩ : ∃ σ', σ' = preS b σ := ⟨_, rfl⟩
  rw [← hT, ← hσ]
  have HT : Hid (T = isPre b) := hT
  have Hσ : Hid (σ' = preS b σ) := hσ
  have Hv : Hid _ := hv
  have Hs : Hid _ := hs
  have Hr : Hid _ := hr
  have H0 : Hid _ := h0
  clear hT hσ hv hs hr h0
  go_enter Tryz.func133, Tryz.ntmps133
  go_wp2
  all_goals go_ret
  all_goals
    rw [HT.out, Hσ.out]
    subst_vars
    first
      | exact ⟨rfl, Hs.out _⟩
      | exact ⟨rfl, Hv.out _ (Or.inl rfl)⟩
      | exact ⟨rfl, Hr.out _⟩
      | (simp only [beq_iff_eq] at *; subst_vars; first | exact ⟨rfl, Hs.out _⟩ | exact ⟨rfl, Hv.out _ (Or.inl rfl)⟩ | exact ⟨rfl, Hr.out _⟩)
      | (have e1 : isPre b = false := by simp_all [isPre]
         have e2 : preS b σ = σ := by simp_all [preS]
         rw [e1, e2]; exact ⟨rfl, H0.out⟩)
end Go.Proofs.YtiagfmkinefidaaGreat.Dc
namespace Go.Proofs.YtiagfmkinefidaaGreat.Dc
open Go.ChangeShapes Go.WideShapes Go.ChangeAt Go.RowKit
set_option linter.unusedVariables false
set_option maxRecDepth 20000
def modrm (X : Cx) (σ : Sg) : (Int × Int × Int) × Sg :=
  match σ.fl with
  | some x => (x, σ)
  | none => (((take X σ).1 / 64, (take X σ).1 / 8 % 8, (take X σ).1 % 8), { (take X σ).2 with fl := some ((take X σ).1 / 64, (take X σ).1 / 8 % 8, (take X σ).1 % 8) })
theorem modrm_bd {w : World} {X : Cx} {σ : Sg} (h : St X w σ) : (0 ≤ (modrm X σ).1.1 ∧ (modrm X σ).1.1 < 4) ∧ (0 ≤ (modrm X σ).1.2.1 ∧ (modrm X σ).1.2.1 < 8) ∧ 0 ≤ (modrm X σ).1.2.2 ∧ (modrm X σ).1.2.2 < 8 := by
  unfold modrm
  split
  · rename_i x hx
    obtain ⟨m, n, r⟩ := x
    exact h.gd.fb m n r hx
  · have := take_bd h
    refine ⟨⟨?_, ?_⟩, ⟨?_, ?_⟩, ?_, ?_⟩ <;> simp only <;> omega
def mrV (x : Int × Int × Int) : Array Value := #[.int .i64 x.1, .int .i64 x.2.1, .int .i64 x.2.2]
theorem St.mr {X : Cx} {w : World} {σ : Sg} (h : St X w σ) (q : Nat) (hlo : X.lo ≤ q) (hq : ¬ X.own q) (hql : q < w.heap.size) (x y z : Value) (m n r : Int) (b : (0 ≤ m ∧ m < 4) ∧ (0 ≤ n ∧ n < 8) ∧ 0 ≤ r ∧ r < 8) :
    St X (((((w.setCell ⟨X.F, 6, none⟩ (.pointer (some ⟨w.heap.size, 0, none⟩))).setCell ⟨q, 0, none⟩ x).setCell ⟨q, 1, none⟩ y).setCell ⟨q, 2, none⟩ z).alloc (.cells #[.int .i64 m, .int .i64 n, .int .i64 r] 294)) { σ with fl := some (m, n, r) } := by
  obtain ⟨w1, hw1⟩ : ∃ w1, w1 = w.setCell ⟨X.F, 6, none⟩ (.pointer (some ⟨w.heap.size, 0, none⟩)) := ⟨_, rfl⟩
  have k1 : Kp (fun b => b = X.F) w w1 := by rw [hw1]; exact Kp.setCell (S := fun b => b = X.F) w rfl _
  have s1 : w1.heap.size = w.heap.size := by rw [hw1]; simp [World.setCell]
  obtain ⟨fp, hf, h2⟩ := h.frm
  have f1 : w1.heap[X.F]? = some (.cells (frmC X { σ with fl := some (m, n, r) } (.pointer (some ⟨w.heap.size, 0, none⟩))) 203 (0, 0)) := by rw [hw1, heap_set hf]; rfl
  rw [← hw1]
  obtain ⟨w2, hw2⟩ : ∃ w2, w2 = ((w1.setCell ⟨q, 0, none⟩ x).setCell ⟨q, 1, none⟩ y).setCell ⟨q, 2, none⟩ z := ⟨_, rfl⟩
  have k2 : Kp (fun b => b = q) w1 w2 := by
    rw [hw2]
    have a := Kp.setCell (S := fun b => b = q) w1 (p := ⟨q, 0, none⟩) rfl x
    have b := Kp.setCell (S := fun b => b = q) (w1.setCell ⟨q, 0, none⟩ x) (p := ⟨q, 1, none⟩) rfl y
    have c := Kp.setCell (S := fun b => b = q) ((w1.setCell ⟨q, 0, none⟩ x).setCell ⟨q, 1, none⟩ y) (p := ⟨q, 2, none⟩) rfl z
    exact (a.trans b).trans c
  have s2 : w2.heap.size = w.heap.size := by rw [hw2, ← s1]; simp [World.setCell]
  rw [← hw2]
  clear hw1 hw2
  have hS : ¬ X.S = q := fun e => hq (Or.inl e.symm)
  have hF : ¬ X.F = q := fun e => hq (Or.inr e.symm)
  have k3 : Kp (fun b => b = X.F ∨ b = q) w (w2.alloc (.cells #[.int .i64 m, .int .i64 n, .int .i64 r] 294)) :=
    ((k1.mono fun _ _ e => Or.inl e).trans (k2.mono fun _ _ e => Or.inr e)).trans (Kp.alloc _ _ _)
  have hn := (MapKept.heap_alloc w2 (.cells #[.int .i64 m, .int .i64 n, .int .i64 r] 294)).1
  rw [s2] at hn
  refine ⟨h.ne, heap_kept h.src k3 ?_, ⟨_, heap_kept (heap_kept f1 k2 hF) (Kp.alloc (fun _ => False) _ _) id, w.heap.size, rfl, h.fresh, hn⟩, fun j hj => ?_, h.bd, h.lt, h.le, h.lL, h.los, h.lof, ⟨h.gd.op0, h.gd.op1, h.gd.vv, ?_⟩⟩
  · rintro (e | e)
    · exact h.ne e
    · exact hS e
  · obtain ⟨b', o, e, hb, hc⟩ := h.byt j hj
    refine ⟨b', o, e, hb, cell_kept hc k3 ?_⟩
    have := h.lof
    rintro (e | e) <;> omega
  · rintro m' n' r' e
    injection e with e
    injection e with e1 e
    injection e with e2 e3
    subst e1 e2 e3
    exact b
theorem Kp.mr (X : Cx) (w : World) (q : Nat) (p x y z : Value) (o : Obj) : Kp (fun b => b = X.F ∨ b = q) w (((((w.setCell ⟨X.F, 6, none⟩ p).setCell ⟨q, 0, none⟩ x).setCell ⟨q, 1, none⟩ y).setCell ⟨q, 2, none⟩ z).alloc o) := by
  have a := Kp.setCell (S := fun b => b = X.F ∨ b = q) w (p := ⟨X.F, 6, none⟩) (Or.inl rfl) p
  generalize w.setCell ⟨X.F, 6, none⟩ p = w1 at *
  have b := Kp.setCell (S := fun b => b = X.F ∨ b = q) w1 (p := ⟨q, 0, none⟩) (Or.inr rfl) x
  generalize w1.setCell ⟨q, 0, none⟩ x = w2 at *
  have c := Kp.setCell (S := fun b => b = X.F ∨ b = q) w2 (p := ⟨q, 1, none⟩) (Or.inr rfl) y
  generalize w2.setCell ⟨q, 1, none⟩ y = w3 at *
  have d := Kp.setCell (S := fun b => b = X.F ∨ b = q) w3 (p := ⟨q, 2, none⟩) (Or.inr rfl) z
  generalize w3.setCell ⟨q, 2, none⟩ z = w4 at *
  exact (((a.trans b).trans c).trans d).trans (Kp.alloc _ _ _)
set_option maxHeartbeats 1000000 in
theorem modrm_ok (w : World) (X : Cx) (σ : Sg) (h : St X w σ) :
    Calls Tryz.prog 270 #[.pointer (some ⟨X.F, 0, none⟩)] w fun e w' => e = .returned (.agg (mrV (modrm X σ).1)) ∧ Done X w (modrm X σ).2 w' := by
  have c0 := h.f0
  have hF := h.ltF
  have hz := h.ff 6
  obtain ⟨fp, h1, h2⟩ := h.frm
  have c6 : w.cell? ⟨X.F, 6, none⟩ = some fp := by simp [World.cell?, h1, frmC]
  cases hf : σ.fl with
  | some x =>
    have e1 : modrm X σ = (x, σ) := by unfold modrm; rw [hf]
    rw [hf] at h2
    obtain ⟨m, n, r⟩ := x
    obtain ⟨q, rfl, hq, hh⟩ := h2
    have hqs := heap_lt hh
    have d0 : w.cell? ⟨q, 0, none⟩ = some (.int .i64 m) := by simp [World.cell?, hh]
    have d1 : w.cell? ⟨q, 1, none⟩ = some (.int .i64 n) := by simp [World.cell?, hh]
    have d2 : w.cell? ⟨q, 2, none⟩ = some (.int .i64 r) := by simp [World.cell?, hh]
    rw [e1]
    have hd : ∀ o, Done X w σ (w.alloc o) := fun o => ⟨h.alloc o, Kp.alloc _ _ _⟩
    clear hh hq h1 e1 h
    go_enter Tryz.func270, Tryz.ntmps270
    go_wp2
    exact bodyPost_ret (v := .agg (mrV (m, n, r))) (by simp [results, Tryz.results270, go_sem, mrV]) rfl ⟨rfl, hd _⟩
  | none =>
    rw [hf] at h2
    cases h2
    have hw0 : St X (w.alloc (.cells #[.int .i64 0, .int .i64 0, .int .i64 0] 294)) σ := h.alloc _
    have cT := take_ok _ X σ hw0
    have hbd := take_bd h
    have hlow := h.low
    have hfre := h.fresh
    obtain ⟨b, hb⟩ : ∃ b, b = (take X σ).1 := ⟨_, rfl⟩
    obtain ⟨σ1, hσ1⟩ : ∃ σ1, σ1 = (take X σ).2 := ⟨_, rfl⟩
    have e1 : modrm X σ = ((b / 64, b / 8 % 8, b % 8), { σ1 with fl := some (b / 64, b / 8 % 8, b % 8) }) := by unfold modrm; rw [hf, hb, hσ1]
    rw [e1]
    rw [← hb] at hbd cT
    rw [← hσ1] at cT
    obtain ⟨b0, b1⟩ := hbd
    clear e1 hb hw0 h1
    go_enter Tryz.func270, Tryz.ntmps270
    go_wp2_with fail
    refine cT.mono ?_; rintro e w1 ⟨rfl, hst, k1⟩
    have hnew := heap_kept (MapKept.heap_alloc w (.cells #[.int .i64 0, .int .i64 0, .int .i64 0] 294)).1 k1 hfre
    have hnl := heap_lt hnew
    have d0 : w1.cell? ⟨w.heap.size, 0, none⟩ = some (.int .i64 0) := by simp [World.cell?, hnew]
    have d1 : w1.cell? ⟨w.heap.size, 1, none⟩ = some (.int .i64 0) := by simp [World.cell?, hnew]
    have d2 : w1.cell? ⟨w.heap.size, 2, none⟩ = some (.int .i64 0) := by simp [World.cell?, hnew]
    have dz : ∀ j, w1.frozen? ⟨w.heap.size, j, none⟩ = false := fun j => by simp [World.frozen?, hnew]
    have dz0 := dz 0
    have dz1 := dz 1
    have dz2 := dz 2
    have g6 : ∃ v, w1.cell? ⟨X.F, 6, none⟩ = some v := by obtain ⟨fp, g, _⟩ := hst.frm; exact ⟨_, by simp [World.cell?, g, frmC]; rfl⟩
    obtain ⟨v6, g6⟩ := g6
    have gz := hst.ff 6
    have hF1 := hst.ltF
    have hne : ¬ X.F = w.heap.size := by omega
    have hne' : ¬ w.heap.size = X.F := by omega
    have q0 : bits .and .i64 (b / 8) 7 = b / 8 % 8 := and7 _
    have q1 : bits .and .i64 b 7 = b % 8 := and7 _
    have hfin : Done X w { σ1 with fl := some (b / 64, b / 8 % 8, b % 8) } (((((w1.setCell ⟨X.F, 6, none⟩ (.pointer (some ⟨w1.heap.size, 0, none⟩))).setCell ⟨w.heap.size, 0, none⟩ (.int .i64 (b / 64))).setCell ⟨w.heap.size, 1, none⟩ (.int .i64 (b / 8 % 8))).setCell ⟨w.heap.size, 2, none⟩ (.int .i64 (b % 8))).alloc (.cells #[.int .i64 (b / 64), .int .i64 (b / 8 % 8), .int .i64 (b % 8)] 294)) := by
      refine ⟨hst.mr w.heap.size hlow hfre hnl _ _ _ _ _ _ ⟨⟨by omega, by omega⟩, ⟨by omega, by omega⟩, by omega, by omega⟩, ?_⟩
      refine ⟨k1.os, k1.tape, k1.output, ?_, fun i hi hs => ?_⟩
      · have := k1.size
        simp [World.setCell] at this ⊢
        omega
      · have hi' : i < w1.heap.size := by omega
        have ka := Kp.mr X w1 w.heap.size (.pointer (some ⟨w1.heap.size, 0, none⟩)) (.int .i64 (b / 64)) (.int .i64 (b / 8 % 8)) (.int .i64 (b % 8)) (.cells #[.int .i64 (b / 64), .int .i64 (b / 8 % 8), .int .i64 (b % 8)] 294)
        rw [ka.block i hi' (by rintro (e | e); exact hs (Or.inr e); omega), k1.block i (by simp; omega) hs]
        exact Below.heap_alloc _ _ _ hi
    have Hfin : Hid _ := hfin
    clear hfin hst hnew k1
    go_wp2
    exact bodyPost_ret (v := .agg (mrV (b / 64, b / 8 % 8, b % 8))) (by simp [results, Tryz.results270, go_sem, mrV, d0, d1, d2, hnl]) rfl ⟨rfl, Hfin.out⟩
def sibM (X : Cx) (σ : Sg) : (Int × Int × Int) × Sg :=
  let b := (take X σ).1
  (if b / 8 % 8 = 4 then (b % 8, -1, 1) else (b % 8, b / 8 % 8, 2 ^ (b / 64).toNat), (take X σ).2)
theorem shl1 (b : Int) (h0 : 0 ≤ b) (h1 : b < 256) : b / 64 = 0 ∨ b / 64 = 1 ∨ b / 64 = 2 ∨ b / 64 = 3 := by omega
set_option maxHeartbeats 1000000 in
theorem sib_ok (w : World) (X : Cx) (σ : Sg) (h : St X w σ) :
    Calls Tryz.prog 452 #[.pointer (some ⟨X.F, 0, none⟩)] w fun e w' => e = .returned (.tuple #[.int .i64 (sibM X σ).1.1, .int .i64 (sibM X σ).1.2.1, .int .i64 (sibM X σ).1.2.2]) ∧ Done X w (sibM X σ).2 w' := by
  have c0 := h.f0
  have cT := take_ok w X σ h
  have hbd := take_bd h
  have e1 : sibM X σ = (if (take X σ).1 / 8 % 8 = 4 then ((take X σ).1 % 8, -1, 1) else ((take X σ).1 % 8, (take X σ).1 / 8 % 8, 2 ^ ((take X σ).1 / 64).toNat), (take X σ).2) := rfl
  rw [e1]
  generalize (take X σ).1 = b at *
  generalize (take X σ).2 = σ1 at *
  obtain ⟨b0, b1⟩ := hbd
  have q0 : bits .and .i64 (b / 8) 7 = b / 8 % 8 := and7 _
  have q1 : bits .and .i64 b 7 = b % 8 := and7 _
  clear e1
  rcases shl1 b b0 b1 with hs | hs | hs | hs
  all_goals
    by_cases h4 : b / 8 % 8 = 4
    all_goals
      first | rw [if_pos h4] | rw [if_neg h4]
      go_enter Tryz.func452, Tryz.ntmps452
      go_wp2_with fail
      refine cT.mono ?_; rintro e w1 ⟨rfl, hd⟩
      have hd' : ∀ n, Done X w σ1 (w1.drewN n) := fun n => ⟨hd.1.drewN n, hd.2.drewN n⟩
      have Hd : Hid _ := hd'
      clear hd hd' cT
      go_wp2
      go_quiet (fail)
      go_wp2
      go_ret3
      refine ⟨?_, Hd.out _⟩
      simp [*]
end Go.Proofs.YtiagfmkinefidaaGreat.Dc
namespace Go.Proofs.YtiagfmkinefidaaGreat.Dc
open Go.ChangeShapes Go.WideShapes Go.ChangeAt Go.RowKit
set_option linter.unusedVariables false
set_option maxRecDepth 20000
def numM (X : Cx) : Nat → Nat → Int → Sg → Int × Sg
  | 0, _, n, σ => (n, σ)
  | k + 1, i, n, σ => numM X k (i + 1) (n + (take X σ).1 * 256 ^ i) (take X σ).2
def bytesM (X : Cx) (s : Int) (σ : Sg) : Int × Sg := numM X s.toNat 0 0 σ
theorem or_up (n b : Int) (i : Nat) (hi : i ≤ 3) (n0 : 0 ≤ n) (n1 : n < 256 ^ i) (b0 : 0 ≤ b) (b1 : b < 256) : bits .or .u32 n (b * 256 ^ i) = n + b * 256 ^ i ∧ n + b * 256 ^ i < 256 ^ (i + 1) ∧ 0 ≤ n + b * 256 ^ i := by
  obtain ⟨m, rfl⟩ : ∃ m : Nat, n = m := ⟨n.toNat, by omega⟩
  obtain ⟨c, rfl⟩ : ∃ c : Nat, b = c := ⟨b.toNat, by omega⟩
  have hc : c < 256 := by omega
  have key : ∀ k P : Nat, P = 2 ^ k → m < P → c * P < 4294967296 → P ≤ 4294967296 → bits .or .u32 (m : Int) ((c * P : Nat) : Int) = ((m + c * P : Nat) : Int) := fun k P hP hm hb hP2 => by
    rw [u32_or m _ (by omega) (by omega) (by omega) (by omega), Int.toNat_natCast, Int.toNat_natCast]
    have e := Nat.shiftLeft_add_eq_or_of_lt (b := m) (i := k) (by omega) c
    rw [Nat.shiftLeft_eq, ← hP] at e
    rw [Nat.or_comm, ← e, Nat.add_comm]
  rcases (by omega : i = 0 ∨ i = 1 ∨ i = 2 ∨ i = 3) with rfl | rfl | rfl | rfl
  · have := key 0 1 (by decide) (by simp at n1; omega) (by omega) (by decide)
    simp at this n1 ⊢
    exact ⟨this, by omega, by omega⟩
  · have := key 8 256 (by decide) (by simp at n1; omega) (by omega) (by decide)
    simp at this n1 ⊢
    exact ⟨this, by omega, by omega⟩
  · have := key 16 65536 (by decide) (by simp at n1; omega) (by omega) (by decide)
    simp at this n1 ⊢
    exact ⟨this, by omega, by omega⟩
  · have := key 24 16777216 (by decide) (by simp at n1; omega) (by omega) (by decide)
    simp at this n1 ⊢
    exact ⟨this, by omega, by omega⟩
theorem numM_bd {X : Cx} : ∀ (k i : Nat) (n : Int) (σ : Sg), (∀ j, j < X.L → 0 ≤ X.bt j ∧ X.bt j < 256) → σ.at' ≤ X.L → k + i ≤ 4 → 0 ≤ n → n < 256 ^ i → 0 ≤ (numM X k i n σ).1 ∧ (numM X k i n σ).1 < 256 ^ (k + i)
  | 0, i, n, σ, hb, hl, hk, n0, n1 => by simpa [numM] using And.intro n0 n1
  | k + 1, i, n, σ, hb, hl, hk, n0, n1 => by
    have ht : (0 ≤ (take X σ).1 ∧ (take X σ).1 < 256) ∧ (take X σ).2.at' ≤ X.L := by
      unfold take
      split
      · exact ⟨⟨Int.le_refl _, (by decide : (0 : Int) < 256)⟩, hl⟩
      · split
        · exact ⟨⟨Int.le_refl _, (by decide : (0 : Int) < 256)⟩, hl⟩
        · split
          · exact ⟨⟨Int.le_refl _, (by decide : (0 : Int) < 256)⟩, hl⟩
          · exact ⟨hb _ (by omega), by show σ.at' + 1 ≤ X.L; omega⟩
    have o := or_up n (take X σ).1 i (by omega) n0 n1 ht.1.1 ht.1.2
    have := numM_bd k (i + 1) (n + (take X σ).1 * 256 ^ i) (take X σ).2 hb ht.2 (by omega) o.2.2 o.2.1
    rw [show k + (i + 1) = k + 1 + i by omega] at this
    exact this
set_option maxHeartbeats 1000000 in
theorem bytes_ok (w : World) (X : Cx) (σ : Sg) (h : St X w σ) (s : Int) (hs : s = 1 ∨ s = 2 ∨ s = 4) :
    Calls Tryz.prog 453 #[.pointer (some ⟨X.F, 0, none⟩), .int .i64 s] w fun e w' => e = .returned (.int .u32 (bytesM X s σ).1) ∧ Done X w (bytesM X s σ).2 w' := by
  obtain ⟨V, hV⟩ : ∃ V, V = bytesM X s σ := ⟨_, rfl⟩
  rw [← hV]
  have hs0 : 0 ≤ s := by omega
  have hs4 : s ≤ 4 := by omega
  have HV : Hid (V = bytesM X s σ) := hV
  have Hs : Hid (s = 1 ∨ s = 2 ∨ s = 4) := hs
  have Hh : Hid (St X w σ) := h
  clear hV hs h
  go_enter Tryz.func453, Tryz.ntmps453
  go_wp2
  go_loopw [5, 8] (fun vn vi wr => ∃ (i k : Nat) (n : Int) (σ' : Sg), vn = .int .u32 n ∧ vi = .int .i64 i ∧ (i : Int) + k = s ∧ 0 ≤ n ∧ n < 256 ^ i ∧ Hid (V = numM X k i n σ') ∧ Hid (Done X w σ' wr)) (fun _ vi _ => (s - intOf vi).toNat)
  case atStart => exact ⟨0, s.toNat, 0, σ, rfl, rfl, by omega, Int.le_refl _, by decide, HV, ⟨Hh.out, Kp.refl _ _⟩⟩
  case round =>
    obtain ⟨i, k, n, σ', rfl, rfl, hik, n0, n1, hv, hd⟩ := hrel
    by_cases hlt : (i : Int) < s
    · obtain ⟨k', rfl⟩ : ∃ k', k = k' + 1 := ⟨k - 1, by omega⟩
      have hst := hd.out.1
      have cT := take_ok wr X σ' hst
      have hbd := take_bd hst
      have c0 := hst.f0
      have hi3 : i ≤ 3 := by omega
      have hor := or_up n (take X σ').1 i hi3 n0 n1 hbd.1 hbd.2
      have hv2 : V = numM X k' (i + 1) (n + (take X σ').1 * 256 ^ i) (take X σ').2 := hv.out
      generalize (take X σ').1 = b at *
      generalize (take X σ').2 = σ2 at *
      obtain ⟨b0, b1⟩ := hbd
      obtain ⟨q0, q1, q2⟩ := hor
      obtain ⟨m, hm⟩ : ∃ m, m = n + b * 256 ^ i := ⟨_, rfl⟩
      rw [← hm] at q0 q1 q2 hv2
      have Hq1 : Hid (m < 256 ^ (i + 1)) := q1
      have Hq2 : Hid (0 ≤ m) := q2
      have Hv2 : Hid (V = numM X k' (i + 1) m σ2) := hv2
      have Hhd : Hid (Done X w σ' wr) := hd
      clear hv2 hv hd hst hm q1 q2 n1
      have hii : i = 0 ∨ i = 1 ∨ i = 2 ∨ i = 3 := by omega
      clear hi3
      rcases hii with rfl | rfl | rfl | rfl
      all_goals
        simp at q0
        go_wp2_with fail
        refine cT.mono ?_; rintro e w1 ⟨rfl, hd1⟩
        have Hd1 : Hid (Done X w σ2 w1) := ⟨hd1.1, Hhd.out.2.trans hd1.2⟩
        clear hd1
        go_wp2
        go_roundw
        case rel =>
          first
            | exact ⟨1, k', m, σ2, by go_num, rfl, by omega, Hq2.out, Hq1.out, Hv2, Hd1⟩
            | exact ⟨2, k', m, σ2, by go_num, rfl, by omega, Hq2.out, Hq1.out, Hv2, Hd1⟩
            | exact ⟨3, k', m, σ2, by go_num, rfl, by omega, Hq2.out, Hq1.out, Hv2, Hd1⟩
            | exact ⟨4, k', m, σ2, by go_num, rfl, by omega, Hq2.out, Hq1.out, Hv2, Hd1⟩
        case measure => simp [intOf]; omega
    · have hk : k = 0 := by omega
      subst hk
      go_wp2
      go_ret
      have hv2 : V = (n, σ') := hv.out
      rw [hv2]
      exact ⟨rfl, hd.out⟩
def sgnM (s n : Int) : Int := if s = 1 ∧ 127 < n then n + 4294967040 else if s = 2 ∧ 32767 < n then n + 4294901760 else n
def cutM (s n : Int) : Int := if s = 1 then n % 256 else if s = 2 then n % 65536 else n
theorem signed_ok (w : World) (s n : Int) (hs : s = 1 ∨ s = 2 ∨ s = 4) (n0 : 0 ≤ n) (n1 : n < 256 ^ s.toNat) :
    Calls Tryz.prog 454 #[.int .i64 s, .int .u32 n] w fun e w' => e = .returned (.int .u32 (sgnM s n)) ∧ w' = w := by
  rcases hs with rfl | rfl | rfl
  · have n2 : n < 256 := by simpa using n1
    clear n1
    go_enter Tryz.func454, Tryz.ntmps454
    go_wp2
    go_ret
    refine ⟨ret_int ?_, rfl⟩
    unfold sgnM
    by_cases hn : 127 < n
    · rw [if_pos ⟨rfl, hn⟩]
      unfold wrap32; omega
    · rw [if_neg (by omega), if_neg (by omega)]
      unfold wrap32; omega
  · have n2 : n < 65536 := by simpa using n1
    clear n1
    go_enter Tryz.func454, Tryz.ntmps454
    go_wp2
    go_ret
    refine ⟨ret_int ?_, rfl⟩
    unfold sgnM
    by_cases hn : 32767 < n
    · rw [if_neg (by omega), if_pos ⟨rfl, hn⟩]
      unfold wrap32; omega
    · rw [if_neg (by omega), if_neg (by omega)]
      unfold wrap32; omega
  · have n2 : n < 4294967296 := by simpa using n1
    clear n1
    go_enter Tryz.func454, Tryz.ntmps454
    go_wp2
    go_ret
    refine ⟨ret_int ?_, rfl⟩
    unfold sgnM
    rw [if_neg (by omega), if_neg (by omega)]
    unfold wrap32; omega
theorem cut_ok (w : World) (s n : Int) (hs : s = 1 ∨ s = 2 ∨ s = 4) (n0 : 0 ≤ n) (n1 : n < 4294967296) :
    Calls Tryz.prog 458 #[.int .i64 s, .int .u32 n] w fun e w' => e = .returned (.int .u32 (cutM s n)) ∧ w' = w := by
  rcases hs with rfl | rfl | rfl
  all_goals
    go_enter Tryz.func458, Tryz.ntmps458
    go_wp2
    go_ret
    refine ⟨ret_int ?_, rfl⟩
    simp only [cutM]
    first | omega | (simp; omega)
theorem bytesM_bd {w : World} {X : Cx} {σ : Sg} (h : St X w σ) (s : Int) (hs : s = 1 ∨ s = 2 ∨ s = 4) : 0 ≤ (bytesM X s σ).1 ∧ (bytesM X s σ).1 < 256 ^ s.toNat := by
  have := numM_bd (X := X) s.toNat 0 0 σ h.bd h.lL (by omega) (Int.le_refl _) (by decide)
  simpa [bytesM] using this
theorem pow_le (s : Int) (hs : s = 1 ∨ s = 2 ∨ s = 4) : (256 : Int) ^ s.toNat ≤ 4294967296 := by
  rcases hs with rfl | rfl | rfl <;> decide
theorem sgnM_bd (s n : Int) (hs : s = 1 ∨ s = 2 ∨ s = 4) (n0 : 0 ≤ n) (n1 : n < 256 ^ s.toNat) : 0 ≤ sgnM s n ∧ sgnM s n < 4294967296 := by
  have := pow_le s hs
  unfold sgnM
  rcases hs with rfl | rfl | rfl
  · have n2 : n < 256 := by simpa using n1
    split
    · omega
    · split <;> omega
  · have n2 : n < 65536 := by simpa using n1
    split
    · omega
    · split <;> omega
  · have n2 : n < 4294967296 := by simpa using n1
    split
    · omega
    · split <;> omega
end Go.Proofs.YtiagfmkinefidaaGreat.Dc
