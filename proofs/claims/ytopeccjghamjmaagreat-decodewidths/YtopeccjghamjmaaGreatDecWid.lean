/- The prefix of the size changes sizes alone: of the plain model. -/
import Derived.Test.YtopeccjghamjmaaGreatDecFit
namespace Go.Proofs.YtopeccjghamjmaaGreat
open Go.ChangeShapes Go.WideShapes Go.ChangeAt Go.RowKit
set_option linter.unusedVariables false

/-! ### what takes bytes alone never refuses -/
theorem take_60 (X : Cx) (σ : Sg) (h : (take X σ).2.err = 60) : σ.err = 60 := by
  unfold take at h
  split at h
  · exact h
  · split at h
    · exact absurd h (by show (62 : Int) ≠ 60; decide)
    · split at h
      · exact absurd h (by show (61 : Int) ≠ 60; decide)
      · exact h

theorem modrm_60 (X : Cx) (σ : Sg) (h : (modrm X σ).2.err = 60) : σ.err = 60 := by
  unfold modrm at h
  split at h
  · exact h
  · exact take_60 X σ h

theorem numM_60 (X : Cx) : ∀ (k i : Nat) (n : Int) (σ : Sg), (numM X k i n σ).2.err = 60 → σ.err = 60
  | 0, i, n, σ, h => h
  | k + 1, i, n, σ, h => take_60 X σ (numM_60 X k (i + 1) _ _ h)

theorem pE_60 (X : Cx) (s : Int) (σ : Sg) (h : (pE X s σ).2.err = 60) : σ.err = 60 := by
  unfold pE at h
  split at h
  · exact modrm_60 X σ h
  · apply modrm_60 X σ
    have h2 : (sibP X (modrm X σ).1.2.2 (modrm X σ).2).2.err = 60 := by
      have h' : (dispP X _ _ (sibP X (modrm X σ).1.2.2 (modrm X σ).2).2).2.err = 60 := h
      unfold dispP at h'
      split at h'
      · exact numM_60 X _ _ _ _ h'
      · split at h'
        · exact numM_60 X _ _ _ _ h'
        · split at h'
          · exact numM_60 X _ _ _ _ h'
          · exact h'
    unfold sibP at h2
    split at h2
    · exact take_60 X _ h2
    · exact h2

theorem part_60 (p : Pt) (X : Cx) (s : Int) (σ : Sg) (h : (p.f X s σ).2.err = 60) : σ.err = 60 := by
  cases p with
  | A => exact h
  | CL => exact h
  | DX => exact h
  | R => exact h
  | G => exact modrm_60 X σ h
  | Rm => exact modrm_60 X σ h
  | Cr => exact modrm_60 X σ h
  | I => exact numM_60 X _ _ _ _ h
  | Ib => exact numM_60 X _ _ _ _ h
  | Iw => exact numM_60 X _ _ _ _ h
  | Is => exact numM_60 X _ _ _ _ h
  | J => exact numM_60 X _ _ _ _ h
  | Jb => exact numM_60 X _ _ _ _ h
  | Far => exact numM_60 X _ _ _ _ (numM_60 X _ _ _ _ h)
  | O => exact numM_60 X _ _ _ _ h
  | E => exact pE_60 X s σ h
  | Eb => exact pE_60 X 1 σ h
  | Ew => exact pE_60 X 2 σ h
  | Seg r => exact h
  | Num r => exact h

theorem setI_err (i : Nat) (p : Opd × Sg) : (setI i p).err = p.2.err := by
  unfold setI
  split <;> rfl

theorem stpF_60 (X : Cx) (s : Int) : ∀ (ps : List Pt) (i : Nat) (σ : Sg), (stpF X s i (ps.map Pt.f) σ).err = 60 → σ.err = 60
  | [], i, σ, h => h
  | p :: ps, i, σ, h => by
    have := stpF_60 X s ps (i + 1) _ h
    rw [setI_err] at this
    exact part_60 p X s σ this

theorem isP_60 {X : Cx} {op sub s : Int} {ps : List Pt} {σ : Sg} (h : (isM X op sub s (ps.map Pt.f) σ).err = 60) : σ.err = 60 := stpF_60 X s ps 0 (hdS op sub s σ) h

/-! ### two readers, one byte apart -/
structure Rel (σ τ : Sg) : Prop where
  e1 : σ.err = 0
  e2 : τ.err = 0
  at' : τ.at' = σ.at' + 1
  le : τ.at' ≤ 15
  op : τ.op = σ.op
  seg : τ.seg = σ.seg
  rep : τ.rep = σ.rep
  fl : τ.fl = σ.fl
  v1 : σ.v = 4
  v2 : τ.v = 2

structure Two (X Y : Cx) : Prop where
  L : Y.L = X.L + 1
  bt : ∀ k, Y.bt (k + 1) = X.bt k

theorem Rd.ok {α : Type} {f : Cx → Sg → α × Sg} (hf : Rd f) {X : Cx} {σ : Sg} (h : (f X σ).2.err = 0) : σ.err = 0 :=
  (RdS.ok (g := fun X σ => (f X σ).2) (Rd.thenS (u := fun _ σ => σ) hf (fun _ _ _ _ => rfl)) h).1

theorem take_rel {X Y : Cx} (T : Two X Y) {σ τ : Sg} (R : Rel σ τ) (h1 : (take X σ).2.err = 0) (h2 : (take Y τ).2.err = 0) : (take Y τ).1 = (take X σ).1 ∧ Rel (take X σ).2 (take Y τ).2 := by
  have a1 : σ.at' ≠ 15 := fun e => by have := R.at'; have := R.le; omega
  have a2 : τ.at' ≠ 15 := fun e => by
    unfold take at h2
    rw [if_neg (by simpa using R.e2), if_pos e] at h2
    exact absurd h2 (by show (62 : Int) ≠ 0; decide)
  have a3 : σ.at' ≠ X.L := fun e => by
    unfold take at h1
    rw [if_neg (by simpa using R.e1), if_neg a1, if_pos e] at h1
    exact absurd h1 (by show (61 : Int) ≠ 0; decide)
  have a4 : τ.at' ≠ Y.L := by have := R.at'; have := T.L; omega
  rw [take_at X σ R.e1 a1 a3, take_at Y τ R.e2 a2 a4]
  refine ⟨by show Y.bt τ.at' = X.bt σ.at'; rw [R.at']; exact T.bt _, ⟨R.e1, R.e2, ?_, ?_, R.op, R.seg, R.rep, R.fl, R.v1, R.v2⟩⟩
  · show τ.at' + 1 = σ.at' + 1 + 1; rw [R.at']
  · show τ.at' + 1 ≤ 15; have := R.le; omega

/-- Where the first takes a byte the second has it too, or there are more than fifteen. -/
theorem take_or {X Y : Cx} (T : Two X Y) {σ τ : Sg} (R : Rel σ τ) (h1 : (take X σ).2.err = 0) : (take Y τ).2.err = 62 ∨ (take Y τ).2.err = 0 := by
  have a1 : σ.at' ≠ 15 := fun e => by have := R.at'; have := R.le; omega
  have a3 : σ.at' ≠ X.L := fun e => by
    unfold take at h1
    rw [if_neg (by simpa using R.e1), if_neg a1, if_pos e] at h1
    exact absurd h1 (by show (61 : Int) ≠ 0; decide)
  have a4 : τ.at' ≠ Y.L := by have := R.at'; have := T.L; omega
  unfold take
  rw [if_neg (by simpa using R.e2)]
  by_cases h15 : τ.at' = 15
  · rw [if_pos h15]; exact Or.inl rfl
  · rw [if_neg h15, if_neg a4]; exact Or.inr R.e2

theorem modrm_rel {X Y : Cx} (T : Two X Y) {σ τ : Sg} (R : Rel σ τ) (h1 : (modrm X σ).2.err = 0) (h2 : (modrm Y τ).2.err = 0) : (modrm Y τ).1 = (modrm X σ).1 ∧ Rel (modrm X σ).2 (modrm Y τ).2 := by
  have hf := R.fl
  unfold modrm at h1 h2 ⊢
  rw [hf] at h2 ⊢
  cases hfl : σ.fl with
  | some x => exact ⟨rfl, R⟩
  | none =>
    rw [hfl] at h1 h2
    obtain ⟨e, R'⟩ := take_rel T R h1 h2
    simp only
    rw [e]
    exact ⟨rfl, ⟨R'.e1, R'.e2, R'.at', R'.le, R'.op, R'.seg, R'.rep, rfl, R'.v1, R'.v2⟩⟩

theorem modrm_or {X Y : Cx} (T : Two X Y) {σ τ : Sg} (R : Rel σ τ) (h1 : (modrm X σ).2.err = 0) : (modrm Y τ).2.err = 62 ∨ (modrm Y τ).2.err = 0 := by
  have hf := R.fl
  unfold modrm at h1 ⊢
  rw [hf]
  cases hfl : σ.fl with
  | some x => exact Or.inr R.e2
  | none =>
    rw [hfl] at h1
    exact take_or T R h1

theorem numM_rel {X Y : Cx} (T : Two X Y) : ∀ (k i : Nat) (n : Int) (σ τ : Sg), Rel σ τ → (numM X k i n σ).2.err = 0 → (numM Y k i n τ).2.err = 0 → (numM Y k i n τ).1 = (numM X k i n σ).1 ∧ Rel (numM X k i n σ).2 (numM Y k i n τ).2
  | 0, i, n, σ, τ, R, _, _ => ⟨rfl, R⟩
  | k + 1, i, n, σ, τ, R, h1, h2 => by
    have t1 : (take X σ).2.err = 0 := (rdNumM k (i + 1) (n + (take X σ).1 * 256 ^ i)).ok h1
    have t2 : (take Y τ).2.err = 0 := (rdNumM k (i + 1) (n + (take Y τ).1 * 256 ^ i)).ok h2
    obtain ⟨e, R'⟩ := take_rel T R t1 t2
    have h2' : (numM Y k (i + 1) (n + (take Y τ).1 * 256 ^ i) (take Y τ).2).2.err = 0 := h2
    show (numM Y k (i + 1) (n + (take Y τ).1 * 256 ^ i) (take Y τ).2).1 = _ ∧ Rel _ (numM Y k (i + 1) (n + (take Y τ).1 * 256 ^ i) (take Y τ).2).2
    rw [e] at h2' ⊢
    exact numM_rel T k (i + 1) _ _ _ R' h1 h2'

/-- The same kind, the same registers, the same segment. -/
structure Sim (o p : Opd) : Prop where
  kind : p.kind = o.kind
  reg : p.reg = o.reg
  base : p.base = o.base
  index : p.index = o.index
  seg : p.seg = o.seg
  scale : p.scale = o.scale

theorem pE_rel {X Y : Cx} (T : Two X Y) (s t : Int) {σ τ : Sg} (R : Rel σ τ) (h1 : (pE X s σ).2.err = 0) (h2 : (pE Y t τ).2.err = 0) : Sim (pE X s σ).1 (pE Y t τ).1 ∧ Rel (pE X s σ).2 (pE Y t τ).2 := by
  have m1 : (modrm X σ).2.err = 0 := by
    have k : Rd (fun X σ => pE X s σ) := rdPE s
    unfold pE at h1
    split at h1
    · exact h1
    · exact (rdSibP _).ok ((rdDispP _ _).ok h1)
  have m2 : (modrm Y τ).2.err = 0 := by
    unfold pE at h2
    split at h2
    · exact h2
    · exact (rdSibP _).ok ((rdDispP _ _).ok h2)
  obtain ⟨e, R1⟩ := modrm_rel T R m1 m2
  unfold pE at h1 h2 ⊢
  rw [e] at h2 ⊢
  by_cases h3 : (modrm X σ).1.1 = 3
  · rw [if_pos h3, if_pos h3]
    exact ⟨⟨rfl, rfl, rfl, rfl, rfl, rfl⟩, R1⟩
  · rw [if_neg h3] at h1 h2
    rw [if_neg h3, if_neg h3]
    have s1 : (sibP X (modrm X σ).1.2.2 (modrm X σ).2).2.err = 0 := (rdDispP _ _).ok h1
    have s2 : (sibP Y (modrm X σ).1.2.2 (modrm Y τ).2).2.err = 0 := (rdDispP _ _).ok h2
    have hsib : (sibP Y (modrm X σ).1.2.2 (modrm Y τ).2).1 = (sibP X (modrm X σ).1.2.2 (modrm X σ).2).1 ∧ Rel (sibP X (modrm X σ).1.2.2 (modrm X σ).2).2 (sibP Y (modrm X σ).1.2.2 (modrm Y τ).2).2 := by
      unfold sibP at s1 s2 ⊢
      by_cases h4 : (modrm X σ).1.2.2 = 4
      · rw [if_pos h4] at s1 s2
        rw [if_pos h4, if_pos h4]
        obtain ⟨e', R'⟩ := take_rel T R1 s1 s2
        unfold sibM
        simp only
        rw [e']
        exact ⟨rfl, R'⟩
      · rw [if_neg h4, if_neg h4]
        exact ⟨rfl, R1⟩
    obtain ⟨e2, R2⟩ := hsib
    unfold finE at h1 h2 ⊢
    simp only at h1 h2 ⊢
    rw [e2] at h2 ⊢
    have hd : Rel (dispP X (modrm X σ).1.1 (sibP X (modrm X σ).1.2.2 (modrm X σ).2).1.1 (sibP X (modrm X σ).1.2.2 (modrm X σ).2).2).2 (dispP Y (modrm X σ).1.1 (sibP X (modrm X σ).1.2.2 (modrm X σ).2).1.1 (sibP Y (modrm X σ).1.2.2 (modrm Y τ).2).2).2 := by
      unfold dispP at h1 h2 ⊢
      split
      · rename_i c; rw [if_pos c] at h1 h2; exact (numM_rel T _ _ _ _ _ R2 h1 h2).2
      · rename_i c
        rw [if_neg c] at h1 h2
        split
        · rename_i c2; rw [if_pos c2] at h1 h2; exact (numM_rel T _ _ _ _ _ R2 h1 h2).2
        · rename_i c2
          rw [if_neg c2] at h1 h2
          split
          · rename_i c3; rw [if_pos c3] at h1 h2; exact (numM_rel T _ _ _ _ _ R2 h1 h2).2
          · exact R2
    exact ⟨⟨rfl, rfl, rfl, rfl, by show segP _ _ _ = segP _ _ _; rw [R1.seg], rfl⟩, hd⟩

/-- Its bytes are as many as the instruction's size. -/
def Pt.wide : Pt → Bool
  | .I => true
  | .J => true
  | .Far => true
  | _ => false

theorem part_rel {X Y : Cx} (T : Two X Y) (p : Pt) (s t : Int) {σ τ : Sg} (R : Rel σ τ) (h1 : (p.f X s σ).2.err = 0) (h2 : (p.f Y t τ).2.err = 0) : Sim (p.f X s σ).1 (p.f Y t τ).1 ∧ (p.wide = false → Rel (p.f X s σ).2 (p.f Y t τ).2) := by
  cases p with
  | A => exact ⟨⟨rfl, rfl, rfl, rfl, rfl, rfl⟩, fun _ => R⟩
  | CL => exact ⟨⟨rfl, rfl, rfl, rfl, rfl, rfl⟩, fun _ => R⟩
  | DX => exact ⟨⟨rfl, rfl, rfl, rfl, rfl, rfl⟩, fun _ => R⟩
  | R => exact ⟨⟨rfl, by show τ.op % 8 = σ.op % 8; rw [R.op], rfl, rfl, rfl, rfl⟩, fun _ => R⟩
  | G => obtain ⟨e, R'⟩ := modrm_rel T R h1 h2; exact ⟨⟨rfl, by show (modrm Y τ).1.2.1 = (modrm X σ).1.2.1; rw [e], rfl, rfl, rfl, rfl⟩, fun _ => R'⟩
  | Rm => obtain ⟨e, R'⟩ := modrm_rel T R h1 h2; exact ⟨⟨rfl, by show (modrm Y τ).1.2.2 = (modrm X σ).1.2.2; rw [e], rfl, rfl, rfl, rfl⟩, fun _ => R'⟩
  | Cr => obtain ⟨e, R'⟩ := modrm_rel T R h1 h2; exact ⟨⟨rfl, by show (modrm Y τ).1.2.1 = (modrm X σ).1.2.1; rw [e], rfl, rfl, rfl, rfl⟩, fun _ => R'⟩
  | I => exact ⟨⟨rfl, rfl, rfl, rfl, rfl, rfl⟩, fun h => by cases h⟩
  | Ib => exact ⟨⟨rfl, rfl, rfl, rfl, rfl, rfl⟩, fun _ => (numM_rel T _ _ _ _ _ R h1 h2).2⟩
  | Iw => exact ⟨⟨rfl, rfl, rfl, rfl, rfl, rfl⟩, fun _ => (numM_rel T _ _ _ _ _ R h1 h2).2⟩
  | Is => exact ⟨⟨rfl, rfl, rfl, rfl, rfl, rfl⟩, fun _ => (numM_rel T _ _ _ _ _ R h1 h2).2⟩
  | J => exact ⟨⟨rfl, rfl, rfl, rfl, rfl, rfl⟩, fun h => by cases h⟩
  | Jb => exact ⟨⟨rfl, rfl, rfl, rfl, rfl, rfl⟩, fun _ => (numM_rel T _ _ _ _ _ R h1 h2).2⟩
  | Far => exact ⟨⟨rfl, rfl, rfl, rfl, rfl, rfl⟩, fun h => by cases h⟩
  | O => exact ⟨⟨rfl, rfl, rfl, rfl, by show segD τ.seg = segD σ.seg; rw [R.seg], rfl⟩, fun _ => (numM_rel T _ _ _ _ _ R h1 h2).2⟩
  | E => exact ⟨(pE_rel T s t R h1 h2).1, fun _ => (pE_rel T s t R h1 h2).2⟩
  | Eb => exact ⟨(pE_rel T 1 1 R h1 h2).1, fun _ => (pE_rel T 1 1 R h1 h2).2⟩
  | Ew => exact ⟨(pE_rel T 2 2 R h1 h2).1, fun _ => (pE_rel T 2 2 R h1 h2).2⟩
  | Seg r => exact ⟨⟨rfl, rfl, rfl, rfl, rfl, rfl⟩, fun _ => R⟩
  | Num r => exact ⟨⟨rfl, rfl, rfl, rfl, rfl, rfl⟩, fun _ => R⟩

/-- Two instructions that differ in what the size changes alone. -/
structure SimI (x y : Ins) : Prop where
  op : y.op = x.op
  sub : y.sub = x.sub
  rep : y.rep = x.rep
  size : y.size = x.size ∨ (x.size = 4 ∧ y.size = 2)
  a : Sim x.a y.a
  b : Sim x.b y.b
  c : Sim x.c y.c

theorem Sim.refl (o : Opd) : Sim o o := ⟨rfl, rfl, rfl, rfl, rfl, rfl⟩

theorem SimI.set {x y : Ins} {o p : Opd} (h : SimI x y) (hs : Sim o p) (i : Nat) {σ τ : Sg} (hx : σ.ins = x) (hy : τ.ins = y) : SimI (setI i (o, σ)).ins (setI i (p, τ)).ins := by
  subst hx hy
  unfold setI
  split
  · exact ⟨h.op, h.sub, h.rep, h.size, hs, h.b, h.c⟩
  · exact ⟨h.op, h.sub, h.rep, h.size, h.a, hs, h.c⟩
  · exact ⟨h.op, h.sub, h.rep, h.size, h.a, h.b, hs⟩

/-- What has as many bytes as the size stands last. -/
def okW : List Pt → Bool
  | [] => true
  | [_] => true
  | p :: ps => !p.wide && okW ps

theorem Rel.setI {σ τ : Sg} (R : Rel σ τ) (i : Nat) (o p : Opd) : Rel (setI i (o, σ)) (setI i (p, τ)) := by
  unfold Go.Proofs.YtopeccjghamjmaaGreat.setI
  split <;> exact ⟨R.e1, R.e2, R.at', R.le, R.op, R.seg, R.rep, R.fl, R.v1, R.v2⟩

theorem stpF_rel {X Y : Cx} (T : Two X Y) (s t : Int) : ∀ (ps : List Pt) (i : Nat) (σ τ : Sg), okW ps = true → Rel σ τ → SimI σ.ins τ.ins → (stpF X s i (ps.map Pt.f) σ).err = 0 → (stpF Y t i (ps.map Pt.f) τ).err = 0 → SimI (stpF X s i (ps.map Pt.f) σ).ins (stpF Y t i (ps.map Pt.f) τ).ins
  | [], i, σ, τ, _, _, h, _, _ => h
  | p :: ps, i, σ, τ, hw, R, h, h1, h2 => by
    have q1 := ((rdStpF s (ps.map Pt.f) (i + 1) (rdParts ps s)).ok (X := X) (σ := setI i (p.f X s σ)) h1).1
    have q2 := ((rdStpF t (ps.map Pt.f) (i + 1) (rdParts ps t)).ok (X := Y) (σ := setI i (p.f Y t τ)) h2).1
    rw [setI_err] at q1 q2
    obtain ⟨hs, hr⟩ := part_rel T p s t R q1 q2
    have hset : SimI (setI i (p.f X s σ)).ins (setI i (p.f Y t τ)).ins := h.set hs i (part_fr p X s σ).ins (part_fr p Y t τ).ins
    cases ps with
    | nil => exact hset
    | cons p' ps =>
      have hw' : p.wide = false ∧ okW (p' :: ps) = true := by simpa [okW] using hw
      exact stpF_rel T s t (p' :: ps) (i + 1) _ _ hw'.2 ((hr hw'.1).setI i _ _) hset h1 h2

theorem isP_rel {X Y : Cx} (T : Two X Y) (op sub s t : Int) (hst : t = s ∨ (s = 4 ∧ t = 2)) (ps : List Pt) (hw : okW ps = true) {σ τ : Sg} (R : Rel σ τ) (hx : Emp σ.ins) (hy : Emp τ.ins) (h1 : (isM X op sub s (ps.map Pt.f) σ).err = 0) (h2 : (isM Y op sub t (ps.map Pt.f) τ).err = 0) : SimI (isM X op sub s (ps.map Pt.f) σ).ins (isM Y op sub t (ps.map Pt.f) τ).ins := by
  refine stpF_rel T s t ps 0 (hdS op sub s σ) (hdS op sub t τ) hw ⟨R.e1, R.e2, R.at', R.le, R.op, R.seg, R.rep, R.fl, R.v1, R.v2⟩ ⟨rfl, rfl, ?_, hst, ?_, ?_, ?_⟩ h1 h2
  · show τ.ins.rep = σ.ins.rep; rw [hx.2.2.2, hy.2.2.2]
  · show Sim σ.ins.a τ.ins.a; rw [hx.1, hy.1]; exact Sim.refl _
  · show Sim σ.ins.b τ.ins.b; rw [hx.2.1, hy.2.1]; exact Sim.refl _
  · show Sim σ.ins.c τ.ins.c; rw [hx.2.2.1, hy.2.2.1]; exact Sim.refl _

theorem Szk.rel (z : Szk) {σ τ : Sg} (R : Rel σ τ) : z.of τ = z.of σ ∨ (z.of σ = 4 ∧ z.of τ = 2) := by
  cases z with
  | k x => exact Or.inl rfl
  | v => exact Or.inr ⟨R.v1, R.v2⟩

/-! ### the gates -/
theorem refuse_60 {σ : Sg} (h : σ.err = 0) : (refuse σ).err = 60 := by
  unfold refuse
  rw [if_pos h]

theorem refuse_er {σ : Sg} (h : σ.err ≠ 0) : (refuse σ).err = σ.err := by
  unfold refuse
  rw [if_neg h]

theorem only_60 {X : Cx} {L : List Int} {σ : Sg} (h0 : σ.err = 0) (h : (onlyM X L σ).err = 60) : (modrm X σ).2.err = 0 ∧ L.contains (modrm X σ).1.2.1 = false := by
  unfold onlyM at h
  by_cases hc : L.contains (modrm X σ).1.2.1 = true
  · rw [if_pos hc] at h
    exact absurd (modrm_60 X σ h) (by rw [h0]; decide)
  · rw [if_neg hc] at h
    by_cases hm : (modrm X σ).2.err = 0
    · exact ⟨hm, by simpa using hc⟩
    · rw [refuse_er hm] at h
      exact absurd (modrm_60 X σ h) (by rw [h0]; decide)

theorem mem_60 {X : Cx} {σ : Sg} (h0 : σ.err = 0) (h : (onlyMem X σ).err = 60) : (modrm X σ).2.err = 0 ∧ (modrm X σ).1.1 = 3 := by
  unfold onlyMem at h
  by_cases hc : (modrm X σ).1.1 = 3
  · rw [if_pos hc] at h
    by_cases hm : (modrm X σ).2.err = 0
    · exact ⟨hm, hc⟩
    · rw [refuse_er hm] at h
      exact absurd (modrm_60 X σ h) (by rw [h0]; decide)
  · rw [if_neg hc] at h
    exact absurd (modrm_60 X σ h) (by rw [h0]; decide)

theorem only_rel60 {X Y : Cx} (T : Two X Y) (L : List Int) {σ τ : Sg} (R : Rel σ τ) (h : (onlyM X L σ).err = 60) : (onlyM Y L τ).err = 60 ∨ (onlyM Y L τ).err = 62 := by
  obtain ⟨hm, hc⟩ := only_60 R.e1 h
  unfold onlyM
  rcases modrm_or T R hm with h2 | h2
  · right
    by_cases c : L.contains (modrm Y τ).1.2.1 = true
    · rw [if_pos c]; exact h2
    · rw [if_neg c, refuse_er (by rw [h2]; decide)]; exact h2
  · left
    obtain ⟨e, _⟩ := modrm_rel T R hm h2
    rw [e, if_neg (by rw [hc]; decide), refuse_60 h2]

theorem mem_rel60 {X Y : Cx} (T : Two X Y) {σ τ : Sg} (R : Rel σ τ) (h : (onlyMem X σ).err = 60) : (onlyMem Y τ).err = 60 ∨ (onlyMem Y τ).err = 62 := by
  obtain ⟨hm, hc⟩ := mem_60 R.e1 h
  unfold onlyMem
  rcases modrm_or T R hm with h2 | h2
  · right
    by_cases c : (modrm Y τ).1.1 = 3
    · rw [if_pos c, refuse_er (by rw [h2]; decide)]; exact h2
    · rw [if_neg c]; exact h2
  · left
    obtain ⟨e, _⟩ := modrm_rel T R hm h2
    rw [e, if_pos hc, refuse_60 h2]

/-- Both let through: they go on side by side. -/
theorem gt_rel {X Y : Cx} (T : Two X Y) (t : Gt) {σ τ : Sg} (R : Rel σ τ) (h1 : (t.g X σ).err = 0) (h2 : (t.g Y τ).err = 0) : Rel (t.g X σ) (t.g Y τ) := by
  cases t with
  | no => exact R
  | only L =>
    have a := only_in (X := X) (L := L) (σ := σ) h1
    have b := only_in (X := Y) (L := L) (σ := τ) h2
    show Rel (onlyM X L σ) (onlyM Y L τ)
    have h1' : (onlyM X L σ).err = 0 := h1
    have h2' : (onlyM Y L τ).err = 0 := h2
    rw [a.1] at h1' ⊢
    rw [b.1] at h2' ⊢
    exact (modrm_rel T R h1' h2').2
  | mem =>
    have a := mem_in (X := X) (σ := σ) h1
    have b := mem_in (X := Y) (σ := τ) h2
    show Rel (onlyMem X σ) (onlyMem Y τ)
    have h1' : (onlyMem X σ).err = 0 := h1
    have h2' : (onlyMem Y τ).err = 0 := h2
    rw [a.1] at h1' ⊢
    rw [b.1] at h2' ⊢
    exact (modrm_rel T R h1' h2').2

theorem gt_60 {X Y : Cx} (T : Two X Y) (t : Gt) {σ τ : Sg} (R : Rel σ τ) (h : (t.g X σ).err = 60) : (t.g Y τ).err = 60 ∨ (t.g Y τ).err = 62 := by
  cases t with
  | no => exact absurd (show σ.err = 60 from h) (by rw [R.e1]; decide)
  | only L => exact only_rel60 T L R h
  | mem => exact mem_rel60 T R h

theorem rowIs_60 {X : Cx} (r : Row) {σ : Sg} (h : (r.is X σ).err = 60) : σ.err = 60 := by
  obtain ⟨gt, op, sb, sz, ps⟩ := r
  cases sb with
  | k x => exact isP_60 h
  | opn => exact isP_60 h
  | opc => exact isP_60 h
  | mn => exact modrm_60 X σ (isP_60 h)
  | mp9 => exact modrm_60 X σ (isP_60 h)
  | mm4 => exact modrm_60 X σ (isP_60 h)

/-- An error that is there stays. -/
theorem RdS.er {g : Cx → Sg → Sg} (hg : RdS g) {X : Cx} {σ : Sg} {e : Int} (h : σ.err = e) (he : e ≠ 0) : (g X σ).err = e := by rw [(hg.stuck X σ (by rw [h]; exact he)).1, h]

theorem row_60 {X Y : Cx} (T : Two X Y) (r : Row) {σ τ : Sg} (R : Rel σ τ) (h : (r.g X σ).err = 60) : (r.g Y τ).err = 60 ∨ (r.g Y τ).err = 62 := by
  rcases gt_60 T r.gt R (rowIs_60 r h) with e | e
  · exact Or.inl ((rdRowIs r).er e (by decide))
  · exact Or.inr ((rdRowIs r).er e (by decide))

theorem row_rel {X Y : Cx} (T : Two X Y) (r : Row) (hw : okW r.ps = true) {σ τ : Sg} (R : Rel σ τ) (hx : Emp σ.ins) (hy : Emp τ.ins) (h1 : (r.g X σ).err = 0) (h2 : (r.g Y τ).err = 0) : SimI (r.g X σ).ins (r.g Y τ).ins := by
  have g1 : (r.gt.g X σ).err = 0 := ((rdRowIs r).ok (X := X) (σ := r.gt.g X σ) h1).1
  have g2 : (r.gt.g Y τ).err = 0 := ((rdRowIs r).ok (X := Y) (σ := r.gt.g Y τ) h2).1
  have R1 := gt_rel T r.gt R g1 g2
  have hx1 : Emp (r.gt.g X σ).ins := by
    obtain ⟨gt, op, sb, sz, ps⟩ := r
    cases gt with
    | no => exact hx
    | only L => show Emp (onlyM X L σ).ins; rw [(only_in (X := X) (L := L) (σ := σ) g1).1]; exact hx.fr (modrm_fr X σ)
    | mem => show Emp (onlyMem X σ).ins; rw [(mem_in (X := X) (σ := σ) g1).1]; exact hx.fr (modrm_fr X σ)
  have hy1 : Emp (r.gt.g Y τ).ins := by
    obtain ⟨gt, op, sb, sz, ps⟩ := r
    cases gt with
    | no => exact hy
    | only L => show Emp (onlyM Y L τ).ins; rw [(only_in (X := Y) (L := L) (σ := τ) g2).1]; exact hy.fr (modrm_fr Y τ)
    | mem => show Emp (onlyMem Y τ).ins; rw [(mem_in (X := Y) (σ := τ) g2).1]; exact hy.fr (modrm_fr Y τ)
  have h1' : (r.is X (r.gt.g X σ)).err = 0 := h1
  have h2' : (r.is Y (r.gt.g Y τ)).err = 0 := h2
  show SimI (r.is X (r.gt.g X σ)).ins (r.is Y (r.gt.g Y τ)).ins
  clear h1 h2
  generalize r.gt.g X σ = σ1 at *
  generalize r.gt.g Y τ = τ1 at *
  obtain ⟨gt, op, sb, sz, ps⟩ := r
  have hz := sz.rel R1
  have viaM : ∀ u : Int → Int, (isM X op (u (modrm X σ1).1.2.1) (sz.of σ1) (ps.map Pt.f) (modrm X σ1).2).err = 0 → (isM Y op (u (modrm Y τ1).1.2.1) (sz.of τ1) (ps.map Pt.f) (modrm Y τ1).2).err = 0 → SimI (isM X op (u (modrm X σ1).1.2.1) (sz.of σ1) (ps.map Pt.f) (modrm X σ1).2).ins (isM Y op (u (modrm Y τ1).1.2.1) (sz.of τ1) (ps.map Pt.f) (modrm Y τ1).2).ins := fun u q1 q2 => by
    have m1 := ((rdIsP op (u (modrm X σ1).1.2.1) (sz.of σ1) ps).ok (X := X) (σ := (modrm X σ1).2) q1).1
    have m2 := ((rdIsP op (u (modrm Y τ1).1.2.1) (sz.of τ1) ps).ok (X := Y) (σ := (modrm Y τ1).2) q2).1
    obtain ⟨e, R2⟩ := modrm_rel T R1 m1 m2
    rw [e] at q2 ⊢
    exact isP_rel T op _ _ _ hz ps hw R2 (hx1.fr (modrm_fr X σ1)) (hy1.fr (modrm_fr Y τ1)) q1 q2
  cases sb with
  | k x => exact isP_rel T op x _ _ hz ps hw R1 hx1 hy1 h1' h2'
  | opn =>
    have h2'' : (isM Y op (τ1.op / 8 % 8) (sz.of τ1) (ps.map Pt.f) τ1).err = 0 := h2'
    show SimI _ (isM Y op (τ1.op / 8 % 8) (sz.of τ1) (ps.map Pt.f) τ1).ins
    rw [R1.op] at h2'' ⊢
    exact isP_rel T op _ _ _ hz ps hw R1 hx1 hy1 h1' h2''
  | opc =>
    have h2'' : (isM Y op (τ1.op % 16) (sz.of τ1) (ps.map Pt.f) τ1).err = 0 := h2'
    show SimI _ (isM Y op (τ1.op % 16) (sz.of τ1) (ps.map Pt.f) τ1).ins
    rw [R1.op] at h2'' ⊢
    exact isP_rel T op _ _ _ hz ps hw R1 hx1 hy1 h1' h2''
  | mn => exact viaM (fun n => n) h1' h2'
  | mp9 => exact viaM (fun n => 9 + n) h1' h2'
  | mm4 => exact viaM (fun n => n - 4) h1' h2'

end Go.Proofs.YtopeccjghamjmaaGreat
