/- Readers as trees: what takes bytes one by one, and may refuse. All that is promised of fewer and more bytes, and of bytes moved, is shown once, of trees. -/
import Derived.Test.YtolnaodlghahlaaGreatDoorDecData
import Derived.Test.YtolnaodlghahlaaGreatDoorDecOp
namespace Go.Proofs.YtolnaodlghahlaaGreatDoor
open Go.ChangeShapes Go.WideShapes Go.ChangeAt Go.RowKit
set_option linter.unusedVariables false

inductive Rdr (α : Type) where
  | ret (a : α)
  | tk (k : Int → Rdr α)
  | rf (k : Rdr α)

def tk1 (X : Cx) (i : Nat) (e : Int) : Int × Nat × Int :=
  if e ≠ 0 then (0, i, e) else if i = 15 then (0, i, 62) else if i = X.L then (0, i, 61) else (X.bt i, i + 1, e)

def Rdr.run {α : Type} : Rdr α → Cx → Nat → Int → α × Nat × Int
  | .ret a, _, i, e => (a, i, e)
  | .tk k, X, i, e => (k (tk1 X i e).1).run X (tk1 X i e).2.1 (tk1 X i e).2.2
  | .rf k, X, i, e => k.run X i (if e = 0 then 60 else e)

def Rdr.bind {α β : Type} : Rdr α → (α → Rdr β) → Rdr β
  | .ret a, f => f a
  | .tk k, f => .tk fun b => (k b).bind f
  | .rf k, f => .rf (k.bind f)

theorem Rdr.run_bind {α β : Type} (f : α → Rdr β) (X : Cx) : ∀ (t : Rdr α) (i : Nat) (e : Int), (t.bind f).run X i e = (f (t.run X i e).1).run X (t.run X i e).2.1 (t.run X i e).2.2
  | .ret a, i, e => rfl
  | .tk k, i, e => Rdr.run_bind f X (k (tk1 X i e).1) _ _
  | .rf k, i, e => Rdr.run_bind f X k _ _

def Sg.put (σ : Sg) (i : Nat) (e : Int) : Sg := { σ with at' := i, err := e }

theorem Sg.put_self (σ : Sg) : σ.put σ.at' σ.err = σ := rfl

/-- It is a reader: a tree that what lies beside the reader chooses. -/
def Rd {α : Type} (g : Cx → Sg → α × Sg) : Prop :=
  ∃ t : Sg → Rdr (α × Sg), ∀ X σ i e, g X (σ.put i e) = (((t σ).run X i e).1.1, ((t σ).run X i e).1.2.put ((t σ).run X i e).2.1 ((t σ).run X i e).2.2)

theorem Rd.pure {α : Type} (h : Sg → α × Sg) (hh : ∀ σ i e, h (σ.put i e) = ((h σ).1, (h σ).2.put i e)) : Rd (fun _ σ => h σ) :=
  ⟨fun σ => .ret (h σ), fun X σ i e => hh σ i e⟩

theorem rdTake : Rd take :=
  ⟨fun σ => .tk fun b => .ret (b, σ), fun X σ i e => by
    show take X (σ.put i e) = ((tk1 X i e).1, σ.put (tk1 X i e).2.1 (tk1 X i e).2.2)
    unfold take tk1 Sg.put
    by_cases h0 : e = 0
    · by_cases h1 : i = 15
      · simp [h0, h1]
      · by_cases h2 : i = X.L
        · subst h2; simp [h0, h1]
        · simp [h0, h1, h2]
    · simp [h0]⟩

theorem rdRefuse : Rd (fun _ σ => ((), refuse σ)) :=
  ⟨fun σ => .rf (.ret ((), σ)), fun X σ i e => by
    show ((), refuse (σ.put i e)) = ((), σ.put i (if e = 0 then 60 else e))
    unfold refuse Sg.put
    by_cases h0 : e = 0 <;> simp [h0]⟩

theorem Rd.bind {α β : Type} {f : Cx → Sg → α × Sg} {g : α → Cx → Sg → β × Sg} (hf : Rd f) (hg : ∀ a, Rd (g a)) : Rd (fun X σ => g (f X σ).1 X (f X σ).2) := by
  obtain ⟨tf, hf⟩ := hf
  have hc : ∃ tg : α → Sg → Rdr (β × Sg), ∀ a X σ i e, g a X (σ.put i e) = (((tg a σ).run X i e).1.1, ((tg a σ).run X i e).1.2.put ((tg a σ).run X i e).2.1 ((tg a σ).run X i e).2.2) :=
    ⟨fun a => Classical.choose (hg a), fun a => Classical.choose_spec (hg a)⟩
  obtain ⟨tg, hg⟩ := hc
  refine ⟨fun σ => (tf σ).bind fun p => tg p.1 p.2, fun X σ i e => ?_⟩
  simp only [hf X σ i e, Rdr.run_bind, hg]

theorem Rd.ite {α : Type} {c : Sg → Prop} [∀ σ, Decidable (c σ)] {f g : Cx → Sg → α × Sg} (hc : ∀ σ i e, c (σ.put i e) ↔ c σ) (hf : Rd f) (hg : Rd g) : Rd (fun X σ => if c σ then f X σ else g X σ) := by
  obtain ⟨tf, hf⟩ := hf
  obtain ⟨tg, hg⟩ := hg
  refine ⟨fun σ => if c σ then tf σ else tg σ, fun X σ i e => ?_⟩
  by_cases h : c σ
  · simp only [hc, h, if_true, hf X σ i e]
  · simp only [hc, h, if_false, hg X σ i e]

theorem Rd.ifc {α : Type} {c : Prop} [Decidable c] {f g : Cx → Sg → α × Sg} (hf : Rd f) (hg : Rd g) : Rd (fun X σ => if c then f X σ else g X σ) :=
  Rd.ite (c := fun _ => c) (fun _ _ _ => Iff.rfl) hf hg

theorem Rd.arg {α γ : Type} {h : Sg → γ} {g : γ → Cx → Sg → α × Sg} (hh : ∀ σ i e, h (σ.put i e) = h σ) (hg : ∀ a, Rd (g a)) : Rd (fun X σ => g (h σ) X σ) := by
  have hc : ∃ tg : γ → Sg → Rdr (α × Sg), ∀ a X σ i e, g a X (σ.put i e) = (((tg a σ).run X i e).1.1, ((tg a σ).run X i e).1.2.put ((tg a σ).run X i e).2.1 ((tg a σ).run X i e).2.2) :=
    ⟨fun a => Classical.choose (hg a), fun a => Classical.choose_spec (hg a)⟩
  obtain ⟨tg, hg⟩ := hc
  exact ⟨fun σ => tg (h σ) σ, fun X σ i e => by simp only [hh, hg]⟩

/-- Of what answers a state alone. -/
def RdS (g : Cx → Sg → Sg) : Prop := Rd (fun X σ => ((), g X σ))

theorem Rd.thenS {α : Type} {f : Cx → Sg → α × Sg} {u : α → Sg → Sg} (hf : Rd f) (hu : ∀ a σ i e, u a (σ.put i e) = (u a σ).put i e) : RdS (fun X σ => u (f X σ).1 (f X σ).2) :=
  Rd.bind (g := fun a _ σ => ((), u a σ)) hf (fun a => Rd.pure _ (fun σ i e => by rw [hu]))

theorem RdS.comp {f g : Cx → Sg → Sg} (hf : RdS f) (hg : RdS g) : RdS (fun X σ => g X (f X σ)) :=
  Rd.bind (f := fun X σ => ((), f X σ)) (g := fun _ X σ => ((), g X σ)) hf (fun _ => hg)

theorem RdS.id : RdS (fun _ σ => σ) := Rd.pure (fun σ => ((), σ)) (fun _ _ _ => rfl)

theorem Rd.bindS {α : Type} {f : Cx → Sg → α × Sg} {g : α → Cx → Sg → Sg} (hf : Rd f) (hg : ∀ a, RdS (g a)) : RdS (fun X σ => g (f X σ).1 X (f X σ).2) :=
  Rd.bind (g := fun a X σ => ((), g a X σ)) hf hg

/-! ### the parts -/
theorem rdModrm : Rd modrm :=
  ⟨fun σ => match σ.fl with
    | some x => .ret (x, σ)
    | none => .tk fun b => .ret ((b / 64, b / 8 % 8, b % 8), { σ with fl := some (b / 64, b / 8 % 8, b % 8) }), fun X σ i e => by
    have ht : take X (σ.put i e) = ((tk1 X i e).1, σ.put (tk1 X i e).2.1 (tk1 X i e).2.2) := by
      unfold take tk1 Sg.put
      by_cases h0 : e = 0
      · by_cases h1 : i = 15
        · simp [h0, h1]
        · by_cases h2 : i = X.L
          · subst h2; simp [h0, h1]
          · simp [h0, h1, h2]
      · simp [h0]
    unfold modrm
    cases hfl : σ.fl with
    | some x => simp only [show (σ.put i e).fl = some x from hfl, hfl]; rfl
    | none => simp only [show (σ.put i e).fl = none from hfl, hfl, ht]; rfl⟩

theorem rdSibM : Rd sibM :=
  Rd.bind (g := fun b _ σ => (if b / 8 % 8 = 4 then (b % 8, -1, 1) else (b % 8, b / 8 % 8, 2 ^ (b / 64).toNat), σ)) rdTake (fun b => Rd.pure _ (fun _ _ _ => rfl))

theorem rdNumM : ∀ (k i : Nat) (n : Int), Rd (fun X σ => numM X k i n σ)
  | 0, i, n => Rd.pure (fun σ => (n, σ)) (fun _ _ _ => rfl)
  | k + 1, i, n => Rd.bind (g := fun b X σ => numM X k (i + 1) (n + b * 256 ^ i) σ) rdTake (fun b => rdNumM k (i + 1) _)

theorem rdBytesM (s : Int) : Rd (fun X σ => bytesM X s σ) := rdNumM _ _ _

theorem Rd.mapv {α β : Type} {f : Cx → Sg → α × Sg} (u : α → β) (hf : Rd f) : Rd (fun X σ => (u (f X σ).1, (f X σ).2)) :=
  Rd.bind (g := fun a _ σ => (u a, σ)) hf (fun a => Rd.pure _ (fun _ _ _ => rfl))

theorem Rd.same {α : Type} {u : Sg → α} (hu : ∀ σ i e, u (σ.put i e) = u σ) : Rd (fun _ σ => (u σ, σ)) :=
  Rd.pure (fun σ => (u σ, σ)) (fun σ i e => by rw [hu])

theorem rdSibP (r : Int) : Rd (fun X σ => sibP X r σ) := Rd.ifc rdSibM (Rd.same (fun _ _ _ => rfl))

theorem rdDispP (m b : Int) : Rd (fun X σ => dispP X m b σ) :=
  Rd.ifc (rdBytesM 4) (Rd.ifc (Rd.mapv (sgnM 1) (rdBytesM 1)) (Rd.ifc (rdBytesM 4) (Rd.same (fun _ _ _ => rfl))))

theorem rdFinE (s g m b i c : Int) : Rd (fun X σ => finE X s g m b i c σ) := Rd.mapv (fun d => mem9 s (segP g m b) (baseP m b) i c d) (rdDispP m b)

theorem rdPE (s : Int) : Rd (fun X σ => pE X s σ) :=
  Rd.bind (f := modrm) (g := fun x X σ => if x.1 = 3 then (regO x.2.2 s, σ) else finE X s σ.seg x.1 (sibP X x.2.2 σ).1.1 (sibP X x.2.2 σ).1.2.1 (sibP X x.2.2 σ).1.2.2 (sibP X x.2.2 σ).2) rdModrm (fun x =>
    Rd.ifc (Rd.same (fun _ _ _ => rfl)) (Rd.arg (h := fun σ => σ.seg) (g := fun q X σ => finE X s q x.1 (sibP X x.2.2 σ).1.1 (sibP X x.2.2 σ).1.2.1 (sibP X x.2.2 σ).1.2.2 (sibP X x.2.2 σ).2) (fun _ _ _ => rfl)
      (fun q => Rd.bind (g := fun y X σ => finE X s q x.1 y.1 y.2.1 y.2.2 σ) (rdSibP x.2.2) (fun y => rdFinE _ _ _ _ _ _))))

theorem rdPart (p : Pt) (s : Int) : Rd (fun X σ => p.f X s σ) := by
  cases p with
  | A => exact Rd.same (fun _ _ _ => rfl)
  | CL => exact Rd.same (fun _ _ _ => rfl)
  | DX => exact Rd.same (fun _ _ _ => rfl)
  | R => exact Rd.same (u := fun σ => regO (σ.op % 8) s) (fun _ _ _ => rfl)
  | G => exact Rd.mapv (fun x => regO x.2.1 s) rdModrm
  | Rm => exact Rd.mapv (fun x => regO x.2.2 s) rdModrm
  | Cr => exact Rd.mapv (fun x => crO x.2.1) rdModrm
  | I => exact Rd.mapv numO (rdBytesM s)
  | Ib => exact Rd.mapv numO (rdBytesM 1)
  | Iw => exact Rd.mapv numO (rdBytesM 2)
  | Is => exact Rd.mapv (fun n => numO (cutM s (sgnM 1 n))) (rdBytesM 1)
  | J => exact Rd.mapv (fun n => relO (sgnM s n)) (rdBytesM s)
  | Jb => exact Rd.mapv (fun n => relO (sgnM 1 n)) (rdBytesM 1)
  | Far => exact Rd.bind (g := fun n X σ => (farO n (bytesM X 2 σ).1, (bytesM X 2 σ).2)) (rdBytesM s) (fun n => Rd.mapv (fun d => farO n d) (rdBytesM 2))
  | O => exact Rd.arg (h := fun σ => σ.seg) (g := fun q X σ => (mem9 s (segD q) (-1) (-1) 1 (bytesM X 4 σ).1, (bytesM X 4 σ).2)) (fun _ _ _ => rfl) (fun q => Rd.mapv (fun d => mem9 s (segD q) (-1) (-1) 1 d) (rdBytesM 4))
  | E => exact rdPE s
  | Eb => exact rdPE 1
  | Ew => exact rdPE 2
  | Seg r => exact Rd.same (fun _ _ _ => rfl)
  | Num r => exact Rd.same (fun _ _ _ => rfl)

theorem setI_put (i : Nat) (o : Opd) (σ : Sg) (j : Nat) (e : Int) : setI i (o, σ.put j e) = (setI i (o, σ)).put j e := by
  unfold setI
  split <;> rfl

theorem rdStpF (s : Int) : ∀ (fs : List (Cx → Int → Sg → Opd × Sg)) (i : Nat), (∀ f ∈ fs, Rd (fun X σ => f X s σ)) → RdS (fun X σ => stpF X s i fs σ)
  | [], i, _ => RdS.id
  | f :: fs, i, h => RdS.comp (f := fun X σ => setI i (f X s σ)) (g := fun X σ => stpF X s (i + 1) fs σ)
      (Rd.thenS (f := fun X σ => f X s σ) (u := fun a σ => setI i (a, σ)) (h f List.mem_cons_self) (fun a σ j e => setI_put i a σ j e))
      (rdStpF s fs (i + 1) (fun g hg => h g (List.mem_cons_of_mem _ hg)))

theorem RdS.step {u : Sg → Sg} (hu : ∀ σ i e, u (σ.put i e) = (u σ).put i e) : RdS (fun _ σ => u σ) := Rd.pure (fun σ => ((), u σ)) (fun σ i e => by rw [hu])

theorem rdIsM (op sub s : Int) (fs : List (Cx → Int → Sg → Opd × Sg)) (h : ∀ f ∈ fs, Rd (fun X σ => f X s σ)) : RdS (fun X σ => isM X op sub s fs σ) :=
  RdS.comp (f := fun _ σ => hdS op sub s σ) (RdS.step (fun _ _ _ => rfl)) (rdStpF s fs 0 h)

theorem rdParts (ps : List Pt) (s : Int) : ∀ f ∈ ps.map Pt.f, Rd (fun X σ => f X s σ) := by
  intro f hf
  obtain ⟨p, _, rfl⟩ := List.mem_map.1 hf
  exact rdPart p s

theorem rdOnlyM (L : List Int) : RdS (fun X σ => onlyM X L σ) :=
  Rd.bindS (f := modrm) (g := fun x X σ => if L.contains x.2.1 = true then σ else refuse σ) rdModrm (fun x => by
    by_cases h : L.contains x.2.1 = true
    · simp only [h, if_true]; exact RdS.id
    · simp only [h]; exact rdRefuse)

theorem rdOnlyMem : RdS (fun X σ => onlyMem X σ) :=
  Rd.bindS (f := modrm) (g := fun x X σ => if x.1 = 3 then refuse σ else σ) rdModrm (fun x => by
    by_cases h : x.1 = 3
    · simp only [h, if_true]; exact rdRefuse
    · simp only [h, if_false]; exact RdS.id)

theorem Szk.put (z : Szk) (σ : Sg) (i : Nat) (e : Int) : z.of (σ.put i e) = z.of σ := by cases z <;> rfl

theorem RdS.arg {γ : Type} {h : Sg → γ} {g : γ → Cx → Sg → Sg} (hh : ∀ σ i e, h (σ.put i e) = h σ) (hg : ∀ a, RdS (g a)) : RdS (fun X σ => g (h σ) X σ) :=
  Rd.arg (g := fun a X σ => ((), g a X σ)) hh hg

theorem rdGt (t : Gt) : RdS t.g := by
  cases t with
  | no => exact RdS.id
  | only L => exact rdOnlyM L
  | mem => exact rdOnlyMem

theorem rdRowIs (r : Row) : RdS r.is := by
  obtain ⟨gt, op, sb, sz, ps⟩ := r
  cases sb with
  | k x => exact RdS.arg (h := fun σ => sz.of σ) (g := fun s X σ => isM X op x s (ps.map Pt.f) σ) (Szk.put sz) (fun s => rdIsM _ _ _ _ (rdParts ps s))
  | opn => exact RdS.arg (h := fun σ => (σ.op / 8 % 8, sz.of σ)) (g := fun a X σ => isM X op a.1 a.2 (ps.map Pt.f) σ) (fun σ i e => by rw [Szk.put]; rfl) (fun a => rdIsM _ _ _ _ (rdParts ps _))
  | opc => exact RdS.arg (h := fun σ => (σ.op % 16, sz.of σ)) (g := fun a X σ => isM X op a.1 a.2 (ps.map Pt.f) σ) (fun σ i e => by rw [Szk.put]; rfl) (fun a => rdIsM _ _ _ _ (rdParts ps _))
  | mn => exact RdS.arg (h := fun σ => sz.of σ) (g := fun s X σ => isM X op (modrm X σ).1.2.1 s (ps.map Pt.f) (modrm X σ).2) (Szk.put sz) (fun s => Rd.bindS (g := fun x X σ => isM X op x.2.1 s (ps.map Pt.f) σ) rdModrm (fun x => rdIsM _ _ _ _ (rdParts ps _)))
  | mp9 => exact RdS.arg (h := fun σ => sz.of σ) (g := fun s X σ => isM X op (9 + (modrm X σ).1.2.1) s (ps.map Pt.f) (modrm X σ).2) (Szk.put sz) (fun s => Rd.bindS (g := fun x X σ => isM X op (9 + x.2.1) s (ps.map Pt.f) σ) rdModrm (fun x => rdIsM _ _ _ _ (rdParts ps _)))
  | mm4 => exact RdS.arg (h := fun σ => sz.of σ) (g := fun s X σ => isM X op ((modrm X σ).1.2.1 - 4) s (ps.map Pt.f) (modrm X σ).2) (Szk.put sz) (fun s => Rd.bindS (g := fun x X σ => isM X op (x.2.1 - 4) s (ps.map Pt.f) σ) rdModrm (fun x => rdIsM _ _ _ _ (rdParts ps _)))

theorem rdRow (r : Row) : RdS r.g := RdS.comp (f := r.gt.g) (g := r.is) (rdGt r.gt) (rdRowIs r)

theorem RdS.ifc {c : Prop} [Decidable c] {f g : Cx → Sg → Sg} (hf : RdS f) (hg : RdS g) : RdS (fun X σ => if c then f X σ else g X σ) := by
  by_cases h : c
  · simp only [h, if_true]; exact hf
  · simp only [h, if_false]; exact hg

theorem rdIsP (op sub s : Int) (ps : List Pt) : RdS (fun X σ => isM X op sub s (ps.map Pt.f) σ) := rdIsM _ _ _ _ (rdParts ps s)

theorem rdIsStr (sub s : Int) : RdS (fun X σ => isStr X sub s σ) :=
  RdS.comp (f := fun X σ => isM X 36 sub s [pString] σ) (g := fun _ σ => { σ with ins := { σ.ins with rep := σ.rep } })
    (rdIsM _ _ _ _ (by intro f hf; rw [List.mem_singleton] at hf; subst hf; exact Rd.same (u := fun σ => memO σ.seg s) (fun _ _ _ => rfl))) (RdS.step (fun _ _ _ => rfl))

theorem rdGUn (s : Int) : RdS (gUn s) :=
  Rd.bindS (f := modrm) (g := fun x X σ => if x.2.1 = 0 ∨ x.2.1 = 1 then isM X 1 8 s [pE, pI] σ else if x.2.1 = 2 then isM X 1 12 s [pE] σ else if x.2.1 = 3 then isM X 1 11 s [pE] σ else if x.2.1 = 4 ∨ x.2.1 = 5 then isM X 4 (x.2.1 - 4) s [pE] σ else isM X 6 (x.2.1 - 6) s [pE] σ) rdModrm (fun x =>
    RdS.ifc (rdIsP 1 8 s [.E, .I]) (RdS.ifc (rdIsP 1 12 s [.E]) (RdS.ifc (rdIsP 1 11 s [.E]) (RdS.ifc (rdIsP 4 _ s [.E]) (rdIsP 6 _ s [.E])))))

theorem rdIsV (op sub : Int) (ps : List Pt) : RdS (fun X σ => isM X op sub σ.v (ps.map Pt.f) σ) := RdS.arg (h := fun σ => σ.v) (g := fun s X σ => isM X op sub s (ps.map Pt.f) σ) (fun _ _ _ => rfl) (fun s => rdIsP op sub s ps)

theorem rdRefS : RdS (fun _ σ => refuse σ) := rdRefuse

theorem rdGFF : RdS gFF :=
  Rd.bindS (f := modrm) (g := fun x X σ => if x.2.1 = 0 then isM X 1 9 σ.v [pE] σ else if x.2.1 = 1 then isM X 1 10 σ.v [pE] σ else if x.2.1 = 2 then isM X 29 0 σ.v [pE] σ else if x.2.1 = 4 then isM X 27 0 σ.v [pE] σ else if x.2.1 = 6 then isM X 12 0 σ.v [pE] σ else refuse σ) rdModrm (fun x =>
    RdS.ifc (rdIsV 1 9 [.E]) (RdS.ifc (rdIsV 1 10 [.E]) (RdS.ifc (rdIsV 29 0 [.E]) (RdS.ifc (rdIsV 27 0 [.E]) (RdS.ifc (rdIsV 12 0 [.E]) rdRefS)))))

theorem rdGSys : RdS gSys :=
  RdS.comp (f := fun X σ => onlyMem X σ) (g := fun X σ => if (modrm X σ).1.2.1 = 2 then isM X 42 0 4 [pE] (modrm X σ).2 else if (modrm X σ).1.2.1 = 3 then isM X 43 0 4 [pE] (modrm X σ).2 else if (modrm X σ).1.2.1 = 7 then isM X 46 0 4 [pE] (modrm X σ).2 else refuse (modrm X σ).2) rdOnlyMem
    (Rd.bindS (f := modrm) (g := fun x X σ => if x.2.1 = 2 then isM X 42 0 4 [pE] σ else if x.2.1 = 3 then isM X 43 0 4 [pE] σ else if x.2.1 = 7 then isM X 46 0 4 [pE] σ else refuse σ) rdModrm (fun x =>
      RdS.ifc (rdIsP 42 0 4 [.E]) (RdS.ifc (rdIsP 43 0 4 [.E]) (RdS.ifc (rdIsP 46 0 4 [.E]) rdRefS))))

theorem rdGTo : RdS gTo :=
  RdS.comp (f := fun X σ => onlyM X [0, 2, 3, 4, 5] σ) (g := fun X σ => isM X 8 0 2 [pSeg (modrm X σ).1.2.1, pE] (modrm X σ).2) (rdOnlyM _)
    (Rd.bindS (f := modrm) (g := fun x X σ => isM X 8 0 2 [pSeg x.2.1, pE] σ) rdModrm (fun x => rdIsP 8 0 2 [.Seg x.2.1, .E]))

theorem rdGFrom : RdS gFrom :=
  RdS.comp (f := fun X σ => onlyM X [0, 1, 2, 3, 4, 5] σ) (g := fun X σ => isM X 8 0 (if (modrm X σ).1.1 = 3 then (modrm X σ).2.v else 2) [pE, pSeg (modrm X (modrm X σ).2).1.2.1] (modrm X (modrm X σ).2).2) (rdOnlyM _)
    (Rd.bindS (f := modrm) (g := fun x X σ => isM X 8 0 (if x.1 = 3 then σ.v else 2) [pE, pSeg (modrm X σ).1.2.1] (modrm X σ).2) rdModrm (fun x =>
      RdS.arg (h := fun σ => if x.1 = 3 then σ.v else 2) (g := fun s X σ => isM X 8 0 s [pE, pSeg (modrm X σ).1.2.1] (modrm X σ).2) (fun _ _ _ => rfl) (fun s =>
        Rd.bindS (f := modrm) (g := fun y X σ => isM X 8 0 s [pE, pSeg y.2.1] σ) rdModrm (fun y => rdIsP 8 0 s [.E, .Seg y.2.1]))))

theorem rdRule (r : Rule) : RdS r.g := by
  cases r with
  | row r => exact rdRow r
  | str sub z => exact RdS.arg (h := fun σ => z.of σ) (g := fun s X σ => isStr X sub s σ) (Szk.put z) (fun s => rdIsStr sub s)
  | un z => exact RdS.arg (h := fun σ => z.of σ) (g := fun s X σ => gUn s X σ) (Szk.put z) (fun s => rdGUn s)
  | ff => exact rdGFF
  | sys => exact rdGSys
  | to => exact rdGTo
  | frm => exact rdGFrom

theorem preS_put (b : Int) (σ : Sg) (i : Nat) (e : Int) : preS b (σ.put i e) = (preS b σ).put i e := by
  unfold preS
  repeat' split
  all_goals rfl

theorem rdPreL : ∀ (n : Nat) (b : Int), Rd (fun X σ => preL X n b σ)
  | 0, b => Rd.same (fun _ _ _ => rfl)
  | n + 1, b => Rd.ifc (c := isPre b = true) (Rd.bind (f := fun X σ => take X (preS b σ)) (g := fun a X σ => preL X n a σ)
      (Rd.bind (f := fun _ σ => ((), preS b σ)) (g := fun _ X σ => take X σ) (RdS.step (preS_put b)) (fun _ => rdTake)) (fun a => rdPreL n a)) (Rd.same (fun _ _ _ => rfl))

end Go.Proofs.YtolnaodlghahlaaGreatDoor
