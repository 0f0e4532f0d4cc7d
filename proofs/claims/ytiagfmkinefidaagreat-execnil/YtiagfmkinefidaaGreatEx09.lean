/- The bus and its devices: DecTree, DecRun, DecMap0, DecIns. -/
import Derived.Test.YtiagfmkinefidaaGreatEx08
import Derived.MapKept
import Derived.Carry
import Derived.BigRegion
import Derived.Orders
namespace Go.Proofs.YtiagfmkinefidaaGreat.Dc
open Go.ChangeShapes Go.WideShapes Go.ChangeAt Go.RowKit
set_option linter.unusedVariables false
set_option maxRecDepth 20000
inductive Rdr (α : Type) where
  | ret (a : α)
  | tk (k : Int → Rdr α)
  | rf (k : Rdr α)
def tk1 (X : Cx) (i : Nat) (e : Int) : Int × Nat × Int :=
  if e ≠ 0 then (0, i, e) else if i = 15 then (0, i, 62) else if i = X.L then (0, i, 61) else (X.bt i, i + 1, e)
def Rdr.run {α : Type} : Rdr α → Cx → Nat → Int → α × Nat × Int
  | .ret a, _, i, e => (a, i, e)
  | .tk k, X, i, e => (k (tk1 X i e).1).run X (tk1 X i e).2.1 (tk1 X i e).2.2
  | .rf k, X, i, e => k.run X i (if e = 0 then 60 else e)
def Rdr.bind {α β : Type} : Rdr α → (α → Rdr β) → Rdr β
  | .ret a, f => f a
  | .tk k, f => .tk fun b => (k b).bind f
  | .rf k, f => .rf (k.bind f)
theorem Rdr.run_bind {α β : Type} (f : α → Rdr β) (X : Cx) : ∀ (t : Rdr α) (i : Nat) (e : Int), (t.bind f).run X i e = (f (t.run X i e).1).run X (t.run X i e).2.1 (t.run X i e).2.2
  | .ret a, i, e => rfl
  | .tk k, i, e => Rdr.run_bind f X (k (tk1 X i e).1) _ _
  | .rf k, i, e => Rdr.run_bind f X k _ _
def Sg.put (σ : Sg) (i : Nat) (e : Int) : Sg := { σ with at' := i, err := e }
theorem Sg.put_self (σ : Sg) : σ.put σ.at' σ.err = σ := rfl
/-- It is a reader: a tree that what lies beside the reader chooses. -/
def Rd {α : Type} (g : Cx → Sg → α × Sg) : Prop :=
  ∃ t : Sg → Rdr (α × Sg), ∀ X σ i e, g X (σ.put i e) = (((t σ).run X i e).1.1, ((t σ).run X i e).1.2.put ((t σ).run X i e).2.1 ((t σ).run X i e).2.2)
theorem Rd.pure {α : Type} (h : Sg → α × Sg) (hh : ∀ σ i e, h (σ.put i e) = ((h σ).1, (h σ).2.put i e)) : Rd (fun _ σ => h σ) :=
  ⟨fun σ => .ret (h σ), fun X σ i e => hh σ i e⟩
theorem rdTake : Rd take :=
  ⟨fun σ => .tk fun b => .ret (b, σ), fun X σ i e => by
    show take X (σ.put i e) = ((tk1 X i e).1, σ.put (tk1 X i e).2.1 (tk1 X i e).2.2)
    unfold take tk1 Sg.put
    by_cases h0 : e = 0
    · by_cases h1 : i = 15
      · simp [h0, h1]
      · by_cases h2 : i = X.L
        · subst h2; simp [h0, h1]
        · simp [h0, h1, h2]
    · simp [h0]⟩
theorem rdRefuse : Rd (fun _ σ => ((), refuse σ)) :=
  ⟨fun σ => .rf (.ret ((), σ)), fun X σ i e => by
    show ((), refuse (σ.put i e)) = ((), σ.put i (if e = 0 then 60 else e))
    unfold refuse Sg.put
    by_cases h0 : e = 0 <;> simp [h0]⟩
theorem Rd.bind {α β : Type} {f : Cx → Sg → α × Sg} {g : α → Cx → Sg → β × Sg} (hf : Rd f) (hg : ∀ a, Rd (g a)) : Rd (fun X σ => g (f X σ).1 X (f X σ).2) := by
  obtain ⟨tf, hf⟩ := hf
  have hc : ∃ tg : α → Sg → Rdr (β × Sg), ∀ a X σ i e, g a X (σ.put i e) = (((tg a σ).run X i e).1.1, ((tg a σ).run X i e).1.2.put ((tg a σ).run X i e).2.1 ((tg a σ).run X i e).2.2) :=
    ⟨fun a => Classical.choose (hg a), fun a => Classical.choose_spec (hg a)⟩
  obtain ⟨tg, hg⟩ := hc
  refine ⟨fun σ => (tf σ).bind fun p => tg p.1 p.2, fun X σ i e => ?_⟩
  simp only [hf X σ i e, Rdr.run_bind, hg]
theorem Rd.ite {α : Type} {c : Sg → Prop} [∀ σ, Decidable (c σ)] {f g : Cx → Sg → α × Sg} (hc : ∀ σ i e, c (σ.put i e) ↔ c σ) (hf : Rd f) (hg : Rd g) : Rd (fun X σ => if c σ then f X σ else g X σ) := by
  obtain ⟨tf, hf⟩ := hf
  obtain ⟨tg, hg⟩ := hg
  refine ⟨fun σ => if c σ then tf σ else tg σ, fun X σ i e => ?_⟩
  by_cases h : c σ
  · simp only [hc, h, if_true, hf X σ i e]
  · simp only [hc, h, if_false, hg X σ i e]
theorem Rd.ifc {α : Type} {c : Prop} [Decidable c] {f g : Cx → Sg → α × Sg} (hf : Rd f) (hg : Rd g) : Rd (fun X σ => if c then f X σ else g X σ) :=
  Rd.ite (c := fun _ => c) (fun _ _ _ => Iff.rfl) hf hg
theorem Rd.arg {α γ : Type} {h : Sg → γ} {g : γ → Cx → Sg → α × Sg} (hh : ∀ σ i e, h (σ.put i e) = h σ) (hg : ∀ a, Rd (g a)) : Rd (fun X σ => g (h σ) X σ) := by
  have hc : ∃ tg : γ → Sg → Rdr (α × Sg), ∀ a X σ i e, g a X (σ.put i e) = (((tg a σ).run X i e).1.1, ((tg a σ).run X i e).1.2.put ((tg a σ).run X i e).2.1 ((tg a σ).run X i e).2.2) :=
    ⟨fun a => Classical.choose (hg a), fun a => Classical.choose_spec (hg a)⟩
  obtain ⟨tg, hg⟩ := hc
  exact ⟨fun σ => tg (h σ) σ, fun X σ i e => by simp only [hh, hg]⟩
/-- Of what answers a state alone. -/
def RdS (g : Cx → Sg → Sg) : Prop := Rd (fun X σ => ((), g X σ))
theorem Rd.thenS {α : Type} {f : Cx → Sg → α × Sg} {u : α → Sg → Sg} (hf : Rd f) (hu : ∀ a σ i e, u a (σ.put i e) = (u a σ).put i e) : RdS (fun X σ => u (f X σ).1 (f X σ).2) :=
  Rd.bind (g := fun a _ σ => ((), u a σ)) hf (fun a => Rd.pure _ (fun σ i e => by rw [hu]))
theorem RdS.comp {f g : Cx → Sg → Sg} (hf : RdS f) (hg : RdS g) : RdS (fun X σ => g X (f X σ)) :=
  Rd.bind (f := fun X σ => ((), f X σ)) (g := fun _ X σ => ((), g X σ)) hf (fun _ => hg)
theorem RdS.id : RdS (fun _ σ => σ) := Rd.pure (fun σ => ((), σ)) (fun _ _ _ => rfl)
theorem Rd.bindS {α : Type} {f : Cx → Sg → α × Sg} {g : α → Cx → Sg → Sg} (hf : Rd f) (hg : ∀ a, RdS (g a)) : RdS (fun X σ => g (f X σ).1 X (f X σ).2) :=
  Rd.bind (g := fun a X σ => ((), g a X σ)) hf hg
/-! ### the parts -/
theorem rdModrm : Rd modrm :=
  ⟨fun σ => match σ.fl with
    | some x => .ret (x, σ)
    | none => .tk fun b => .ret ((b / 64, b / 8 % 8, b % 8), { σ with fl := some (b / 64, b / 8 % 8, b % 8) }), fun X σ i e => by
    have ht : take X (σ.put i e) = ((tk1 X i e).1, σ.put (tk1 X i e).2.1 (tk1 X i e).2.2) := by
      unfold take tk1 Sg.put
      by_cases h0 : e = 0
      · by_cases h1 : i = 15
        · simp [h0, h1]
        · by_cases h2 : i = X.L
          · subst h2; simp [h0, h1]
          · simp [h0, h1, h2]
      · simp [h0]
    unfold modrm
    cases hfl : σ.fl with
    | some x => simp only [show (σ.put i e).fl = some x from hfl, hfl]; rfl
    | none => simp only [show (σ.put i e).fl = none from hfl, hfl, ht]; rfl⟩
theorem rdSibM : Rd sibM :=
  Rd.bind (g := fun b _ σ => (if b / 8 % 8 = 4 then (b % 8, -1, 1) else (b % 8, b / 8 % 8, 2 ^ (b / 64).toNat), σ)) rdTake (fun b => Rd.pure _ (fun _ _ _ => rfl))
theorem rdNumM : ∀ (k i : Nat) (n : Int), Rd (fun X σ => numM X k i n σ)
  | 0, i, n => Rd.pure (fun σ => (n, σ)) (fun _ _ _ => rfl)
  | k + 1, i, n => Rd.bind (g := fun b X σ => numM X k (i + 1) (n + b * 256 ^ i) σ) rdTake (fun b => rdNumM k (i + 1) _)
theorem rdBytesM (s : Int) : Rd (fun X σ => bytesM X s σ) := rdNumM _ _ _
theorem Rd.mapv {α β : Type} {f : Cx → Sg → α × Sg} (u : α → β) (hf : Rd f) : Rd (fun X σ => (u (f X σ).1, (f X σ).2)) :=
  Rd.bind (g := fun a _ σ => (u a, σ)) hf (fun a => Rd.pure _ (fun _ _ _ => rfl))
theorem Rd.same {α : Type} {u : Sg → α} (hu : ∀ σ i e, u (σ.put i e) = u σ) : Rd (fun _ σ => (u σ, σ)) :=
  Rd.pure (fun σ => (u σ, σ)) (fun σ i e => by rw [hu])
theorem rdSibP (r : Int) : Rd (fun X σ => sibP X r σ) := Rd.ifc rdSibM (Rd.same (fun _ _ _ => rfl))
theorem rdDispP (m b : Int) : Rd (fun X σ => dispP X m b σ) :=
  Rd.ifc (rdBytesM 4) (Rd.ifc (Rd.mapv (sgnM 1) (rdBytesM 1)) (Rd.ifc (rdBytesM 4) (Rd.same (fun _ _ _ => rfl))))
theorem rdFinE (s g m b i c : Int) : Rd (fun X σ => finE X s g m b i c σ) := Rd.mapv (fun d => mem9 s (segP g m b) (baseP m b) i c d) (rdDispP m b)
theorem rdPE (s : Int) : Rd (fun X σ => pE X s σ) :=
  Rd.bind (f := modrm) (g := fun x X σ => if x.1 = 3 then (regO x.2.2 s, σ) else finE X s σ.seg x.1 (sibP X x.2.2 σ).1.1 (sibP X x.2.2 σ).1.2.1 (sibP X x.2.2 σ).1.2.2 (sibP X x.2.2 σ).2) rdModrm (fun x =>
    Rd.ifc (Rd.same (fun _ _ _ => rfl)) (Rd.arg (h := fun σ => σ.seg) (g := fun q X σ => finE X s q x.1 (sibP X x.2.2 σ).1.1 (sibP X x.2.2 σ).1.2.1 (sibP X x.2.2 σ).1.2.2 (sibP X x.2.2 σ).2) (fun _ _ _ => rfl)
      (fun q => Rd.bind (g := fun y X σ => finE X s q x.1 y.1 y.2.1 y.2.2 σ) (rdSibP x.2.2) (fun y => rdFinE _ _ _ _ _ _))))
theorem rdPart (p : Pt) (s : Int) : Rd (fun X σ => p.f X s σ) := by
  cases p with
  | A => exact Rd.same (fun _ _ _ => rfl)
  | CL => exact Rd.same (fun _ _ _ => rfl)
  | DX => exact Rd.same (fun _ _ _ => rfl)
  | R => exact Rd.same (u := fun σ => regO (σ.op % 8) s) (fun _ _ _ => rfl)
  | G => exact Rd.mapv (fun x => regO x.2.1 s) rdModrm
  | Rm => exact Rd.mapv (fun x => regO x.2.2 s) rdModrm
  | Cr => exact Rd.mapv (fun x => crO x.2.1) rdModrm
  | I => exact Rd.mapv numO (rdBytesM s)
  | Ib => exact Rd.mapv numO (rdBytesM 1)
  | Iw => exact Rd.mapv numO (rdBytesM 2)
  | Is => exact Rd.mapv (fun n => numO (cutM s (sgnM 1 n))) (rdBytesM 1)
  | J => exact Rd.mapv (fun n => relO (sgnM s n)) (rdBytesM s)
  | Jb => exact Rd.mapv (fun n => relO (sgnM 1 n)) (rdBytesM 1)
  | Far => exact Rd.bind (g := fun n X σ => (farO n (bytesM X 2 σ).1, (bytesM X 2 σ).2)) (rdBytesM s) (fun n => Rd.mapv (fun d => farO n d) (rdBytesM 2))
  | O => exact Rd.arg (h := fun σ => σ.seg) (g := fun q X σ => (mem9 s (segD q) (-1) (-1) 1 (bytesM X 4 σ).1, (bytesM X 4 σ).2)) (fun _ _ _ => rfl) (fun q => Rd.mapv (fun d => mem9 s (segD q) (-1) (-1) 1 d) (rdBytesM 4))
  | E => exact rdPE s
  | Eb => exact rdPE 1
  | Ew => exact rdPE 2
  | Seg r => exact Rd.same (fun _ _ _ => rfl)
  | Num r => exact Rd.same (fun _ _ _ => rfl)
theorem setI_put (i : Nat) (o : Opd) (σ : Sg) (j : Nat) (e : Int) : setI i (o, σ.put j e) = (setI i (o, σ)).put j e := by
  unfold setI
  split <;> rfl
theorem rdStpF (s : Int) : ∀ (fs : List (Cx → Int → Sg → Opd × Sg)) (i : Nat), (∀ f ∈ fs, Rd (fun X σ => f X s σ)) → RdS (fun X σ => stpF X s i fs σ)
  | [], i, _ => RdS.id
  | f :: fs, i, h => RdS.comp (f := fun X σ => setI i (f X s σ)) (g := fun X σ => stpF X s (i + 1) fs σ)
      (Rd.thenS (f := fun X σ => f X s σ) (u := fun a σ => setI i (a, σ)) (h f List.mem_cons_self) (fun a σ j e => setI_put i a σ j e))
      (rdStpF s fs (i + 1) (fun g hg => h g (List.mem_cons_of_mem _ hg)))
theorem RdS.step {u : Sg → Sg} (hu : ∀ σ i e, u (σ.put i e) = (u σ).put i e) : RdS (fun _ σ => u σ) := Rd.pure (fun σ => ((), u σ)) (fun σ i e => by rw [hu])
theorem rdIsM (op sub s : Int) (fs : List (Cx → Int → Sg → Opd × Sg)) (h : ∀ f ∈ fs, Rd (fun X σ => f X s σ)) : RdS (fun X σ => isM X op sub s fs σ) :=
  RdS.comp (f := fun _ σ => hdS op sub s σ) (RdS.step (fun _ _ _ => rfl)) (rdStpF s fs 0 h)
theorem rdParts (ps : List Pt) (s : Int) : ∀ f ∈ ps.map Pt.f, Rd (fun X σ => f X s σ) := by
  intro f hf
  obtain ⟨p, _, rfl⟩ := List.mem_map.1 hf
  exact rdPart p s
theorem rdOnlyM (L : List Int) : RdS (fun X σ => onlyM X L σ) :=
  Rd.bindS (f := modrm) (g := fun x X σ => if L.contains x.2.1 = true then σ else refuse σ) rdModrm (fun x => by
    by_cases h : L.contains x.2.1 = true
    · simp only [h, if_true]; exact RdS.id
    · simp only [h]; exact rdRefuse)
theorem rdOnlyMem : RdS (fun X σ => onlyMem X σ) :=
  Rd.bindS (f := modrm) (g := fun x X σ => if x.1 = 3 then refuse σ else σ) rdModrm (fun x => by
    by_cases h : x.1 = 3
    · simp only [h, if_true]; exact rdRefuse
    · simp only [h, if_false]; exact RdS.id)
theorem Szk.put (z : Szk) (σ : Sg) (i : Nat) (e : Int) : z.of (σ.put i e) = z.of σ := by cases z <;> rfl
theorem RdS.arg {γ : Type} {h : Sg → γ} {g : γ → Cx → Sg → Sg} (hh : ∀ σ i e, h (σ.put i e) = h σ) (hg : ∀ a, RdS (g a)) : RdS (fun X σ => g (h σ) X σ) :=
  Rd.arg (g := fun a X σ => ((), g a X σ)) hh hg
theorem rdGt (t : Gt) : RdS t.g := by
  cases t with
  | no => exact RdS.id
  | only L => exact rdOnlyM L
  | mem => exact rdOnlyMem
theorem rdRowIs (r : Row) : RdS r.is := by
  obtain ⟨gt, op, sb, sz, ps⟩ := r
  cases sb with
  | k x => exact RdS.arg (h := fun σ => sz.of σ) (g := fun s X σ => isM X op x s (ps.map Pt.f) σ) (Szk.put sz) (fun s => rdIsM _ _ _ _ (rdParts ps s))
  | opn => exact RdS.arg (h := fun σ => (σ.op / 8 % 8, sz.of σ)) (g := fun a X σ => isM X op a.1 a.2 (ps.map Pt.f) σ) (fun σ i e => by rw [Szk.put]; rfl) (fun a => rdIsM _ _ _ _ (rdParts ps _))
  | opc => exact RdS.arg (h := fun σ => (σ.op % 16, sz.of σ)) (g := fun a X σ => isM X op a.1 a.2 (ps.map Pt.f) σ) (fun σ i e => by rw [Szk.put]; rfl) (fun a => rdIsM _ _ _ _ (rdParts ps _))
  | mn => exact RdS.arg (h := fun σ => sz.of σ) (g := fun s X σ => isM X op (modrm X σ).1.2.1 s (ps.map Pt.f) (modrm X σ).2) (Szk.put sz) (fun s => Rd.bindS (g := fun x X σ => isM X op x.2.1 s (ps.map Pt.f) σ) rdModrm (fun x => rdIsM _ _ _ _ (rdParts ps _)))
  | mp9 => exact RdS.arg (h := fun σ => sz.of σ) (g := fun s X σ => isM X op (9 + (modrm X σ).1.2.1) s (ps.map Pt.f) (modrm X σ).2) (Szk.put sz) (fun s => Rd.bindS (g := fun x X σ => isM X op (9 + x.2.1) s (ps.map Pt.f) σ) rdModrm (fun x => rdIsM _ _ _ _ (rdParts ps _)))
  | mm4 => exact RdS.arg (h := fun σ => sz.of σ) (g := fun s X σ => isM X op ((modrm X σ).1.2.1 - 4) s (ps.map Pt.f) (modrm X σ).2) (Szk.put sz) (fun s => Rd.bindS (g := fun x X σ => isM X op (x.2.1 - 4) s (ps.map Pt.f) σ) rdModrm (fun x => rdIsM _ _ _ _ (rdParts ps _)))
theorem rdRow (r : Row) : RdS r.g := RdS.comp (f := r.gt.g) (g := r.is) (rdGt r.gt) (rdRowIs r)
theorem RdS.ifc {c : Prop} [Decidable c] {f g : Cx → Sg → Sg} (hf : RdS f) (hg : RdS g) : RdS (fun X σ => if c then f X σ else g X σ) := by
  by_cases h : c
  · simp only [h, if_true]; exact hf
  · simp only [h, if_false]; exact hg
theorem rdIsP (op sub s : Int) (ps : List Pt) : RdS (fun X σ => isM X op sub s (ps.map Pt.f) σ) := rdIsM _ _ _ _ (rdParts ps s)
theorem rdIsStr (sub s : Int) : RdS (fun X σ => isStr X sub s σ) :=
  RdS.comp (f := fun X σ => isM X 36 sub s [pString] σ) (g := fun _ σ => { σ with ins := { σ.ins with rep := σ.rep } })
    (rdIsM _ _ _ _ (by intro f hf; rw [List.mem_singleton] at hf; subst hf; exact Rd.same (u := fun σ => memO σ.seg s) (fun _ _ _ => rfl))) (RdS.step (fun _ _ _ => rfl))
theorem rdGUn (s : Int) : RdS (gUn s) :=
  Rd.bindS (f := modrm) (g := fun x X σ => if x.2.1 = 0 ∨ x.2.1 = 1 then isM X 1 8 s [pE, pI] σ else if x.2.1 = 2 then isM X 1 12 s [pE] σ else if x.2.1 = 3 then isM X 1 11 s [pE] σ else if x.2.1 = 4 ∨ x.2.1 = 5 then isM X 4 (x.2.1 - 4) s [pE] σ else isM X 6 (x.2.1 - 6) s [pE] σ) rdModrm (fun x =>
    RdS.ifc (rdIsP 1 8 s [.E, .I]) (RdS.ifc (rdIsP 1 12 s [.E]) (RdS.ifc (rdIsP 1 11 s [.E]) (RdS.ifc (rdIsP 4 _ s [.E]) (rdIsP 6 _ s [.E])))))
theorem rdIsV (op sub : Int) (ps : List Pt) : RdS (fun X σ => isM X op sub σ.v (ps.map Pt.f) σ) := RdS.arg (h := fun σ => σ.v) (g := fun s X σ => isM X op sub s (ps.map Pt.f) σ) (fun _ _ _ => rfl) (fun s => rdIsP op sub s ps)
theorem rdRefS : RdS (fun _ σ => refuse σ) := rdRefuse
theorem rdGFF : RdS gFF :=
  Rd.bindS (f := modrm) (g := fun x X σ => if x.2.1 = 0 then isM X 1 9 σ.v [pE] σ else if x.2.1 = 1 then isM X 1 10 σ.v [pE] σ else if x.2.1 = 2 then isM X 29 0 σ.v [pE] σ else if x.2.1 = 4 then isM X 27 0 σ.v [pE] σ else if x.2.1 = 6 then isM X 12 0 σ.v [pE] σ else refuse σ) rdModrm (fun x =>
    RdS.ifc (rdIsV 1 9 [.E]) (RdS.ifc (rdIsV 1 10 [.E]) (RdS.ifc (rdIsV 29 0 [.E]) (RdS.ifc (rdIsV 27 0 [.E]) (RdS.ifc (rdIsV 12 0 [.E]) rdRefS)))))
theorem rdGSys : RdS gSys :=
  RdS.comp (f := fun X σ => onlyMem X σ) (g := fun X σ => if (modrm X σ).1.2.1 = 2 then isM X 42 0 4 [pE] (modrm X σ).2 else if (modrm X σ).1.2.1 = 3 then isM X 43 0 4 [pE] (modrm X σ).2 else if (modrm X σ).1.2.1 = 7 then isM X 46 0 4 [pE] (modrm X σ).2 else refuse (modrm X σ).2) rdOnlyMem
    (Rd.bindS (f := modrm) (g := fun x X σ => if x.2.1 = 2 then isM X 42 0 4 [pE] σ else if x.2.1 = 3 then isM X 43 0 4 [pE] σ else if x.2.1 = 7 then isM X 46 0 4 [pE] σ else refuse σ) rdModrm (fun x =>
      RdS.ifc (rdIsP 42 0 4 [.E]) (RdS.ifc (rdIsP 43 0 4 [.E]) (RdS.ifc (rdIsP 46 0 4 [.E]) rdRefS))))
theorem rdGTo : RdS gTo :=
  RdS.comp (f := fun X σ => onlyM X [0, 2, 3, 4, 5] σ) (g := fun X σ => isM X 8 0 2 [pSeg (modrm X σ).1.2.1, pE] (modrm X σ).2) (rdOnlyM _)
    (Rd.bindS (f := modrm) (g := fun x X σ => isM X 8 0 2 [pSeg x.2.1, pE] σ) rdModrm (fun x => rdIsP 8 0 2 [.Seg x.2.1, .E]))
theorem rdGFrom : RdS gFrom :=
  RdS.comp (f := fun X σ => onlyM X [0, 1, 2, 3, 4, 5] σ) (g := fun X σ => isM X 8 0 (if (modrm X σ).1.1 = 3 then (modrm X σ).2.v else 2) [pE, pSeg (modrm X (modrm X σ).2).1.2.1] (modrm X (modrm X σ).2).2) (rdOnlyM _)
    (Rd.bindS (f := modrm) (g := fun x X σ => isM X 8 0 (if x.1 = 3 then σ.v else 2) [pE, pSeg (modrm X σ).1.2.1] (modrm X σ).2) rdModrm (fun x =>
      RdS.arg (h := fun σ => if x.1 = 3 then σ.v else 2) (g := fun s X σ => isM X 8 0 s [pE, pSeg (modrm X σ).1.2.1] (modrm X σ).2) (fun _ _ _ => rfl) (fun s =>
        Rd.bindS (f := modrm) (g := fun y X σ => isM X 8 0 s [pE, pSeg y.2.1] σ) rdModrm (fun y => rdIsP 8 0 s [.E, .Seg y.2.1]))))
theorem rdRule (r : Rule) : RdS r.g := by
  cases r with
  | row r => exact rdRow r
  | str sub z => exact RdS.arg (h := fun σ => z.of σ) (g := fun s X σ => isStr X sub s σ) (Szk.put z) (fun s => rdIsStr sub s)
  | un z => exact RdS.arg (h := fun σ => z.of σ) (g := fun s X σ => gUn s X σ) (Szk.put z) (fun s => rdGUn s)
  | ff => exact rdGFF
  | sys => exact rdGSys
  | to => exact rdGTo
  | frm => exact rdGFrom
theorem preS_put (b : Int) (σ : Sg) (i : Nat) (e : Int) : preS b (σ.put i e) = (preS b σ).put i e := by
  unfold preS
  repeat' split
  all_goals rfl
theorem rdPreL : ∀ (n : Nat) (b : Int), Rd (fun X σ => preL X n b σ)
  | 0, b => Rd.same (fun _ _ _ => rfl)
  | n + 1, b => Rd.ifc (c := isPre b = true) (Rd.bind (f := fun X σ => take X (preS b σ)) (g := fun a X σ => preL X n a σ)
      (Rd.bind (f := fun _ σ => ((), preS b σ)) (g := fun _ X σ => take X σ) (RdS.step (preS_put b)) (fun _ => rdTake)) (fun a => rdPreL n a)) (Rd.same (fun _ _ _ => rfl))
end Go.Proofs.YtiagfmkinefidaaGreat.Dc
namespace Go.Proofs.YtiagfmkinefidaaGreat.Dc
open Go.ChangeShapes Go.WideShapes Go.ChangeAt Go.RowKit
set_option linter.unusedVariables false
set_option maxRecDepth 20000
theorem Rdr.up {α : Type} (X : Cx) : ∀ (t : Rdr α) (i : Nat) (e : Int), i ≤ (t.run X i e).2.1
  | .ret a, i, e => Nat.le_refl _
  | .tk k, i, e => by
    show i ≤ ((k (tk1 X i e).1).run X (tk1 X i e).2.1 (tk1 X i e).2.2).2.1
    refine Nat.le_trans ?_ (Rdr.up X _ _ _)
    unfold tk1
    split
    · exact Nat.le_refl _
    · split
      · exact Nat.le_refl _
      · split
        · exact Nat.le_refl _
        · exact Nat.le_succ _
  | .rf k, i, e => Rdr.up X k i _
theorem Rdr.same {α : Type} (X Y : Cx) (hL : X.L = Y.L) (hb : X.bt = Y.bt) : ∀ (t : Rdr α) (i : Nat) (e : Int), t.run X i e = t.run Y i e
  | .ret a, i, e => rfl
  | .tk k, i, e => by
    have : tk1 X i e = tk1 Y i e := by unfold tk1; rw [hL, hb]
    show (k (tk1 X i e).1).run X (tk1 X i e).2.1 (tk1 X i e).2.2 = (k (tk1 Y i e).1).run Y (tk1 Y i e).2.1 (tk1 Y i e).2.2
    rw [this]
    exact Rdr.same X Y hL hb _ _ _
  | .rf k, i, e => Rdr.same X Y hL hb k i _
/-! ### of readers that answer a state -/
theorem RdS.tree {g : Cx → Sg → Sg} (hg : RdS g) (σ : Sg) : ∃ t : Rdr Sg, ∀ X i e, g X (σ.put i e) = (t.run X i e).1.put (t.run X i e).2.1 (t.run X i e).2.2 := by
  obtain ⟨t, ht⟩ := hg
  refine ⟨(t σ).bind fun p => .ret p.2, fun X i e => ?_⟩
  have h := congrArg Prod.snd (ht X σ i e)
  simp only [Rdr.run_bind] at h ⊢
  exact h
theorem RdS.same {g : Cx → Sg → Sg} (hg : RdS g) (X Y : Cx) (hL : X.L = Y.L) (hb : X.bt = Y.bt) (σ : Sg) : g X σ = g Y σ := by
  obtain ⟨t, ht⟩ := hg.tree σ
  have e := ht X σ.at' σ.err
  have e2 := ht Y σ.at' σ.err
  rw [Sg.put_self] at e e2
  rw [e, e2, Rdr.same X Y hL hb]
/-! ### the whole -/
def sg0 : Sg := ⟨0, 0, 0, 4, -1, 0, none, Ins.zero⟩
def opS (b : Int) (σ : Sg) : Sg := { σ with op := b }
/-- Behind the first byte: prefixes, the opcode, its rule. -/
def behM (rl : Int → Option Rule) (b : Int) (X : Cx) (σ : Sg) : Sg := match rl b with | some r => r.g X (opS b σ) | none => refuse (opS b σ)
def opM (X : Cx) (b : Int) (σ : Sg) : Int × Sg := if b = 15 then (3840 + (take X σ).1, (take X σ).2) else (b, σ)
def restM (rl : Int → Option Rule) (n : Nat) (b : Int) (X : Cx) (σ : Sg) : Sg :=
  behM rl (opM X (preL X n b σ).1 (preL X n b σ).2).1 X (opM X (preL X n b σ).1 (preL X n b σ).2).2
def fullM (rl : Int → Option Rule) (X : Cx) (σ : Sg) : Sg := restM rl 16 (take X σ).1 X (take X σ).2
theorem rdBehM (rl : Int → Option Rule) (b : Int) : RdS (behM rl b) := by
  unfold behM
  cases h : rl b with
  | none => exact RdS.comp (f := fun _ σ => opS b σ) (RdS.step (fun _ _ _ => rfl)) rdRefS
  | some r => exact RdS.comp (f := fun _ σ => opS b σ) (RdS.step (fun _ _ _ => rfl)) (rdRule r)
theorem rdOpM (b : Int) : Rd (fun X σ => opM X b σ) := Rd.ifc (Rd.mapv (fun a => 3840 + a) rdTake) (Rd.same (fun _ _ _ => rfl))
theorem rdRestM (rl : Int → Option Rule) (n : Nat) (b : Int) : RdS (restM rl n b) :=
  Rd.bindS (f := fun X σ => preL X n b σ) (g := fun a X σ => behM rl (opM X a σ).1 X (opM X a σ).2) (rdPreL n b)
    (fun a => Rd.bindS (f := fun X σ => opM X a σ) (g := fun c X σ => behM rl c X σ) (rdOpM a) (fun c => rdBehM rl c))
theorem rdFullM (rl : Int → Option Rule) : RdS (fullM rl) := Rd.bindS (f := take) (g := fun b X σ => restM rl 16 b X σ) rdTake (fun b => rdRestM rl 16 b)
def bx (L : Nat) (bt : Nat → Int) : Cx := ⟨0, 0, none, 0, L, bt, 0⟩
/-- What bytes mean: the instruction and the error. -/
def decM (rl : Int → Option Rule) (L : Nat) (bt : Nat → Int) : Ins × Int :=
  if (fullM rl (bx L bt) sg0).err = 0 then ({ (fullM rl (bx L bt) sg0).ins with len := (fullM rl (bx L bt) sg0).at' }, 0) else (Ins.zero, (fullM rl (bx L bt) sg0).err)
end Go.Proofs.YtiagfmkinefidaaGreat.Dc
namespace Go.Proofs.YtiagfmkinefidaaGreat.Dc
open Go.ChangeShapes Go.WideShapes Go.ChangeAt Go.RowKit
set_option linter.unusedVariables false
set_option maxRecDepth 20000
theorem keyT : Tryz.prog.underlying 3 = some (.int .i64) := by kernel_rfl
theorem mapT : Tryz.prog.underlying 249 = some (.map 3 205) := by kernel_rfl
theorem zeroT (w : World) : (zeroValue 205).run Tryz.prog w = .ok .nilFunc w := by kernel_rfl
theorem alloc_set (w : World) (o o' : Obj) : ({ w.alloc o with heap := (w.alloc o).heap.setIfInBounds w.heap.size o' } : World) = w.alloc o' := by
  have e : (w.alloc o).heap.setIfInBounds w.heap.size o' = (w.alloc o').heap := by
    show (w.heap.push o).setIfInBounds w.heap.size o' = w.heap.push o'
    apply Array.ext
    · simp
    · intro i h1 h2
      have h3 : i < w.heap.size + 1 := by simpa using h2
      by_cases h : w.heap.size = i
      · subst h; simp
      · have h4 : i < w.heap.size := by omega
        rw [Array.getElem_setIfInBounds_ne (h := h), Array.getElem_push_lt h4, Array.getElem_push_lt h4]
        simp; omega
  rw [e]
  rfl
theorem put_new (w : World) (es : Array MapEntry) (n : Nat) (i : Int) (v : Value) (hf : Instr.findNow (.int .i64) (.int .i64 i) es.toList 0 = some none) :
    (Instr.mapUpdate 249 (.map (some w.heap.size)) (.int .i64 i) v).run Tryz.prog (w.alloc (.map es n)) = .ok () (w.alloc (.map (es.push ⟨.int .i64 i, v, n⟩) (n + 1))) := by
  have hb : (w.alloc (.map es n)).heap[w.heap.size]? = some (.map es n) := (MapKept.heap_alloc w (.map es n)).1
  have hc := MapKept.run_checkKey (P := Tryz.prog) (w := w.alloc (.map es n)) keyT (k := .int .i64 i) (by simp [MapKept.IsKey]) false 9999
  have hd := MapKept.run_findKey (P := Tryz.prog) (w := w.alloc (.map es n)) keyT hf
  have hs := MapKept.run_setObj_map (P := Tryz.prog) (.map (es.push ⟨.int .i64 i, v, n⟩) (n + 1)) hb
  rw [alloc_set] at hs
  simp [Instr.mapUpdate, run_underlying mapT, MapKept.run_getObj_map hb, hc, hd, hs, Result.andThen]
theorem put_old (w : World) (es : Array MapEntry) (n : Nat) (i : Int) (v v0 : Value) (j : Nat) (e : MapEntry) (he : es[j]? = some e) (hk : e.key = .int .i64 i) (hf : Instr.findNow (.int .i64) (.int .i64 i) es.toList 0 = some (some (j, v0))) :
    (Instr.mapUpdate 249 (.map (some w.heap.size)) (.int .i64 i) v).run Tryz.prog (w.alloc (.map es n)) = .ok () (w.alloc (.map (es.modify j fun x => { x with key := .int .i64 i, val := v }) n)) := by
  have hb : (w.alloc (.map es n)).heap[w.heap.size]? = some (.map es n) := (MapKept.heap_alloc w (.map es n)).1
  have hc := MapKept.run_checkKey (P := Tryz.prog) (w := w.alloc (.map es n)) keyT (k := .int .i64 i) (by simp [MapKept.IsKey]) false 9999
  have hd := MapKept.run_findKey (P := Tryz.prog) (w := w.alloc (.map es n)) keyT hf
  have hs := MapKept.run_setObj_map (P := Tryz.prog) (.map (es.modify j fun x => { x with key := .int .i64 i, val := v }) n) hb
  rw [alloc_set] at hs
  have hj : j < es.size := (Array.getElem?_eq_some_iff.1 he).1
  have he' : es[j] = e := (Array.getElem?_eq_some_iff.1 he).2
  have hsb : Instr.sameBits 10000 (.int .i64 i) (.int .i64 i) = true := by simp [Instr.sameBits]
  have hks : (Instr.keyThatStays (.int .i64 i) (.int .i64 i)).run Tryz.prog (w.alloc (.map es n)) = .ok (.int .i64 i) (w.alloc (.map es n)) := by simp [Instr.keyThatStays, hsb]
  simp [Instr.mapUpdate, run_underlying mapT, MapKept.run_getObj_map hb, hc, hd, Result.andThen, hj, he', hk, hks, hs]
def rvP : Option (Nat × Value) → Value
  | some (_, v) => v
  | none => .nilFunc
def rvN : Option Nat → Value
  | some n => .func (.func n) #[] #[]
  | none => .nilFunc
theorem look_any (b : Nat) (w : World) (es : Array MapEntry) (n : Nat) (hb : w.heap[b]? = some (.map es n)) (i : Int) (r : Option (Nat × Value)) (hf : Instr.findNow (.int .i64) (.int .i64 i) es.toList 0 = some r) :
    (Instr.lookup 249 (.map (some b)) (.int .i64 i) false).run Tryz.prog w = .ok (rvP r) w := by
  have hc := MapKept.run_checkKey (P := Tryz.prog) (w := w) keyT (k := .int .i64 i) (by simp [MapKept.IsKey]) es.isEmpty 9999
  have hd := MapKept.run_findKey (P := Tryz.prog) (w := w) keyT hf
  have hz := zeroT w
  cases r with
  | none => simp [Instr.lookup, run_underlying mapT, MapKept.run_getObj_map hb, hc, hd, hz, Result.andThen, rvP]
  | some p => simp [Instr.lookup, run_underlying mapT, MapKept.run_getObj_map hb, hc, hd, Result.andThen, rvP]
/-- Entries, by key and function. -/
def ents : Nat → List (Int × Nat) → List MapEntry
  | _, [] => []
  | i, e :: r => ⟨.int .i64 e.1, .func (.func e.2) #[] #[], i⟩ :: ents (i + 1) r
theorem ents_app : ∀ (L : List (Int × Nat)) (e : Int × Nat) (i : Nat), ents i (L ++ [e]) = ents i L ++ [⟨.int .i64 e.1, .func (.func e.2) #[] #[], i + L.length⟩]
  | [], e, i => rfl
  | x :: r, e, i => by
    simp only [List.cons_append, ents, ents_app r e (i + 1), List.length_cons]
    rw [show i + 1 + r.length = i + (r.length + 1) by omega]
def look (L : List (Int × Nat)) (i : Int) : Option Nat := match L with | [] => none | e :: r => if i = e.1 then some e.2 else look r i
theorem find_none : ∀ (L : List (Int × Nat)) (i : Int) (j c : Nat), (∀ e ∈ L, e.1 ≠ i) → Instr.findNow (.int .i64) (.int .i64 i) (ents j L) c = some none
  | [], _, _, _, _ => rfl
  | e :: r, i, j, c, h => by
    have he : (i == e.1) = false := by simpa using fun x => h e (by simp) x.symm
    simp [ents, Instr.findNow, Instr.sameNow, he, find_none r i (j + 1) (c + 1) (fun x hx => h x (by simp [hx]))]
theorem find_look : ∀ (L : List (Int × Nat)) (i : Int) (j c : Nat), ∃ r, Instr.findNow (.int .i64) (.int .i64 i) (ents j L) c = some r ∧ rvP r = rvN (look L i)
  | [], _, _, _ => ⟨none, rfl, rfl⟩
  | e :: r, i, j, c => by
    by_cases he : i = e.1
    · refine ⟨some (c, .func (.func e.2) #[] #[]), by simp [ents, Instr.findNow, Instr.sameNow, he], by simp [look, he, rvP, rvN]⟩
    · have hb : (i == e.1) = false := by simpa using he
      obtain ⟨x, h1, h2⟩ := find_look r i (j + 1) (c + 1)
      exact ⟨x, by simp [ents, Instr.findNow, Instr.sameNow, hb, h1], by rw [h2]; simp [look, he]⟩
/-- The key's function turned. -/
def upd (L : List (Int × Nat)) (k : Int) (n : Nat) : List (Int × Nat) := match L with | [] => [] | e :: r => if k = e.1 then (k, n) :: r else e :: upd r k n
theorem upd_len : ∀ (L : List (Int × Nat)) (k : Int) (n : Nat), (upd L k n).length = L.length
  | [], _, _ => rfl
  | e :: r, k, n => by
    unfold upd
    split
    · rfl
    · simp [upd_len r k n]
theorem find_upd : ∀ (L : List (Int × Nat)) (k : Int) (n : Nat) (j c : Nat), (∃ e ∈ L, e.1 = k) → ∃ (i : Nat) (v : Value) (e : MapEntry), Instr.findNow (.int .i64) (.int .i64 k) (ents j L) c = some (some (c + i, v)) ∧ (ents j L)[i]? = some e ∧ e.key = .int .i64 k ∧ (ents j L).modify i (fun x => { x with key := .int .i64 k, val := .func (.func n) #[] #[] }) = ents j (upd L k n)
  | [], k, n, j, c, h => by obtain ⟨e, he, _⟩ := h; cases he
  | x :: r, k, n, j, c, h => by
    by_cases hx : k = x.1
    · refine ⟨0, .func (.func x.2) #[] #[], _, by simp [ents, Instr.findNow, Instr.sameNow, hx], rfl, by simp [hx], ?_⟩
      unfold upd
      rw [if_pos hx]
      simp [ents, hx]
    · have hb : (k == x.1) = false := by simpa using hx
      obtain ⟨i, v, e, h1, h2, h3, h4⟩ := find_upd r k n (j + 1) (c + 1) (by
        obtain ⟨e, he, hk⟩ := h
        rcases List.mem_cons.1 he with rfl | he
        · exact absurd hk.symm hx
        · exact ⟨e, he, hk⟩)
      refine ⟨i + 1, v, e, ?_, by simpa [ents] using h2, h3, ?_⟩
      · simp [ents, Instr.findNow, Instr.sameNow, hb, h1]
        omega
      · unfold upd
        rw [if_neg hx]
        simp [ents, h4]
theorem look_upd : ∀ (L : List (Int × Nat)) (k : Int) (n : Nat) (i : Int), (∃ e ∈ L, e.1 = k) → look (upd L k n) i = if i = k then some n else look L i
  | [], k, n, i, h => by obtain ⟨e, he, _⟩ := h; cases he
  | x :: r, k, n, i, h => by
    by_cases hx : k = x.1
    · unfold upd
      rw [if_pos hx]
      by_cases hi : i = k
      · simp [look, hi]
      · have : ¬ i = x.1 := by rw [← hx]; exact hi
        simp [look, hi, this]
    · unfold upd
      rw [if_neg hx]
      have h' : ∃ e ∈ r, e.1 = k := by
        obtain ⟨e, he, hk⟩ := h
        rcases List.mem_cons.1 he with rfl | he
        · exact absurd hk.symm hx
        · exact ⟨e, he, hk⟩
      by_cases hi : i = x.1
      · have : ¬ i = k := fun e => hx (by rw [← e]; exact hi)
        simp [look, hi]
        intro e
        exact absurd e.symm hx
      · simp [look, hi, look_upd r k n i h']
def mp (w : World) (L : List (Int × Nat)) : World := w.alloc (.map (ents 0 L).toArray L.length)
/-- The same behind a draw. -/
def md (w : World) (L : List (Int × Nat)) : World := (mp w L).drew
theorem put_mp (w : World) (L : List (Int × Nat)) (k : Int) (n : Nat) (h : ∀ e ∈ L, e.1 ≠ k) :
    (Instr.mapUpdate 249 (.map (some w.heap.size)) (.int .i64 k) (.func (.func n) #[] #[])).run Tryz.prog (mp w L) = .ok () (mp w (L ++ [(k, n)])) := by
  have e := put_new w (ents 0 L).toArray L.length k (.func (.func n) #[] #[]) (by simpa using find_none L k 0 0 h)
  unfold mp
  rw [e, ents_app]
  simp
theorem upd_mp (w : World) (L : List (Int × Nat)) (k : Int) (n : Nat) (h : ∃ e ∈ L, e.1 = k) :
    (Instr.mapUpdate 249 (.map (some w.heap.size)) (.int .i64 k) (.func (.func n) #[] #[])).run Tryz.prog (mp w L) = .ok () (mp w (upd L k n)) := by
  obtain ⟨i, v, e, h1, h2, h3, h4⟩ := find_upd L k n 0 0 h
  have r := put_old w (ents 0 L).toArray L.length k (.func (.func n) #[] #[]) v i e (by simpa using h2) h3 (by simpa using h1)
  unfold mp
  rw [r, upd_len, ← h4]
  simp
/-- Lists with the same entries, no key twice, are looked up alike. -/
theorem look_mem : ∀ (L : List (Int × Nat)) (i : Int) (n : Nat), (L.map Prod.fst).Nodup → (look L i = some n ↔ (i, n) ∈ L)
  | [], i, n, _ => by simp [look]
  | x :: r, i, n, h => by
    have hr : (r.map Prod.fst).Nodup := (List.nodup_cons.1 (by simpa using h)).2
    have hx : x.1 ∉ r.map Prod.fst := (List.nodup_cons.1 (by simpa using h)).1
    by_cases hi : i = x.1
    · simp only [look, if_pos hi]
      constructor
      · intro e
        injection e with e
        rw [hi, ← e]
        simp
      · intro e
        rcases List.mem_cons.1 e with e | e
        · rw [← e]
        · exact absurd (List.mem_map.2 ⟨(i, n), e, hi⟩) hx
    · simp only [look, if_neg hi]
      rw [look_mem r i n hr]
      simp
      intro e
      exact absurd (by rw [← e]) hi
theorem look_same {L L' : List (Int × Nat)} (h : ∀ e, e ∈ L ↔ e ∈ L') (n1 : (L.map Prod.fst).Nodup) (n2 : (L'.map Prod.fst).Nodup) (i : Int) : look L i = look L' i := by
  cases h1 : look L i with
  | some n => exact ((look_mem L' i n n2).2 ((h _).1 ((look_mem L i n n1).1 h1))).symm
  | none =>
    cases h2 : look L' i with
    | none => rfl
    | some n => rw [(look_mem L i n n1).2 ((h _).2 ((look_mem L' i n n2).1 h2))] at h1; cases h1
theorem nodup_take {L : List (Int × Nat)} (h : (L.map Prod.fst).Nodup) (j : Nat) (hj : j < L.length) : ∀ e ∈ L.take j, e.1 ≠ (L[j]).1 := by
  intro e he
  obtain ⟨i, hi, rfl⟩ := List.getElem_of_mem he
  rw [List.getElem_take]
  have hi' : i < j := by simp at hi; omega
  have := List.pairwise_iff_getElem.1 h i j (by simp; omega) (by simpa using hj) hi'
  simpa using this
theorem put_take (w : World) (L : List (Int × Nat)) (h : (L.map Prod.fst).Nodup) (j : Nat) (hj : j < L.length) :
    (Instr.mapUpdate 249 (.map (some w.heap.size)) (.int .i64 (L[j]).1) (.func (.func (L[j]).2) #[] #[])).run Tryz.prog (mp w (L.take j)) = .ok () (mp w (L.take (j + 1))) := by
  have e := put_mp w (L.take j) (L[j]).1 (L[j]).2 (nodup_take h j hj)
  rw [show L.take (j + 1) = L.take j ++ [L[j]] by rw [List.take_append_getElem]]
  exact e
theorem look_mp (w : World) (L : List (Int × Nat)) (i : Int) :
    (Instr.lookup 249 (.map (some w.heap.size)) (.int .i64 i) false).run Tryz.prog (mp w L) = .ok (rvN (look L i)) (mp w L) := by
  obtain ⟨r, h1, h2⟩ := find_look L i 0 0
  have e := look_any w.heap.size (mp w L) (ents 0 L).toArray L.length (MapKept.heap_alloc w _).1 i r (by simpa using h1)
  rw [e, h2]
theorem look_md (w : World) (L : List (Int × Nat)) (i : Int) :
    (Instr.lookup 249 (.map (some w.heap.size)) (.int .i64 i) false).run Tryz.prog (md w L) = .ok (rvN (look L i)) (md w L) := look_mp w.drew L i
end Go.Proofs.YtiagfmkinefidaaGreat.Dc
namespace Go.Proofs.YtiagfmkinefidaaGreat.Dc
open Go.ChangeShapes Go.WideShapes Go.ChangeAt Go.RowKit
set_option linter.unusedVariables false
set_option maxRecDepth 20000
theorem then_act {K : Act → World → Prop} {Q : Exit → Act → World → Prop} {a b : Act} {w : World} (e : b = a) (h : Exit.then K Q .normal a w) : Exit.then K Q .normal b w := e ▸ h
/-- Listed are those of F, but for J. -/
def lst (F : Array Bool) (J : List Nat) : Array Bool := (List.range F.size).map (fun i => F.getD i false && !J.contains i) |>.toArray
theorem lst_size (F : Array Bool) (J : List Nat) : (lst F J).size = F.size := by simp [lst]
theorem lst_get (F : Array Bool) (J : List Nat) (i : Nat) (d : Bool) (hi : i < F.size) : (lst F J).getD i d = (F.getD i false && !J.contains i) := by
  unfold lst
  simp [Array.getD, hi]
theorem lst_set (F : Array Bool) (J : List Nat) (i : Nat) (hi : i < F.size) (hF : F.getD i false = true) : (lst F J).setIfInBounds i true = lst F (J.filter (· ≠ i)) := by
  apply Array.ext
  · simp [lst]
  · intro j h1 h2
    have hj : j < F.size := by simpa [lst] using h2
    have e1 : ((lst F J).setIfInBounds i true)[j] = if i = j then true else (lst F J)[j]'(by rw [lst_size]; exact hj) := by
      rw [Array.getElem_setIfInBounds]
    rw [e1]
    have g : ∀ K : List Nat, ∀ h : j < (lst F K).size, (lst F K)[j] = (F.getD j false && !K.contains j) := fun K h => by simp [lst]
    rw [g, g]
    by_cases e : i = j
    · subst e
      simp [hF]
    · rw [if_neg e]
      have : (J.filter (· ≠ i)).contains j = J.contains j := by
        have e' : ¬ j = i := fun x => e x.symm
        simp [List.contains_eq_mem, List.mem_filter, e']
      rw [this]
theorem lst_nil (F : Array Bool) : lst F [] = F := by
  apply Array.ext
  · simp [lst]
  · intro j h1 h2
    simp [lst, Array.getElem?_eq_getElem h2]
section
variable {P : Program} {md' : Region.Mode} {ops : Array Oper} {Q : Exit → Act → World → Prop}
theorem mem_ready {listed : Array Bool} {i : Nat} : i ∈ Region.ready md' ops listed ↔ i < ops.size ∧ listed.getD i true = false ∧ ((ops[i]?).map (·.after.all fun e => !Region.binds md' e || listed.getD e.on false)).getD false = true := by
  simp [Region.ready]
theorem ins_phase (a : Act) (w0 : World) (ent : Nat → Int × Nat) (idx : List Nat) (F : Array Bool) (hsz : F.size = ops.size)
    (hkeys : ∀ i ∈ idx, ∀ j ∈ idx, (ent i).1 = (ent j).1 → i = j)
    (hF : ∀ i ∈ idx, F.getD i false = true)
    (hdep : ∀ i ∈ idx, i < ops.size ∧ ∃ o, ops[i]? = some o ∧ ∀ e ∈ o.after, Region.binds md' e = true → e.on < ops.size ∧ F.getD e.on false = true ∧ e.on ∉ idx)
    (hfin : ∀ i, i < ops.size → F.getD i false = false → ∃ o, ops[i]? = some o ∧ ((∀ j ∈ idx, ∃ e ∈ o.after, Region.binds md' e = true ∧ e.on = j) ∨ ∃ e ∈ o.after, Region.binds md' e = true ∧ e.on < ops.size ∧ F.getD e.on false = false))
    (hstep : ∀ i ∈ idx, ∀ (L : List (Int × Nat)) (K : Act → World → Prop), (∀ e ∈ L, e.1 ≠ (ent i).1) → K a (md w0 (L ++ [ent i])) → wpOp P ops Q i K a (md w0 L))
    (fuel : Nat) (hend : ∀ L : List (Int × Nat), (∀ e, e ∈ L ↔ ∃ i ∈ idx, e = ent i) → (L.map Prod.fst).Nodup → wpAny P md' ops Q fuel F a (md w0 L)) :
    ∀ (n : Nat) (J : List Nat) (L : List (Int × Nat)), J.length = n → J.Nodup → (∀ i ∈ J, i ∈ idx) → (∀ e, e ∈ L ↔ ∃ i ∈ idx, i ∉ J ∧ e = ent i) → (L.map Prod.fst).Nodup → wpAny P md' ops Q (fuel + n) (lst F J) a (md w0 L) := by
  intro n
  induction n with
  | zero =>
    intro J L hn hJ hJi hL hLn
    have : J = [] := List.eq_nil_of_length_eq_zero hn
    subst this
    rw [lst_nil]
    exact hend L (fun e => by rw [hL]; simp) hLn
  | succ n ih =>
    intro J L hn hJ hJi hL hLn
    have hready : ∀ i, i ∈ J → i ∈ Region.ready md' ops (lst F J) := fun i hi => by
      obtain ⟨h1, o, ho, hd⟩ := hdep i (hJi i hi)
      refine mem_ready.2 ⟨h1, ?_, ?_⟩
      · rw [lst_get _ _ _ _ (by omega)]
        simp [List.contains_eq_mem, hi]
      · rw [ho]
        simp only [Option.map_some, Option.getD_some, Array.all_eq_true_iff_forall_mem]
        intro e he
        cases hb : Region.binds md' e with
        | false => simp
        | true =>
          obtain ⟨g1, g2, g3⟩ := hd e he hb
          rw [lst_get _ _ _ _ (by omega), g2]
          have : e.on ∉ J := fun x => g3 (hJi _ x)
          simp [List.contains_eq_mem, this]
    have hJne : J ≠ [] := fun e => by rw [e] at hn; simp at hn
    refine wpAny_all rfl ?_ ?_
    · obtain ⟨j, hj⟩ := List.exists_mem_of_ne_nil J hJne
      exact List.ne_nil_of_mem (hready j hj)
    · intro i hi
      obtain ⟨h1, h2, h3⟩ := mem_ready.1 hi
      rw [lst_get _ _ _ _ (by omega)] at h2
      have hiJ : i ∈ J := by
        by_cases hx : i ∈ J
        · exact hx
        · exfalso
          have hFi : F.getD i false = false := by simpa [List.contains_eq_mem, hx] using h2
          obtain ⟨o, ho, hd⟩ := hfin i h1 hFi
          rw [ho] at h3
          simp only [Option.map_some, Option.getD_some, Array.all_eq_true_iff_forall_mem] at h3
          rcases hd with hd | ⟨e, he, hb, hs, hne⟩
          · obtain ⟨j, hj⟩ := List.exists_mem_of_ne_nil J hJne
            obtain ⟨e, he, hb, hon⟩ := hd j (hJi j hj)
            have := h3 e he
            rw [hb, hon, lst_get _ _ _ _ (by have := (hdep j (hJi j hj)).1; omega)] at this
            simp [List.contains_eq_mem, hj] at this
          · have := h3 e he
            rw [hb, lst_get _ _ _ _ (by omega), hne] at this
            simp at this
      refine hstep i (hJi i hiJ) L _ ?_ ?_
      · intro e he
        obtain ⟨j, hj, hjn, rfl⟩ := (hL e).1 he
        intro hk
        exact hjn (by rw [hkeys j hj i (hJi i hiJ) hk]; exact hiJ)
      · rw [lst_set F J i (by omega) (hF i (hJi i hiJ))]
        have hlen : (J.filter (· ≠ i)).length = n := by
          have := List.length_erase_of_mem hiJ
          rw [hJ.erase_eq_filter] at this
          have e2 : J.filter (· != i) = J.filter (· ≠ i) := by congr 1; funext x; by_cases hx : x = i <;> simp [hx]
          rw [e2] at this
          omega
        refine ih _ _ hlen (hJ.filter _) (fun j hj => hJi j (List.mem_filter.1 hj).1) (fun e => ?_) ?_
        · rw [List.mem_append, hL]
          constructor
          · rintro (⟨j, hj, hjn, rfl⟩ | he)
            · exact ⟨j, hj, fun x => hjn (List.mem_filter.1 x).1, rfl⟩
            · exact ⟨i, hJi i hiJ, fun x => by simpa using (List.mem_filter.1 x).2, by simpa using he⟩
          · rintro ⟨j, hj, hjn, rfl⟩
            by_cases hji : j = i
            · right; rw [hji]; simp
            · left
              exact ⟨j, hj, fun x => hjn (List.mem_filter.2 ⟨x, by simpa using hji⟩), rfl⟩
        · rw [List.map_append, List.nodup_append]
          refine ⟨hLn, by simp, ?_⟩
          intro x hx y hy
          simp at hy
          subst hy
          obtain ⟨e, he, rfl⟩ := List.mem_map.1 hx
          obtain ⟨j, hj, hjn, rfl⟩ := (hL e).1 he
          intro hk
          exact hjn (by rw [hkeys j hj i (hJi i hiJ) hk]; exact hiJ)
def depB (ops : Array Oper) (md' : Region.Mode) (F : Array Bool) (idx : List Nat) : Bool :=
  idx.all fun i => decide (i < ops.size) && F.getD i false && match ops[i]? with
    | some o => o.after.all fun e => !Region.binds md' e || (decide (e.on < ops.size) && F.getD e.on false && !idx.contains e.on)
    | none => false
def finB (ops : Array Oper) (md' : Region.Mode) (F : Array Bool) (idx : List Nat) : Bool :=
  (List.range ops.size).all fun i => F.getD i false || match ops[i]? with
    | some o => (idx.all fun j => o.after.any fun e => Region.binds md' e && e.on == j) || o.after.any fun e => Region.binds md' e && decide (e.on < ops.size) && !F.getD e.on false
    | none => false
theorem ins_all (a : Act) (w0 : World) (ent : Nat → Int × Nat) (idx : List Nat) (F listed : Array Bool) (hl : listed = lst F idx) (hsz : F.size = ops.size) (hnd : idx.Nodup)
    (hkeys : ∀ i ∈ idx, ∀ j ∈ idx, (ent i).1 = (ent j).1 → i = j) (hdep : depB ops md' F idx = true) (hfin : finB ops md' F idx = true)
    (hstep : ∀ i ∈ idx, ∀ (L : List (Int × Nat)) (K : Act → World → Prop), (∀ e ∈ L, e.1 ≠ (ent i).1) → K a (md w0 (L ++ [ent i])) → wpOp P ops Q i K a (md w0 L))
    (fuel n : Nat) (hn : n = fuel + idx.length) (hend : ∀ L : List (Int × Nat), (∀ e, e ∈ L ↔ e ∈ idx.map ent) → (L.map Prod.fst).Nodup → wpAny P md' ops Q fuel F a (md w0 L)) : wpAny P md' ops Q n listed a (md w0 []) := by
  rw [hl, hn]
  unfold depB at hdep
  rw [List.all_eq_true] at hdep
  unfold finB at hfin
  rw [List.all_eq_true] at hfin
  refine ins_phase (md' := md') a w0 ent idx F hsz hkeys ?_ ?_ ?_ hstep fuel ?_ idx.length idx [] rfl hnd (fun _ h => h) (fun e => by simp; intro i hi hn; exact absurd hi hn) (by simp)
  · intro i hi
    have := hdep i hi
    simp at this
    simpa using this.1.2
  · intro i hi
    have := hdep i hi
    simp only [Bool.and_eq_true, decide_eq_true_eq] at this
    obtain ⟨⟨h1, h2⟩, h3⟩ := this
    refine ⟨h1, ?_⟩
    cases ho : ops[i]? with
    | none => rw [ho] at h3; cases h3
    | some o =>
      rw [ho] at h3
      refine ⟨o, rfl, fun e he hb => ?_⟩
      simp only [Array.all_eq_true_iff_forall_mem] at h3
      have := h3 e he
      rw [hb] at this
      simp only [Bool.not_true, Bool.false_or, Bool.and_eq_true, decide_eq_true_eq] at this
      exact ⟨this.1.1, this.1.2, by simpa [List.contains_eq_mem] using this.2⟩
  · intro i hi hFi
    have := hfin i (List.mem_range.2 hi)
    rw [hFi, Bool.false_or] at this
    cases ho : ops[i]? with
    | none => rw [ho] at this; cases this
    | some o =>
      rw [ho] at this
      refine ⟨o, rfl, ?_⟩
      simp only [Bool.or_eq_true] at this
      rcases this with h | h
      · left
        intro j hj
        rw [List.all_eq_true] at h
        have := h j hj
        rw [Array.any_eq_true] at this
        obtain ⟨k, hk, hb⟩ := this
        simp at hb
        exact ⟨_, Array.getElem_mem hk, hb.1, hb.2⟩
      · right
        rw [Array.any_eq_true] at h
        obtain ⟨k, hk, hb⟩ := h
        simp only [Bool.and_eq_true, decide_eq_true_eq, Bool.not_eq_true'] at hb
        exact ⟨_, Array.getElem_mem hk, hb.1.1, hb.1.2, hb.2⟩
  · intro L hL hLn
    refine hend L (fun e => ?_) hLn
    rw [hL]
    simp [List.mem_map, eq_comm]
/-- One store as one step of the region. -/
theorem step_ins {i : Nat} {a : Act} {w0 : World} {o : Oper} {L : List (Int × Nat)} {K : Act → World → Prop} {m k v : Operand} {key : Int} {n : Nat} (ho : ops[i]? = some o) (hg : o.guard = none) (hd : o.dst = none) (hop : o.op = Op.insert 249 m k v)
    (hm : a.eval m = .map (some w0.heap.size)) (hk : a.eval k = .int .i64 key) (hv : a.eval v = .func (.func n) #[] #[]) (hL : ∀ e ∈ L, e.1 ≠ key) (hK : K a (md w0 (L ++ [(key, n)]))) : wpOp Tryz.prog ops Q i K a (md w0 L) := by
  have hrun := put_mp w0.drew L key n hL
  have hrun' : (Instr.mapUpdate 249 (.map (some w0.heap.size)) (.int .i64 key) (.func (.func n) #[] #[])).run Tryz.prog (md w0 L) = .ok () (md w0 (L ++ [(key, n)])) := hrun
  refine wpOp_step ho fun K' hK' => ?_
  have hw : Region.wanted o (yielded ops a.tmps) = true := by simp [Region.wanted, hg]
  rw [if_pos hw]
  unfold Oper.wp
  simp [execOp, hop, hm, hk, hv, hrun', Result.andThen, Oper.upon]
  have hp : a.put o.dst undef = a := by rw [hd]; rfl
  rw [hp]
  exact hK' _ _ hK
theorem step_make {i : Nat} {a : Act} {w : World} {o : Oper} {K : Act → World → Prop} {M : Nat} (ho : ops[i]? = some o) (hg : o.guard = none) (hd : o.dst = some M) (hop : o.op = Op.makeMap 249 none)
    (hK : K (a.put (some M) (.map (some w.heap.size))) (md w [])) : wpOp Tryz.prog ops Q i K a w.drew := by
  have hmm : (Instr.makeMap 249 none).run Tryz.prog w.drew = .ok (.map (some w.heap.size)) (md w []) := run_makeMap (P := Tryz.prog) _ w.drew
  refine wpOp_step ho fun K' hK' => ?_
  have hw : Region.wanted o (yielded ops a.tmps) = true := by simp [Region.wanted, hg]
  rw [if_pos hw]
  unfold Oper.wp
  simp [execOp, hop, hmm, Result.andThen, Oper.upon]
  rw [hd]
  exact hK' _ _ hK
theorem step_put {i : Nat} {a : Act} {w : World} {o : Oper} {K : Act → World → Prop} {x : Operand} (ho : ops[i]? = some o) (hg : o.guard = none) (hop : o.op = Op.assign x)
    (hK : K (a.put o.dst (a.eval x)) w) : wpOp Tryz.prog ops Q i K a w := by
  refine wpOp_step ho fun K' hK' => ?_
  have hw : Region.wanted o (yielded ops a.tmps) = true := by simp [Region.wanted, hg]
  rw [if_pos hw]
  unfold Oper.wp
  simp [execOp, hop, Oper.upon]
  exact hK' _ _ hK
end
end Go.Proofs.YtiagfmkinefidaaGreat.Dc
