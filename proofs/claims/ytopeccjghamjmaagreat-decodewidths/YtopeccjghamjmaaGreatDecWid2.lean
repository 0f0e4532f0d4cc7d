/- The prefix of the size changes sizes alone: the rules that choose, the prefixes, the whole. -/
import Derived.Test.YtopeccjghamjmaaGreatDecWid
import Derived.Test.YtopeccjghamjmaaGreatDecTabD
namespace Go.Proofs.YtopeccjghamjmaaGreat
open Go.ChangeShapes Go.WideShapes Go.ChangeAt Go.RowKit
set_option linter.unusedVariables false

def unR (s : Int) (x : Int × Int × Int) (X : Cx) (σ : Sg) : Sg :=
  if x.2.1 = 0 ∨ x.2.1 = 1 then isM X 1 8 s [pE, pI] σ else if x.2.1 = 2 then isM X 1 12 s [pE] σ else if x.2.1 = 3 then isM X 1 11 s [pE] σ else if x.2.1 = 4 ∨ x.2.1 = 5 then isM X 4 (x.2.1 - 4) s [pE] σ else isM X 6 (x.2.1 - 6) s [pE] σ

theorem rdUnR (s : Int) (x : Int × Int × Int) : RdS (unR s x) := RdS.ifc (rdIsP 1 8 s [.E, .I]) (RdS.ifc (rdIsP 1 12 s [.E]) (RdS.ifc (rdIsP 1 11 s [.E]) (RdS.ifc (rdIsP 4 _ s [.E]) (rdIsP 6 _ s [.E]))))

theorem unR_60 {s : Int} {x : Int × Int × Int} {X : Cx} {σ : Sg} (h : (unR s x X σ).err = 60) : σ.err = 60 := by
  unfold unR at h
  split at h
  · exact isP_60 (ps := [.E, .I]) h
  · split at h
    · exact isP_60 (ps := [.E]) h
    · split at h
      · exact isP_60 (ps := [.E]) h
      · split at h
        · exact isP_60 (ps := [.E]) h
        · exact isP_60 (ps := [.E]) h

theorem unR_rel {X Y : Cx} (T : Two X Y) (s t : Int) (hst : t = s ∨ (s = 4 ∧ t = 2)) (x : Int × Int × Int) {σ τ : Sg} (R : Rel σ τ) (hx : Emp σ.ins) (hy : Emp τ.ins) (h1 : (unR s x X σ).err = 0) (h2 : (unR t x Y τ).err = 0) : SimI (unR s x X σ).ins (unR t x Y τ).ins := by
  unfold unR at h1 h2 ⊢
  split
  · rename_i c; rw [if_pos c] at h1 h2; exact isP_rel T 1 8 s t hst [.E, .I] rfl R hx hy h1 h2
  · rename_i c
    rw [if_neg c] at h1 h2
    split
    · rename_i c; rw [if_pos c] at h1 h2; exact isP_rel T 1 12 s t hst [.E] rfl R hx hy h1 h2
    · rename_i c
      rw [if_neg c] at h1 h2
      split
      · rename_i c; rw [if_pos c] at h1 h2; exact isP_rel T 1 11 s t hst [.E] rfl R hx hy h1 h2
      · rename_i c
        rw [if_neg c] at h1 h2
        split
        · rename_i c; rw [if_pos c] at h1 h2; exact isP_rel T 4 _ s t hst [.E] rfl R hx hy h1 h2
        · rename_i c; rw [if_neg c] at h1 h2; exact isP_rel T 6 _ s t hst [.E] rfl R hx hy h1 h2

def ffR (x : Int × Int × Int) (X : Cx) (σ : Sg) : Sg :=
  if x.2.1 = 0 then isM X 1 9 σ.v [pE] σ else if x.2.1 = 1 then isM X 1 10 σ.v [pE] σ else if x.2.1 = 2 then isM X 29 0 σ.v [pE] σ else if x.2.1 = 4 then isM X 27 0 σ.v [pE] σ else if x.2.1 = 6 then isM X 12 0 σ.v [pE] σ else refuse σ

theorem rdFfR (x : Int × Int × Int) : RdS (ffR x) := RdS.ifc (rdIsV 1 9 [.E]) (RdS.ifc (rdIsV 1 10 [.E]) (RdS.ifc (rdIsV 29 0 [.E]) (RdS.ifc (rdIsV 27 0 [.E]) (RdS.ifc (rdIsV 12 0 [.E]) rdRefS))))

/-- Which of them are refused. -/
theorem ffR_60 {x : Int × Int × Int} {X : Cx} {σ : Sg} (h0 : σ.err = 0) (h : (ffR x X σ).err = 60) : ∀ (Y : Cx) (τ : Sg), ffR x Y τ = refuse τ := by
  intro Y τ
  unfold ffR at h ⊢
  have no : ∀ op sub, ¬ (isM X op sub σ.v [pE] σ).err = 60 := fun op sub q => by
    have := isP_60 (ps := [.E]) q
    rw [h0] at this
    exact absurd this (by decide)
  split at h
  · exact absurd h (no 1 9)
  · rename_i c1
    split at h
    · exact absurd h (no 1 10)
    · rename_i c2
      split at h
      · exact absurd h (no 29 0)
      · rename_i c3
        split at h
        · exact absurd h (no 27 0)
        · rename_i c4
          split at h
          · exact absurd h (no 12 0)
          · rename_i c5
            rw [if_neg c1, if_neg c2, if_neg c3, if_neg c4, if_neg c5]

theorem ffR_rel {X Y : Cx} (T : Two X Y) (x : Int × Int × Int) {σ τ : Sg} (R : Rel σ τ) (hx : Emp σ.ins) (hy : Emp τ.ins) (h1 : (ffR x X σ).err = 0) (h2 : (ffR x Y τ).err = 0) : SimI (ffR x X σ).ins (ffR x Y τ).ins := by
  have hst : τ.v = σ.v ∨ (σ.v = 4 ∧ τ.v = 2) := Or.inr ⟨R.v1, R.v2⟩
  unfold ffR at h1 h2 ⊢
  split
  · rename_i c; rw [if_pos c] at h1 h2; exact isP_rel T 1 9 _ _ hst [.E] rfl R hx hy h1 h2
  · rename_i c
    rw [if_neg c] at h1 h2
    split
    · rename_i c; rw [if_pos c] at h1 h2; exact isP_rel T 1 10 _ _ hst [.E] rfl R hx hy h1 h2
    · rename_i c
      rw [if_neg c] at h1 h2
      split
      · rename_i c; rw [if_pos c] at h1 h2; exact isP_rel T 29 0 _ _ hst [.E] rfl R hx hy h1 h2
      · rename_i c
        rw [if_neg c] at h1 h2
        split
        · rename_i c; rw [if_pos c] at h1 h2; exact isP_rel T 27 0 _ _ hst [.E] rfl R hx hy h1 h2
        · rename_i c
          rw [if_neg c] at h1 h2
          split
          · rename_i c; rw [if_pos c] at h1 h2; exact isP_rel T 12 0 _ _ hst [.E] rfl R hx hy h1 h2
          · rename_i c; rw [if_neg c] at h1; exact absurd h1 (refuse_no _)

def syR (x : Int × Int × Int) (X : Cx) (σ : Sg) : Sg := if x.2.1 = 2 then isM X 42 0 4 [pE] σ else if x.2.1 = 3 then isM X 43 0 4 [pE] σ else if x.2.1 = 7 then isM X 46 0 4 [pE] σ else refuse σ

theorem rdSyR (x : Int × Int × Int) : RdS (syR x) := RdS.ifc (rdIsP 42 0 4 [.E]) (RdS.ifc (rdIsP 43 0 4 [.E]) (RdS.ifc (rdIsP 46 0 4 [.E]) rdRefS))

theorem syR_60 {x : Int × Int × Int} {X : Cx} {σ : Sg} (h0 : σ.err = 0) (h : (syR x X σ).err = 60) : ∀ (Y : Cx) (τ : Sg), syR x Y τ = refuse τ := by
  intro Y τ
  unfold syR at h ⊢
  have no : ∀ op sub, ¬ (isM X op sub 4 [pE] σ).err = 60 := fun op sub q => by
    have := isP_60 (ps := [.E]) q
    rw [h0] at this
    exact absurd this (by decide)
  split at h
  · exact absurd h (no 42 0)
  · rename_i c1
    split at h
    · exact absurd h (no 43 0)
    · rename_i c2
      split at h
      · exact absurd h (no 46 0)
      · rename_i c3
        rw [if_neg c1, if_neg c2, if_neg c3]

theorem syR_rel {X Y : Cx} (T : Two X Y) (x : Int × Int × Int) {σ τ : Sg} (R : Rel σ τ) (hx : Emp σ.ins) (hy : Emp τ.ins) (h1 : (syR x X σ).err = 0) (h2 : (syR x Y τ).err = 0) : SimI (syR x X σ).ins (syR x Y τ).ins := by
  unfold syR at h1 h2 ⊢
  split
  · rename_i c; rw [if_pos c] at h1 h2; exact isP_rel T 42 0 4 4 (Or.inl rfl) [.E] rfl R hx hy h1 h2
  · rename_i c
    rw [if_neg c] at h1 h2
    split
    · rename_i c; rw [if_pos c] at h1 h2; exact isP_rel T 43 0 4 4 (Or.inl rfl) [.E] rfl R hx hy h1 h2
    · rename_i c
      rw [if_neg c] at h1 h2
      split
      · rename_i c; rw [if_pos c] at h1 h2; exact isP_rel T 46 0 4 4 (Or.inl rfl) [.E] rfl R hx hy h1 h2
      · rename_i c; rw [if_neg c] at h1; exact absurd h1 (refuse_no _)

/-- ModRM, then what hangs on it: what is refused is refused, or there are more than fifteen. -/
theorem mid_60 {X Y : Cx} (T : Two X Y) (k : Int × Int × Int → Cx → Sg → Sg) (hk : ∀ x, RdS (k x)) (h60 : ∀ x σ, σ.err = 0 → (k x X σ).err = 60 → ∀ (Y : Cx) (τ : Sg), k x Y τ = refuse τ) {σ τ : Sg} (R : Rel σ τ) (h : (k (modrm X σ).1 X (modrm X σ).2).err = 60) : (k (modrm Y τ).1 Y (modrm Y τ).2).err = 60 ∨ (k (modrm Y τ).1 Y (modrm Y τ).2).err = 62 := by
  have m1 : (modrm X σ).2.err = 0 := by
    by_cases hm : (modrm X σ).2.err = 0
    · exact hm
    · have := ((hk (modrm X σ).1).stuck X _ hm).1
      rw [h] at this
      exact absurd (modrm_60 X σ this.symm) (by rw [R.e1]; decide)
  rcases modrm_or T R m1 with h2 | h2
  · exact Or.inr ((hk _).er h2 (by decide))
  · obtain ⟨e, _⟩ := modrm_rel T R m1 h2
    rw [e, h60 _ _ m1 h Y (modrm Y τ).2, refuse_60 h2]
    exact Or.inl rfl

theorem mid_rel {X Y : Cx} (T : Two X Y) (k k' : Int × Int × Int → Cx → Sg → Sg) (hk : ∀ x, RdS (k x)) (hk' : ∀ x, RdS (k' x)) {σ τ : Sg} (R : Rel σ τ) (h1 : (k (modrm X σ).1 X (modrm X σ).2).err = 0) (h2 : (k' (modrm Y τ).1 Y (modrm Y τ).2).err = 0) : (modrm Y τ).1 = (modrm X σ).1 ∧ Rel (modrm X σ).2 (modrm Y τ).2 :=
  modrm_rel T R ((hk _).ok h1).1 ((hk' _).ok h2).1

def toR (x : Int × Int × Int) (X : Cx) (σ : Sg) : Sg := isM X 8 0 2 [pSeg x.2.1, pE] σ
theorem rdToR (x : Int × Int × Int) : RdS (toR x) := rdIsP 8 0 2 [.Seg x.2.1, .E]

def fmR (x : Int × Int × Int) (X : Cx) (σ : Sg) : Sg := isM X 8 0 (if x.1 = 3 then σ.v else 2) [pE, pSeg x.2.1] σ
theorem rdFmR (x : Int × Int × Int) : RdS (fmR x) := RdS.arg (h := fun σ => if x.1 = 3 then σ.v else 2) (g := fun s X σ => isM X 8 0 s [pE, pSeg x.2.1] σ) (fun _ _ _ => rfl) (fun s => rdIsP 8 0 s [.E, .Seg x.2.1])

theorem gFrom_eq (X : Cx) (σ : Sg) : gFrom X σ = fmR (modrm X (onlyM X [0, 1, 2, 3, 4, 5] σ)).1 X (modrm X (onlyM X [0, 1, 2, 3, 4, 5] σ)).2 := by
  unfold gFrom fmR
  simp only [modrm_again]

/-- A gate, then ModRM, then what never refuses. -/
theorem gate_60 {X Y : Cx} (T : Two X Y) (t : Gt) (k : Int × Int × Int → Cx → Sg → Sg) (hk : ∀ x, RdS (k x)) (h60 : ∀ x σ, (k x X σ).err = 60 → σ.err = 60) {σ τ : Sg} (R : Rel σ τ) (h : (k (modrm X (t.g X σ)).1 X (modrm X (t.g X σ)).2).err = 60) : (k (modrm Y (t.g Y τ)).1 Y (modrm Y (t.g Y τ)).2).err = 60 ∨ (k (modrm Y (t.g Y τ)).1 Y (modrm Y (t.g Y τ)).2).err = 62 := by
  have kk : RdS (fun X σ => k (modrm X σ).1 X (modrm X σ).2) := Rd.bindS (f := modrm) (g := k) rdModrm hk
  rcases gt_60 T t R (modrm_60 X _ (h60 _ _ h)) with e | e
  · exact Or.inl (kk.er (σ := t.g Y τ) e (by decide))
  · exact Or.inr (kk.er (σ := t.g Y τ) e (by decide))

theorem gt_emp {X : Cx} (t : Gt) {σ : Sg} (h : (t.g X σ).err = 0) (he : Emp σ.ins) : Emp (t.g X σ).ins := by
  cases t with
  | no => exact he
  | only L => show Emp (onlyM X L σ).ins; rw [(only_in (X := X) (L := L) (σ := σ) h).1]; exact he.fr (modrm_fr X σ)
  | mem => show Emp (onlyMem X σ).ins; rw [(mem_in (X := X) (σ := σ) h).1]; exact he.fr (modrm_fr X σ)

def Rule.okW : Rule → Bool
  | .row r => Go.Proofs.YtopeccjghamjmaaGreat.okW r.ps
  | _ => true

theorem rule_60 {X Y : Cx} (T : Two X Y) (r : Rule) {σ τ : Sg} (R : Rel σ τ) (h : (r.g X σ).err = 60) : (r.g Y τ).err = 60 ∨ (r.g Y τ).err = 62 := by
  cases r with
  | row r => exact row_60 T r R h
  | str sub z => exact absurd (show σ.err = 60 from h) (by rw [R.e1]; decide)
  | un z => exact absurd (modrm_60 X σ (unR_60 (s := z.of σ) (x := (modrm X σ).1) h)) (by rw [R.e1]; decide)
  | ff => exact mid_60 T ffR rdFfR (fun x σ h0 h => ffR_60 h0 h) R h
  | sys =>
    have h' : (syR (modrm X (onlyMem X σ)).1 X (modrm X (onlyMem X σ)).2).err = 60 := h
    show (syR (modrm Y (onlyMem Y τ)).1 Y (modrm Y (onlyMem Y τ)).2).err = 60 ∨ (syR (modrm Y (onlyMem Y τ)).1 Y (modrm Y (onlyMem Y τ)).2).err = 62
    have kk : RdS (fun X σ => syR (modrm X σ).1 X (modrm X σ).2) := Rd.bindS (f := modrm) (g := syR) rdModrm rdSyR
    by_cases ho : (onlyMem X σ).err = 60
    · rcases mem_rel60 T R ho with e | e
      · exact Or.inl (kk.er (σ := onlyMem Y τ) e (by decide))
      · exact Or.inr (kk.er (σ := onlyMem Y τ) e (by decide))
    · have ho0 : (onlyMem X σ).err = 0 := by
        by_cases q : (onlyMem X σ).err = 0
        · exact q
        · have := (kk.stuck X (onlyMem X σ) q).1
          rw [h'] at this
          exact absurd this.symm ho
      have hm := mem_in ho0
      rw [hm.1, modrm_again] at h'
      have m1 : (modrm X σ).2.err = 0 := by rw [← hm.1]; exact ho0
      rcases modrm_or T R m1 with h2 | h2
      · right
        have e : (onlyMem Y τ).err = 62 := by
          unfold onlyMem
          by_cases c : (modrm Y τ).1.1 = 3
          · rw [if_pos c, refuse_er (by rw [h2]; decide)]; exact h2
          · rw [if_neg c]; exact h2
        exact kk.er (σ := onlyMem Y τ) e (by decide)
      · obtain ⟨e, R1⟩ := modrm_rel T R m1 h2
        left
        have ey : onlyMem Y τ = (modrm Y τ).2 := by unfold onlyMem; rw [e, if_neg hm.2]
        rw [ey, modrm_again, e, syR_60 m1 h' Y (modrm Y τ).2, refuse_60 h2]
  | to => exact gate_60 T (.only [0, 2, 3, 4, 5]) toR rdToR (fun x σ h => isP_60 (ps := [.Seg x.2.1, .E]) h) R h
  | frm =>
    have h' : (gFrom X σ).err = 60 := h
    show (gFrom Y τ).err = 60 ∨ (gFrom Y τ).err = 62
    rw [gFrom_eq] at h' ⊢
    exact gate_60 T (.only [0, 1, 2, 3, 4, 5]) fmR rdFmR (fun x σ h => isP_60 (ps := [.E, .Seg x.2.1]) h) R h'

theorem rule_rel {X Y : Cx} (T : Two X Y) (r : Rule) (hw : r.okW = true) {σ τ : Sg} (R : Rel σ τ) (hx : Emp σ.ins) (hy : Emp τ.ins) (h1 : (r.g X σ).err = 0) (h2 : (r.g Y τ).err = 0) : SimI (r.g X σ).ins (r.g Y τ).ins := by
  cases r with
  | row r => exact row_rel T r hw R hx hy h1 h2
  | str sub z =>
    have hz := z.rel R
    refine ⟨rfl, rfl, R.rep, hz, ⟨rfl, rfl, rfl, rfl, ?_, rfl⟩, ?_, ?_⟩
    · show (if τ.seg = -1 then 3 else τ.seg) = (if σ.seg = -1 then 3 else σ.seg); rw [R.seg]
    · show Sim σ.ins.b τ.ins.b; rw [hx.2.1, hy.2.1]; exact Sim.refl _
    · show Sim σ.ins.c τ.ins.c; rw [hx.2.2.1, hy.2.2.1]; exact Sim.refl _
  | un z =>
    have h1' : (unR (z.of σ) (modrm X σ).1 X (modrm X σ).2).err = 0 := h1
    have h2' : (unR (z.of τ) (modrm Y τ).1 Y (modrm Y τ).2).err = 0 := h2
    obtain ⟨e, R1⟩ := mid_rel T (unR (z.of σ)) (unR (z.of τ)) (rdUnR _) (rdUnR _) R h1' h2'
    show SimI (unR (z.of σ) (modrm X σ).1 X (modrm X σ).2).ins (unR (z.of τ) (modrm Y τ).1 Y (modrm Y τ).2).ins
    rw [e] at h2' ⊢
    exact unR_rel T _ _ (z.rel R) _ R1 (hx.fr (modrm_fr X σ)) (hy.fr (modrm_fr Y τ)) h1' h2'
  | ff =>
    have h1' : (ffR (modrm X σ).1 X (modrm X σ).2).err = 0 := h1
    have h2' : (ffR (modrm Y τ).1 Y (modrm Y τ).2).err = 0 := h2
    obtain ⟨e, R1⟩ := mid_rel T ffR ffR rdFfR rdFfR R h1' h2'
    show SimI (ffR (modrm X σ).1 X (modrm X σ).2).ins (ffR (modrm Y τ).1 Y (modrm Y τ).2).ins
    rw [e] at h2' ⊢
    exact ffR_rel T _ R1 (hx.fr (modrm_fr X σ)) (hy.fr (modrm_fr Y τ)) h1' h2'
  | sys =>
    have kk : RdS (fun X σ => syR (modrm X σ).1 X (modrm X σ).2) := Rd.bindS (f := modrm) (g := syR) rdModrm rdSyR
    have h1' : (syR (modrm X (onlyMem X σ)).1 X (modrm X (onlyMem X σ)).2).err = 0 := h1
    have h2' : (syR (modrm Y (onlyMem Y τ)).1 Y (modrm Y (onlyMem Y τ)).2).err = 0 := h2
    have g1 := (kk.ok (X := X) (σ := onlyMem X σ) h1').1
    have g2 := (kk.ok (X := Y) (σ := onlyMem Y τ) h2').1
    have R0 := gt_rel T .mem R g1 g2
    have R0' : Rel (onlyMem X σ) (onlyMem Y τ) := R0
    obtain ⟨e, R1⟩ := mid_rel T syR syR rdSyR rdSyR R0' h1' h2'
    show SimI (syR (modrm X (onlyMem X σ)).1 X (modrm X (onlyMem X σ)).2).ins (syR (modrm Y (onlyMem Y τ)).1 Y (modrm Y (onlyMem Y τ)).2).ins
    rw [e] at h2' ⊢
    exact syR_rel T _ R1 (Emp.fr (gt_emp .mem g1 hx) (modrm_fr X (onlyMem X σ))) (Emp.fr (gt_emp .mem g2 hy) (modrm_fr Y (onlyMem Y τ))) h1' h2'
  | to =>
    have kk : RdS (fun X σ => toR (modrm X σ).1 X (modrm X σ).2) := Rd.bindS (f := modrm) (g := toR) rdModrm rdToR
    have h1' : (toR (modrm X (onlyM X [0, 2, 3, 4, 5] σ)).1 X (modrm X (onlyM X [0, 2, 3, 4, 5] σ)).2).err = 0 := h1
    have h2' : (toR (modrm Y (onlyM Y [0, 2, 3, 4, 5] τ)).1 Y (modrm Y (onlyM Y [0, 2, 3, 4, 5] τ)).2).err = 0 := h2
    have g1 := (kk.ok (X := X) (σ := onlyM X [0, 2, 3, 4, 5] σ) h1').1
    have g2 := (kk.ok (X := Y) (σ := onlyM Y [0, 2, 3, 4, 5] τ) h2').1
    have R0 : Rel (onlyM X [0, 2, 3, 4, 5] σ) (onlyM Y [0, 2, 3, 4, 5] τ) := gt_rel T (.only [0, 2, 3, 4, 5]) R g1 g2
    obtain ⟨e, R1⟩ := mid_rel T toR toR rdToR rdToR R0 h1' h2'
    show SimI (toR (modrm X (onlyM X [0, 2, 3, 4, 5] σ)).1 X (modrm X (onlyM X [0, 2, 3, 4, 5] σ)).2).ins (toR (modrm Y (onlyM Y [0, 2, 3, 4, 5] τ)).1 Y (modrm Y (onlyM Y [0, 2, 3, 4, 5] τ)).2).ins
    rw [e] at h2' ⊢
    exact isP_rel T 8 0 2 2 (Or.inl rfl) [.Seg _, .E] rfl R1 (Emp.fr (gt_emp (.only [0, 2, 3, 4, 5]) g1 hx) (modrm_fr X _)) (Emp.fr (gt_emp (.only [0, 2, 3, 4, 5]) g2 hy) (modrm_fr Y _)) h1' h2'
  | frm =>
    have kk : RdS (fun X σ => fmR (modrm X σ).1 X (modrm X σ).2) := Rd.bindS (f := modrm) (g := fmR) rdModrm rdFmR
    have h1' : (gFrom X σ).err = 0 := h1
    have h2' : (gFrom Y τ).err = 0 := h2
    show SimI (gFrom X σ).ins (gFrom Y τ).ins
    rw [gFrom_eq] at h1' h2'
    rw [gFrom_eq, gFrom_eq]
    have g1 := (kk.ok (X := X) (σ := onlyM X [0, 1, 2, 3, 4, 5] σ) h1').1
    have g2 := (kk.ok (X := Y) (σ := onlyM Y [0, 1, 2, 3, 4, 5] τ) h2').1
    have R0 : Rel (onlyM X [0, 1, 2, 3, 4, 5] σ) (onlyM Y [0, 1, 2, 3, 4, 5] τ) := gt_rel T (.only [0, 1, 2, 3, 4, 5]) R g1 g2
    obtain ⟨e, R1⟩ := mid_rel T fmR fmR rdFmR rdFmR R0 h1' h2'
    rw [e] at h2' ⊢
    refine isP_rel T 8 0 _ _ ?_ [.E, .Seg _] rfl R1 (Emp.fr (gt_emp (.only [0, 1, 2, 3, 4, 5]) g1 hx) (modrm_fr X _)) (Emp.fr (gt_emp (.only [0, 1, 2, 3, 4, 5]) g2 hy) (modrm_fr Y _)) h1' h2'
    split
    · exact Or.inr ⟨R1.v1, R1.v2⟩
    · exact Or.inl rfl

theorem tab_okW : ∀ e ∈ tab, e.2.okW = true := by decide +kernel

end Go.Proofs.YtopeccjghamjmaaGreat
