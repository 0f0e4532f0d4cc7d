/- Operands are ones that there are: of the plain model. -/
import Derived.Test.YtopeccjghamjmaaGreatDecPure
namespace Go.Proofs.YtopeccjghamjmaaGreat
open Go.ChangeShapes Go.WideShapes Go.ChangeAt Go.RowKit
set_option linter.unusedVariables false

/-- What the parts leave alone. -/
structure Fr (σ σ' : Sg) : Prop where
  op : σ'.op = σ.op
  v : σ'.v = σ.v
  seg : σ'.seg = σ.seg
  rep : σ'.rep = σ.rep
  ins : σ'.ins = σ.ins

theorem Fr.refl (σ : Sg) : Fr σ σ := ⟨rfl, rfl, rfl, rfl, rfl⟩
theorem Fr.trans {a b c : Sg} (h : Fr a b) (k : Fr b c) : Fr a c := ⟨k.op.trans h.op, k.v.trans h.v, k.seg.trans h.seg, k.rep.trans h.rep, k.ins.trans h.ins⟩

theorem take_fr (X : Cx) (σ : Sg) : Fr σ (take X σ).2 := by
  unfold take
  split
  · exact Fr.refl _
  · split
    · exact ⟨rfl, rfl, rfl, rfl, rfl⟩
    · split <;> exact ⟨rfl, rfl, rfl, rfl, rfl⟩

theorem modrm_fr (X : Cx) (σ : Sg) : Fr σ (modrm X σ).2 := by
  unfold modrm
  split
  · exact Fr.refl _
  · have h := take_fr X σ
    exact ⟨h.op, h.v, h.seg, h.rep, h.ins⟩

theorem numM_fr (X : Cx) : ∀ (k i : Nat) (n : Int) (σ : Sg), Fr σ (numM X k i n σ).2
  | 0, i, n, σ => Fr.refl _
  | k + 1, i, n, σ => (take_fr X σ).trans (numM_fr X k (i + 1) _ _)

theorem bytesM_fr (X : Cx) (s : Int) (σ : Sg) : Fr σ (bytesM X s σ).2 := numM_fr X _ _ _ _

theorem sibP_fr (X : Cx) (r : Int) (σ : Sg) : Fr σ (sibP X r σ).2 := by
  unfold sibP
  split
  · exact take_fr X σ
  · exact Fr.refl _

theorem dispP_fr (X : Cx) (m b : Int) (σ : Sg) : Fr σ (dispP X m b σ).2 := by
  unfold dispP
  split
  · exact bytesM_fr X 4 σ
  · split
    · exact bytesM_fr X 1 σ
    · split
      · exact bytesM_fr X 4 σ
      · exact Fr.refl _

theorem pE_fr (X : Cx) (s : Int) (σ : Sg) : Fr σ (pE X s σ).2 := by
  unfold pE
  split
  · exact modrm_fr X σ
  · exact ((modrm_fr X σ).trans (sibP_fr X _ _)).trans (dispP_fr X _ _ _)

theorem part_fr (p : Pt) (X : Cx) (s : Int) (σ : Sg) : Fr σ (p.f X s σ).2 := by
  cases p with
  | A => exact Fr.refl _
  | CL => exact Fr.refl _
  | DX => exact Fr.refl _
  | R => exact Fr.refl _
  | G => exact modrm_fr X σ
  | Rm => exact modrm_fr X σ
  | Cr => exact modrm_fr X σ
  | I => exact bytesM_fr X s σ
  | Ib => exact bytesM_fr X 1 σ
  | Iw => exact bytesM_fr X 2 σ
  | Is => exact bytesM_fr X 1 σ
  | J => exact bytesM_fr X s σ
  | Jb => exact bytesM_fr X 1 σ
  | Far => exact (bytesM_fr X s σ).trans (bytesM_fr X 2 _)
  | O => exact bytesM_fr X 4 σ
  | E => exact pE_fr X s σ
  | Eb => exact pE_fr X 1 σ
  | Ew => exact pE_fr X 2 σ
  | Seg r => exact Fr.refl _
  | Num r => exact Fr.refl _

/-! ### bounds -/
def Byt (X : Cx) : Prop := ∀ j, j < X.L → 0 ≤ X.bt j ∧ X.bt j < 256

structure Iv (X : Cx) (σ : Sg) : Prop where
  le : σ.at' ≤ X.L
  fl : ∀ m n r, σ.fl = some (m, n, r) → (0 ≤ n ∧ n < 8) ∧ 0 ≤ r ∧ r < 8
  sg : -1 ≤ σ.seg ∧ σ.seg ≤ 5
  vv : σ.v = 2 ∨ σ.v = 4

theorem take_iv {X : Cx} (hb : Byt X) (σ : Sg) (h : Iv X σ) : (0 ≤ (take X σ).1 ∧ (take X σ).1 < 256) ∧ Iv X (take X σ).2 := by
  unfold take
  split
  · exact ⟨⟨Int.le_refl _, by show (0 : Int) < 256; decide⟩, h⟩
  · split
    · exact ⟨⟨Int.le_refl _, by show (0 : Int) < 256; decide⟩, ⟨h.le, h.fl, h.sg, h.vv⟩⟩
    · split
      · exact ⟨⟨Int.le_refl _, by show (0 : Int) < 256; decide⟩, ⟨h.le, h.fl, h.sg, h.vv⟩⟩
      · exact ⟨hb _ (by have := h.le; omega), ⟨by show σ.at' + 1 ≤ X.L; have := h.le; omega, h.fl, h.sg, h.vv⟩⟩

theorem modrm_iv {X : Cx} (hb : Byt X) (σ : Sg) (h : Iv X σ) : ((0 ≤ (modrm X σ).1.2.1 ∧ (modrm X σ).1.2.1 < 8) ∧ 0 ≤ (modrm X σ).1.2.2 ∧ (modrm X σ).1.2.2 < 8) ∧ Iv X (modrm X σ).2 := by
  unfold modrm
  split
  · rename_i x hx
    obtain ⟨m, n, r⟩ := x
    exact ⟨h.fl m n r hx, h⟩
  · have t := take_iv hb σ h
    have q : ((0 ≤ (take X σ).1 / 8 % 8 ∧ (take X σ).1 / 8 % 8 < 8) ∧ 0 ≤ (take X σ).1 % 8 ∧ (take X σ).1 % 8 < 8) := by refine ⟨⟨?_, ?_⟩, ?_, ?_⟩ <;> omega
    refine ⟨q, ⟨t.2.le, ?_, t.2.sg, t.2.vv⟩⟩
    intro m n r e
    injection e with e
    injection e with e1 e
    injection e with e2 e3
    subst e2 e3
    exact q

theorem numM_iv {X : Cx} (hb : Byt X) : ∀ (k i : Nat) (n : Int) (σ : Sg), Iv X σ → Iv X (numM X k i n σ).2
  | 0, i, n, σ, h => h
  | k + 1, i, n, σ, h => numM_iv hb k (i + 1) _ _ (take_iv hb σ h).2

theorem bytesM_iv {X : Cx} (hb : Byt X) (s : Int) (hs : s = 1 ∨ s = 2 ∨ s = 4) (σ : Sg) (h : Iv X σ) : (0 ≤ (bytesM X s σ).1 ∧ (bytesM X s σ).1 < 256 ^ s.toNat) ∧ Iv X (bytesM X s σ).2 := by
  refine ⟨?_, numM_iv hb _ _ _ _ h⟩
  have := numM_bd (X := X) s.toNat 0 0 σ hb h.le (by omega) (Int.le_refl _) (by decide)
  simpa [bytesM] using this

/-- An operand that there is, of an instruction with that number and that size. -/
def fitO (op s : Int) (o : Opd) : Prop :=
  (o.kind = 0 ∧ o = Opd.zero) ∨ (o.kind = 1 ∧ (0 ≤ o.reg ∧ o.reg < 8) ∧ (o.size = 1 ∨ o.size = 2 ∨ o.size = 4)) ∨
  (o.kind = 2 ∧ (o.size = 1 ∨ o.size = 2 ∨ o.size = 4) ∧ (-1 ≤ o.base ∧ o.base < 8) ∧ (-1 ≤ o.index ∧ o.index < 8 ∧ o.index ≠ 4) ∧ (0 ≤ o.seg ∧ o.seg < 6) ∧ (o.scale = 1 ∨ o.scale = 2 ∨ o.scale = 4 ∨ o.scale = 8)) ∨
  (o.kind = 3 ∧ 0 ≤ o.imm ∧ (o.imm < 256 ^ s.toNat ∨ (op = 30 ∧ o.imm < 4294967296))) ∨ (o.kind = 4 ∧ 0 ≤ o.reg ∧ o.reg < 6) ∨ (o.kind = 5 ∧ (o.reg = 0 ∨ o.reg = 2 ∨ o.reg = 3)) ∨ ((o.kind = 6 ∨ o.kind = 7) ∧ o.reg = 0)

theorem fit_reg (op s r z : Int) (h : 0 ≤ r ∧ r < 8) (hz : z = 1 ∨ z = 2 ∨ z = 4) : fitO op s (regO r z) := Or.inr (Or.inl ⟨rfl, h, hz⟩)
theorem fit_num (op s n : Int) (h0 : 0 ≤ n) (h : n < 256 ^ s.toNat ∨ (op = 30 ∧ n < 4294967296)) : fitO op s (numO n) := Or.inr (Or.inr (Or.inr (Or.inl ⟨rfl, h0, h⟩)))
theorem fit_seg (op s r : Int) (h : 0 ≤ r ∧ r < 6) : fitO op s (segO r) := Or.inr (Or.inr (Or.inr (Or.inr (Or.inl ⟨rfl, h⟩))))

theorem pw1 (s : Int) (hs : s = 1 ∨ s = 2 ∨ s = 4) : (256 : Int) ≤ 256 ^ s.toNat := by rcases hs with rfl | rfl | rfl <;> decide

theorem fit_mem (op s z g b i c d : Int) (hz : z = 1 ∨ z = 2 ∨ z = 4) (hb : -1 ≤ b ∧ b < 8) (hi : -1 ≤ i ∧ i < 8 ∧ i ≠ 4) (hg : 0 ≤ g ∧ g < 6) (hc : c = 1 ∨ c = 2 ∨ c = 4 ∨ c = 8) : fitO op s (mem9 z g b i c d) :=
  Or.inr (Or.inr (Or.inl ⟨rfl, hz, hb, hi, hg, hc⟩))

theorem segP_bd (g m b : Int) (h : -1 ≤ g ∧ g ≤ 5) : 0 ≤ segP g m b ∧ segP g m b < 6 := by
  unfold segP
  split
  · split
    · exact ⟨by decide, by decide⟩
    · split
      · exact ⟨by decide, by decide⟩
      · exact ⟨by decide, by decide⟩
  · omega

theorem dispP_iv {X : Cx} (hb : Byt X) (m b : Int) (σ : Sg) (h : Iv X σ) : Iv X (dispP X m b σ).2 := by
  unfold dispP
  split
  · exact numM_iv hb _ _ _ _ h
  · split
    · exact numM_iv hb _ _ _ _ h
    · split
      · exact numM_iv hb _ _ _ _ h
      · exact h

theorem sibP_iv {X : Cx} (hb : Byt X) (r : Int) (hr : 0 ≤ r ∧ r < 8) (σ : Sg) (h : Iv X σ) : ((0 ≤ (sibP X r σ).1.1 ∧ (sibP X r σ).1.1 < 8) ∧ (-1 ≤ (sibP X r σ).1.2.1 ∧ (sibP X r σ).1.2.1 < 8 ∧ (sibP X r σ).1.2.1 ≠ 4) ∧ ((sibP X r σ).1.2.2 = 1 ∨ (sibP X r σ).1.2.2 = 2 ∨ (sibP X r σ).1.2.2 = 4 ∨ (sibP X r σ).1.2.2 = 8)) ∧ Iv X (sibP X r σ).2 := by
  unfold sibP
  split
  · have t := take_iv hb σ h
    refine ⟨?_, t.2⟩
    unfold sibM
    simp only
    split
    · exact ⟨⟨by show 0 ≤ (take X σ).1 % 8; omega, by show (take X σ).1 % 8 < 8; omega⟩, ⟨by show (-1 : Int) ≤ -1; omega, by show (-1 : Int) < 8; omega, by show (-1 : Int) ≠ 4; omega⟩, Or.inl rfl⟩
    · rename_i h4
      refine ⟨⟨by show 0 ≤ (take X σ).1 % 8; omega, by show (take X σ).1 % 8 < 8; omega⟩, ⟨by show (-1 : Int) ≤ (take X σ).1 / 8 % 8; omega, by show (take X σ).1 / 8 % 8 < 8; omega, h4⟩, ?_⟩
      show (2 : Int) ^ ((take X σ).1 / 64).toNat = 1 ∨ (2 : Int) ^ ((take X σ).1 / 64).toNat = 2 ∨ (2 : Int) ^ ((take X σ).1 / 64).toNat = 4 ∨ (2 : Int) ^ ((take X σ).1 / 64).toNat = 8
      rcases (by omega : ((take X σ).1 / 64).toNat = 0 ∨ ((take X σ).1 / 64).toNat = 1 ∨ ((take X σ).1 / 64).toNat = 2 ∨ ((take X σ).1 / 64).toNat = 3) with e | e | e | e <;> rw [e] <;> decide
  · exact ⟨⟨hr, ⟨by show (-1 : Int) ≤ -1; omega, by show (-1 : Int) < 8; omega, by show (-1 : Int) ≠ 4; omega⟩, Or.inl rfl⟩, h⟩

theorem pE_fit {X : Cx} (hb : Byt X) (op s z : Int) (hz : z = 1 ∨ z = 2 ∨ z = 4) (σ : Sg) (h : Iv X σ) : fitO op s (pE X z σ).1 ∧ Iv X (pE X z σ).2 := by
  have m := modrm_iv hb σ h
  unfold pE
  split
  · exact ⟨fit_reg op s _ z m.1.2 hz, m.2⟩
  · have q := sibP_iv hb (modrm X σ).1.2.2 m.1.2 (modrm X σ).2 m.2
    refine ⟨fit_mem op s z _ _ _ _ _ hz ?_ q.1.2.1 (segP_bd _ _ _ m.2.sg) q.1.2.2, dispP_iv hb _ _ _ q.2⟩
    have := q.1.1
    unfold baseP
    split
    · exact ⟨by decide, by decide⟩
    · omega

/-- What a part asks of the instruction. -/
def PtS (op : Int) : Pt → Bool
  | .Cr => false
  | .Iw => op == 30
  | .Seg r => decide (0 ≤ r ∧ r < 6)
  | .Num r => decide (0 ≤ r ∧ r < 256)
  | _ => true

theorem part_fit {X : Cx} (hb : Byt X) (op s : Int) (hs : s = 1 ∨ s = 2 ∨ s = 4) (p : Pt) (hp : PtS op p = true) (σ : Sg) (h : Iv X σ) : fitO op s (p.f X s σ).1 ∧ Iv X (p.f X s σ).2 := by
  have hp1 := pw1 s hs
  cases p with
  | A => exact ⟨fit_reg op s 0 s (by decide) hs, h⟩
  | CL => exact ⟨fit_reg op s 1 1 (by decide) (by decide), h⟩
  | DX => exact ⟨fit_reg op s 2 2 (by decide) (by decide), h⟩
  | R => exact ⟨fit_reg op s (σ.op % 8) s (by omega) hs, h⟩
  | G => have m := modrm_iv hb σ h; exact ⟨fit_reg op s _ s m.1.1 hs, m.2⟩
  | Rm => have m := modrm_iv hb σ h; exact ⟨fit_reg op s _ s m.1.2 hs, m.2⟩
  | Cr => cases hp
  | I => have b := bytesM_iv hb s hs σ h; exact ⟨fit_num op s _ b.1.1 (Or.inl b.1.2), b.2⟩
  | Ib =>
    have b := bytesM_iv hb 1 (by decide) σ h
    have b1 : (bytesM X 1 σ).1 < 256 := by simpa using b.1.2
    exact ⟨fit_num op s _ b.1.1 (Or.inl (by omega)), b.2⟩
  | Iw =>
    have b := bytesM_iv hb 2 (by decide) σ h
    have b1 : (bytesM X 2 σ).1 < 65536 := by simpa using b.1.2
    exact ⟨fit_num op s _ b.1.1 (Or.inr ⟨by simpa [PtS] using hp, by omega⟩), b.2⟩
  | Is =>
    have b := bytesM_iv hb 1 (by decide) σ h
    have q := sgnM_bd 1 (bytesM X 1 σ).1 (by decide) b.1.1 b.1.2
    refine ⟨fit_num op s _ (cutM_bd s _ q.1 q.2).1 (Or.inl ?_), b.2⟩
    rcases hs with rfl | rfl | rfl
    · show cutM 1 _ < 256; unfold cutM; rw [if_pos rfl]; omega
    · show cutM 2 _ < 65536; unfold cutM; rw [if_neg (by decide), if_pos rfl]; omega
    · exact (cutM_bd 4 _ q.1 q.2).2
  | J => exact ⟨Or.inr (Or.inr (Or.inr (Or.inr (Or.inr (Or.inr ⟨Or.inl rfl, rfl⟩))))), (bytesM_iv hb s hs σ h).2⟩
  | Jb => exact ⟨Or.inr (Or.inr (Or.inr (Or.inr (Or.inr (Or.inr ⟨Or.inl rfl, rfl⟩))))), (bytesM_iv hb 1 (by decide) σ h).2⟩
  | Far => exact ⟨Or.inr (Or.inr (Or.inr (Or.inr (Or.inr (Or.inr ⟨Or.inr rfl, rfl⟩))))), (bytesM_iv hb 2 (by decide) _ (bytesM_iv hb s hs σ h).2).2⟩
  | O =>
    refine ⟨fit_mem op s s _ _ _ _ _ hs (by decide) (by decide) ?_ (by decide), (bytesM_iv hb 4 (by decide) σ h).2⟩
    have := h.sg
    unfold segD
    split
    · exact ⟨by decide, by decide⟩
    · omega
  | E => exact pE_fit hb op s s hs σ h
  | Eb => exact pE_fit hb op s 1 (by decide) σ h
  | Ew => exact pE_fit hb op s 2 (by decide) σ h
  | Seg r => exact ⟨fit_seg op s r (by simpa [PtS] using hp), h⟩
  | Num r =>
    have hr : 0 ≤ r ∧ r < 256 := by simpa [PtS] using hp
    exact ⟨fit_num op s r hr.1 (Or.inl (by omega)), h⟩

theorem fit_zero (op s : Int) : fitO op s Opd.zero := Or.inl ⟨rfl, rfl⟩

structure FitI (x : Ins) : Prop where
  size : x.size = 1 ∨ x.size = 2 ∨ x.size = 4
  op : 1 ≤ x.op ∧ x.op ≤ 47
  rep : x.rep = 0 ∨ (x.op = 36 ∧ (x.rep = 1 ∨ x.rep = 2))
  a : fitO x.op x.size x.a
  b : fitO x.op x.size x.b
  c : fitO x.op x.size x.c

structure Jn (X : Cx) (op s : Int) (σ : Sg) : Prop where
  iv : Iv X σ
  hop : σ.ins.op = op
  hsz : σ.ins.size = s
  hrep : σ.ins.rep = 0
  ha : fitO op s σ.ins.a
  hb : fitO op s σ.ins.b
  hc : fitO op s σ.ins.c

theorem Jn.set {X : Cx} {op s : Int} {σ σ' : Sg} {o : Opd} (h : Jn X op s σ) (i : Nat) (f : Fr σ σ') (v : Iv X σ') (ho : fitO op s o) : Jn X op s (setI i (o, σ')) := by
  have e := f.ins
  have hv : Iv X (setI i (o, σ')) := by unfold setI; split <;> exact ⟨v.le, v.fl, v.sg, v.vv⟩
  unfold setI
  split
  · exact ⟨⟨v.le, v.fl, v.sg, v.vv⟩, by show σ'.ins.op = op; rw [e]; exact h.hop, by show σ'.ins.size = s; rw [e]; exact h.hsz, by show σ'.ins.rep = 0; rw [e]; exact h.hrep, ho, by show fitO op s σ'.ins.b; rw [e]; exact h.hb, by show fitO op s σ'.ins.c; rw [e]; exact h.hc⟩
  · exact ⟨⟨v.le, v.fl, v.sg, v.vv⟩, by show σ'.ins.op = op; rw [e]; exact h.hop, by show σ'.ins.size = s; rw [e]; exact h.hsz, by show σ'.ins.rep = 0; rw [e]; exact h.hrep, by show fitO op s σ'.ins.a; rw [e]; exact h.ha, ho, by show fitO op s σ'.ins.c; rw [e]; exact h.hc⟩
  · exact ⟨⟨v.le, v.fl, v.sg, v.vv⟩, by show σ'.ins.op = op; rw [e]; exact h.hop, by show σ'.ins.size = s; rw [e]; exact h.hsz, by show σ'.ins.rep = 0; rw [e]; exact h.hrep, by show fitO op s σ'.ins.a; rw [e]; exact h.ha, by show fitO op s σ'.ins.b; rw [e]; exact h.hb, ho⟩

theorem stpF_fit {X : Cx} (hb : Byt X) (op s : Int) (hs : s = 1 ∨ s = 2 ∨ s = 4) : ∀ (ps : List Pt) (i : Nat) (σ : Sg), (∀ p ∈ ps, PtS op p = true) → Jn X op s σ → Jn X op s (stpF X s i (ps.map Pt.f) σ)
  | [], i, σ, _, h => h
  | p :: ps, i, σ, hp, h => by
    have q := part_fit hb op s hs p (hp p List.mem_cons_self) σ h.iv
    exact stpF_fit hb op s hs ps (i + 1) _ (fun p' hp' => hp p' (List.mem_cons_of_mem _ hp')) (h.set i (part_fr p X s σ) q.2 q.1)

/-- The instruction is empty still. -/
def Emp (x : Ins) : Prop := x.a = Opd.zero ∧ x.b = Opd.zero ∧ x.c = Opd.zero ∧ x.rep = 0

theorem isM_fit {X : Cx} (hb : Byt X) (op sub s : Int) (hs : s = 1 ∨ s = 2 ∨ s = 4) (ps : List Pt) (hp : ∀ p ∈ ps, PtS op p = true) (σ : Sg) (h : Iv X σ) (he : Emp σ.ins) : Jn X op s (isM X op sub s (ps.map Pt.f) σ) := by
  refine stpF_fit hb op s hs ps 0 (hdS op sub s σ) hp ⟨⟨h.le, h.fl, h.sg, h.vv⟩, rfl, rfl, he.2.2.2, ?_, ?_, ?_⟩
  · show fitO op s σ.ins.a; rw [he.1]; exact fit_zero op s
  · show fitO op s σ.ins.b; rw [he.2.1]; exact fit_zero op s
  · show fitO op s σ.ins.c; rw [he.2.2.1]; exact fit_zero op s

theorem Jn.fit {X : Cx} {op s : Int} {σ : Sg} (h : Jn X op s σ) (hs : s = 1 ∨ s = 2 ∨ s = 4) (ho : 1 ≤ op ∧ op ≤ 47) : FitI σ.ins := by
  obtain ⟨_, h1, h2, h3, ha, hb, hc⟩ := h
  subst h1 h2
  exact ⟨hs, ho, Or.inl h3, ha, hb, hc⟩

/-! ### the gates -/
theorem refuse_no (σ : Sg) : (refuse σ).err ≠ 0 := by
  unfold refuse
  split
  · show (60 : Int) ≠ 0; decide
  · assumption

theorem only_in {X : Cx} {L : List Int} {σ : Sg} (h : (onlyM X L σ).err = 0) : onlyM X L σ = (modrm X σ).2 ∧ L.contains (modrm X σ).1.2.1 = true := by
  unfold onlyM at h ⊢
  by_cases hc : L.contains (modrm X σ).1.2.1 = true
  · rw [if_pos hc]; exact ⟨rfl, hc⟩
  · rw [if_neg hc] at h; exact absurd h (refuse_no _)

theorem mem_in {X : Cx} {σ : Sg} (h : (onlyMem X σ).err = 0) : onlyMem X σ = (modrm X σ).2 ∧ (modrm X σ).1.1 ≠ 3 := by
  unfold onlyMem at h ⊢
  by_cases hc : (modrm X σ).1.1 = 3
  · rw [if_pos hc] at h; exact absurd h (refuse_no _)
  · rw [if_neg hc]; exact ⟨rfl, hc⟩

theorem modrm_fl (X : Cx) (σ : Sg) : (modrm X σ).2.fl = some (modrm X σ).1 := by
  unfold modrm
  split
  · rename_i x hx; exact hx
  · rfl

theorem modrm_some {X : Cx} {σ : Sg} {x : Int × Int × Int} (h : σ.fl = some x) : modrm X σ = (x, σ) := by
  unfold modrm
  rw [h]

theorem modrm_again (X : Cx) (σ : Sg) : modrm X (modrm X σ).2 = modrm X σ := by
  rw [modrm_some (modrm_fl X σ)]

/-- What is asked of a row. -/
def Row.fine (r : Row) : Bool :=
  decide (1 ≤ r.op ∧ r.op ≤ 47) && (match r.sz with | .k x => x == 1 || x == 2 || x == 4 | .v => true) &&
  (r.ps.all (PtS r.op) || (decide (r.gt = .only [0, 2, 3]) && decide (r.sb = .k 0) && (decide (r.ps = [.Rm, .Cr]) || decide (r.ps = [.Cr, .Rm]))))

def Rule.fine : Rule → Bool
  | .row r => r.fine
  | .str _ z => (match z with | .k x => x == 1 || x == 2 || x == 4 | .v => true)
  | .un z => (match z with | .k x => x == 1 || x == 2 || x == 4 | .v => true)
  | _ => true

theorem sz_ok {X : Cx} {z : Szk} (h : (match z with | .k x => x == 1 || x == 2 || x == 4 | .v => true) = true) {σ : Sg} (hv : Iv X σ) : z.of σ = 1 ∨ z.of σ = 2 ∨ z.of σ = 4 := by
  cases z with
  | k x =>
    simp at h
    show x = 1 ∨ x = 2 ∨ x = 4
    omega
  | v => exact Or.inr hv.vv

theorem gt_in {X : Cx} {t : Gt} {σ : Sg} (hb : Byt X) (h : (t.g X σ).err = 0) (hv : Iv X σ) : Iv X (t.g X σ) ∧ Fr σ (t.g X σ) := by
  cases t with
  | no => exact ⟨hv, Fr.refl _⟩
  | only L =>
    have e := only_in (X := X) (L := L) (σ := σ) h
    show Iv X (onlyM X L σ) ∧ Fr σ (onlyM X L σ)
    rw [e.1]
    exact ⟨(modrm_iv hb σ hv).2, modrm_fr X σ⟩
  | mem =>
    have e := mem_in (X := X) (σ := σ) h
    show Iv X (onlyMem X σ) ∧ Fr σ (onlyMem X σ)
    rw [e.1]
    exact ⟨(modrm_iv hb σ hv).2, modrm_fr X σ⟩

theorem Emp.fr {σ σ' : Sg} (h : Emp σ.ins) (f : Fr σ σ') : Emp σ'.ins := by rw [f.ins]; exact h

theorem row_fit {X : Cx} (hb : Byt X) (r : Row) (hf : r.fine = true) (σ : Sg) (hv : Iv X σ) (he : Emp σ.ins) (h : (r.g X σ).err = 0) : FitI (r.g X σ).ins := by
  have hg : (r.gt.g X σ).err = 0 := ((rdRowIs r).ok (X := X) (σ := r.gt.g X σ) h).1
  have G := gt_in hb hg hv
  obtain ⟨gt, op, sb, sz, ps⟩ := r
  unfold Row.fine at hf
  simp only [Bool.and_eq_true, Bool.or_eq_true, decide_eq_true_eq] at hf
  obtain ⟨⟨ho, hz⟩, hp⟩ := hf
  have hs := sz_ok hz G.1
  rcases hp with hp | ⟨⟨h1, h2⟩, h3⟩
  · have hp' : ∀ p ∈ ps, PtS op p = true := by simpa using hp
    show FitI (Row.is ⟨gt, op, sb, sz, ps⟩ X (gt.g X σ)).ins
    have hE := he.fr G.2
    have M := modrm_iv hb _ G.1
    have hE2 := hE.fr (modrm_fr X (gt.g X σ))
    cases sb with
    | k x => exact (isM_fit hb op x _ hs ps hp' _ G.1 hE).fit hs ho
    | opn => exact (isM_fit hb op _ _ hs ps hp' _ G.1 hE).fit hs ho
    | opc => exact (isM_fit hb op _ _ hs ps hp' _ G.1 hE).fit hs ho
    | mn => exact (isM_fit hb op _ _ hs ps hp' _ M.2 hE2).fit hs ho
    | mp9 => exact (isM_fit hb op _ _ hs ps hp' _ M.2 hE2).fit hs ho
    | mm4 => exact (isM_fit hb op _ _ hs ps hp' _ M.2 hE2).fit hs ho
  · subst h1 h2
    have e := only_in (X := X) (L := [0, 2, 3]) (σ := σ) hg
    have eg : Gt.g (.only [0, 2, 3]) X σ = (modrm X σ).2 := e.1
    obtain ⟨⟨m, n, rr⟩, hm⟩ : ∃ x, x = (modrm X σ).1 := ⟨_, rfl⟩
    have hfl : ∀ p, (hdS op 0 p (modrm X σ).2).fl = some (m, n, rr) := fun p => by show (modrm X σ).2.fl = _; rw [modrm_fl, ← hm]
    have hn : n = 0 ∨ n = 2 ∨ n = 3 := by have := e.2; rw [← hm] at this; simpa using this
    have B := modrm_iv hb σ hv
    rw [← hm] at B
    rcases h3 with h3 | h3
    · subst h3
      show FitI (isM X op 0 (sz.of (Gt.g (.only [0, 2, 3]) X σ)) [pRm, pCr] (Gt.g (.only [0, 2, 3]) X σ)).ins
      rw [eg] at hs ⊢
      have hE := he.fr (modrm_fr X σ)
      have e1 : isM X op 0 (sz.of (modrm X σ).2) [pRm, pCr] (modrm X σ).2 = setB (crO n, setA (regO rr (sz.of (modrm X σ).2), hdS op 0 (sz.of (modrm X σ).2) (modrm X σ).2)) := by
        show setB (pCr X _ (setA (pRm X _ (hdS op 0 _ (modrm X σ).2)))) = _
        have a1 : pRm X (sz.of (modrm X σ).2) (hdS op 0 (sz.of (modrm X σ).2) (modrm X σ).2) = (regO rr (sz.of (modrm X σ).2), hdS op 0 (sz.of (modrm X σ).2) (modrm X σ).2) := by unfold pRm; rw [modrm_some (hfl _)]
        rw [a1]
        unfold pCr
        rw [modrm_some (σ := setA (regO rr (sz.of (modrm X σ).2), hdS op 0 (sz.of (modrm X σ).2) (modrm X σ).2)) (x := (m, n, rr)) (hfl (sz.of (modrm X σ).2))]
      rw [e1]
      exact ⟨hs, ho, Or.inl hE.2.2.2, fit_reg _ _ _ _ B.1.2 hs, Or.inr (Or.inr (Or.inr (Or.inr (Or.inr (Or.inl ⟨rfl, hn⟩))))), by show fitO _ _ (modrm X σ).2.ins.c; rw [hE.2.2.1]; exact fit_zero _ _⟩
    · subst h3
      show FitI (isM X op 0 (sz.of (Gt.g (.only [0, 2, 3]) X σ)) [pCr, pRm] (Gt.g (.only [0, 2, 3]) X σ)).ins
      rw [eg] at hs ⊢
      have hE := he.fr (modrm_fr X σ)
      have e1 : isM X op 0 (sz.of (modrm X σ).2) [pCr, pRm] (modrm X σ).2 = setB (regO rr (sz.of (modrm X σ).2), setA (crO n, hdS op 0 (sz.of (modrm X σ).2) (modrm X σ).2)) := by
        show setB (pRm X _ (setA (pCr X _ (hdS op 0 _ (modrm X σ).2)))) = _
        have a1 : pCr X (sz.of (modrm X σ).2) (hdS op 0 (sz.of (modrm X σ).2) (modrm X σ).2) = (crO n, hdS op 0 (sz.of (modrm X σ).2) (modrm X σ).2) := by unfold pCr; rw [modrm_some (hfl _)]
        rw [a1]
        unfold pRm
        rw [modrm_some (σ := setA (crO n, hdS op 0 (sz.of (modrm X σ).2) (modrm X σ).2)) (x := (m, n, rr)) (hfl (sz.of (modrm X σ).2))]
      rw [e1]
      exact ⟨hs, ho, Or.inl hE.2.2.2, Or.inr (Or.inr (Or.inr (Or.inr (Or.inr (Or.inl ⟨rfl, hn⟩))))), fit_reg _ _ _ _ B.1.2 hs, by show fitO _ _ (modrm X σ).2.ins.c; rw [hE.2.2.1]; exact fit_zero _ _⟩

theorem isP_fit {X : Cx} (hb : Byt X) (op sub s : Int) (hs : s = 1 ∨ s = 2 ∨ s = 4) (ps : List Pt) (hp : ps.all (PtS op) = true) (ho : 1 ≤ op ∧ op ≤ 47) (σ : Sg) (h : Iv X σ) (he : Emp σ.ins) : FitI (isM X op sub s (ps.map Pt.f) σ).ins :=
  (isM_fit hb op sub s hs ps (by simpa using hp) σ h he).fit hs ho

def RepOk (σ : Sg) : Prop := σ.rep = 0 ∨ σ.rep = 1 ∨ σ.rep = 2

theorem rule_fit {X : Cx} (hb : Byt X) (r : Rule) (hf : r.fine = true) (σ : Sg) (hv : Iv X σ) (he : Emp σ.ins) (hr : RepOk σ) (h : (r.g X σ).err = 0) : FitI (r.g X σ).ins := by
  have M := modrm_iv hb σ hv
  have hE := he.fr (modrm_fr X σ)
  cases r with
  | row r => exact row_fit hb r hf σ hv he h
  | str sub z =>
    have hs := sz_ok hf hv
    have j : FitI (isM X 36 sub (z.of σ) [pString] σ).ins := by
      have hg : 0 ≤ (if σ.seg = -1 then 3 else σ.seg) ∧ (if σ.seg = -1 then 3 else σ.seg) < 6 := by
        have := hv.sg
        split
        · exact ⟨by decide, by decide⟩
        · omega
      exact ⟨hs, by show (1 : Int) ≤ 36 ∧ (36 : Int) ≤ 47; decide, Or.inl he.2.2.2, Or.inr (Or.inr (Or.inl ⟨rfl, hs, by show (-1 : Int) ≤ -1 ∧ (-1 : Int) < 8; decide, by show (-1 : Int) ≤ -1 ∧ (-1 : Int) < 8 ∧ (-1 : Int) ≠ 4; decide, hg, Or.inl rfl⟩)), by show fitO _ _ σ.ins.b; rw [he.2.1]; exact fit_zero _ _, by show fitO _ _ σ.ins.c; rw [he.2.2.1]; exact fit_zero _ _⟩
    exact ⟨j.size, j.op, by show σ.rep = 0 ∨ ((36 : Int) = 36 ∧ (σ.rep = 1 ∨ σ.rep = 2)); rcases hr with e | e | e <;> simp [e], j.a, j.b, j.c⟩
  | un z =>
    have hs := sz_ok hf hv
    show FitI (gUn (z.of σ) X σ).ins
    unfold gUn
    simp only
    split
    · exact isP_fit hb 1 8 _ hs [.E, .I] rfl (by decide) _ M.2 hE
    · split
      · exact isP_fit hb 1 12 _ hs [.E] rfl (by decide) _ M.2 hE
      · split
        · exact isP_fit hb 1 11 _ hs [.E] rfl (by decide) _ M.2 hE
        · split
          · exact isP_fit hb 4 _ _ hs [.E] rfl (by decide) _ M.2 hE
          · exact isP_fit hb 6 _ _ hs [.E] rfl (by decide) _ M.2 hE
  | ff =>
    have hs : (modrm X σ).2.v = 1 ∨ (modrm X σ).2.v = 2 ∨ (modrm X σ).2.v = 4 := Or.inr M.2.vv
    have h' : (gFF X σ).err = 0 := h
    show FitI (gFF X σ).ins
    unfold gFF at h' ⊢
    simp only at h' ⊢
    split
    · exact isP_fit hb 1 9 _ hs [.E] rfl (by decide) _ M.2 hE
    · split
      · exact isP_fit hb 1 10 _ hs [.E] rfl (by decide) _ M.2 hE
      · split
        · exact isP_fit hb 29 0 _ hs [.E] rfl (by decide) _ M.2 hE
        · split
          · exact isP_fit hb 27 0 _ hs [.E] rfl (by decide) _ M.2 hE
          · split
            · exact isP_fit hb 12 0 _ hs [.E] rfl (by decide) _ M.2 hE
            · rename_i a b c d e
              rw [if_neg a, if_neg b, if_neg c, if_neg d, if_neg e] at h'
              exact absurd h' (refuse_no _)
  | sys =>
    have h' : (gSys X σ).err = 0 := h
    show FitI (gSys X σ).ins
    have hg : (onlyMem X σ).err = 0 := by
      have k : RdS (fun X σ => if (modrm X σ).1.2.1 = 2 then isM X 42 0 4 [pE] (modrm X σ).2 else if (modrm X σ).1.2.1 = 3 then isM X 43 0 4 [pE] (modrm X σ).2 else if (modrm X σ).1.2.1 = 7 then isM X 46 0 4 [pE] (modrm X σ).2 else refuse (modrm X σ).2) :=
        Rd.bindS (f := modrm) (g := fun x X σ => if x.2.1 = 2 then isM X 42 0 4 [pE] σ else if x.2.1 = 3 then isM X 43 0 4 [pE] σ else if x.2.1 = 7 then isM X 46 0 4 [pE] σ else refuse σ) rdModrm (fun x => RdS.ifc (rdIsP 42 0 4 [.E]) (RdS.ifc (rdIsP 43 0 4 [.E]) (RdS.ifc (rdIsP 46 0 4 [.E]) rdRefS)))
      exact (k.ok (X := X) (σ := onlyMem X σ) h').1
    have e := mem_in hg
    unfold gSys at h' ⊢
    simp only [e.1, modrm_again] at h' ⊢
    split
    · exact isP_fit hb 42 0 4 (by decide) [.E] rfl (by decide) _ M.2 hE
    · split
      · exact isP_fit hb 43 0 4 (by decide) [.E] rfl (by decide) _ M.2 hE
      · split
        · exact isP_fit hb 46 0 4 (by decide) [.E] rfl (by decide) _ M.2 hE
        · rename_i a b c
          rw [if_neg a, if_neg b, if_neg c] at h'
          exact absurd h' (refuse_no _)
  | to =>
    have h' : (gTo X σ).err = 0 := h
    show FitI (gTo X σ).ins
    have hg : (onlyM X [0, 2, 3, 4, 5] σ).err = 0 := by
      have k : RdS (fun X σ => isM X 8 0 2 [pSeg (modrm X σ).1.2.1, pE] (modrm X σ).2) := Rd.bindS (f := modrm) (g := fun x X σ => isM X 8 0 2 [pSeg x.2.1, pE] σ) rdModrm (fun x => rdIsP 8 0 2 [.Seg x.2.1, .E])
      exact (k.ok (X := X) (σ := onlyM X [0, 2, 3, 4, 5] σ) h').1
    have e := only_in hg
    unfold gTo
    rw [e.1, modrm_again]
    have hn : (modrm X σ).1.2.1 = 0 ∨ (modrm X σ).1.2.1 = 2 ∨ (modrm X σ).1.2.1 = 3 ∨ (modrm X σ).1.2.1 = 4 ∨ (modrm X σ).1.2.1 = 5 := by simpa using e.2
    exact isP_fit hb 8 0 2 (by decide) [.Seg (modrm X σ).1.2.1, .E] (by simp [PtS]; omega) (by decide) _ M.2 hE
  | frm =>
    have h' : (gFrom X σ).err = 0 := h
    show FitI (gFrom X σ).ins
    have hg : (onlyM X [0, 1, 2, 3, 4, 5] σ).err = 0 := by
      have k : RdS (fun X σ => isM X 8 0 (if (modrm X σ).1.1 = 3 then (modrm X σ).2.v else 2) [pE, pSeg (modrm X (modrm X σ).2).1.2.1] (modrm X (modrm X σ).2).2) :=
        Rd.bindS (f := modrm) (g := fun x X σ => isM X 8 0 (if x.1 = 3 then σ.v else 2) [pE, pSeg (modrm X σ).1.2.1] (modrm X σ).2) rdModrm (fun x =>
          RdS.arg (h := fun σ => if x.1 = 3 then σ.v else 2) (g := fun s X σ => isM X 8 0 s [pE, pSeg (modrm X σ).1.2.1] (modrm X σ).2) (fun _ _ _ => rfl) (fun s =>
            Rd.bindS (f := modrm) (g := fun y X σ => isM X 8 0 s [pE, pSeg y.2.1] σ) rdModrm (fun y => rdIsP 8 0 s [.E, .Seg y.2.1])))
      exact (k.ok (X := X) (σ := onlyM X [0, 1, 2, 3, 4, 5] σ) h').1
    have e := only_in hg
    unfold gFrom
    simp only [e.1, modrm_again]
    have hn : (modrm X σ).1.2.1 = 0 ∨ (modrm X σ).1.2.1 = 1 ∨ (modrm X σ).1.2.1 = 2 ∨ (modrm X σ).1.2.1 = 3 ∨ (modrm X σ).1.2.1 = 4 ∨ (modrm X σ).1.2.1 = 5 := by simpa using e.2
    refine isP_fit hb 8 0 _ ?_ [.E, .Seg (modrm X σ).1.2.1] (by simp [PtS]; omega) (by decide) _ M.2 hE
    have := M.2.vv
    split
    · omega
    · exact Or.inr (Or.inl rfl)

end Go.Proofs.YtopeccjghamjmaaGreat
