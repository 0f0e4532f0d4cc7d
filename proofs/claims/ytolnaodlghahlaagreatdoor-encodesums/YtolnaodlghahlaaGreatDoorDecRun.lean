/- What holds of every reader: an error stays; as many bytes as it takes are all that it looks at; fewer are too few; bytes that are moved are read all the same, as far as fifteen. -/
import Derived.Test.YtolnaodlghahlaaGreatDoorDecTree
namespace Go.Proofs.YtolnaodlghahlaaGreatDoor
open Go.ChangeShapes Go.WideShapes Go.ChangeAt Go.RowKit
set_option linter.unusedVariables false

theorem tk1_err {X : Cx} {i : Nat} {e : Int} (h : e ≠ 0) : tk1 X i e = (0, i, e) := by simp [tk1, h]
theorem tk1_long {X : Cx} {i : Nat} (h : i = 15) : tk1 X i 0 = (0, i, 62) := by simp [tk1, h]
theorem tk1_more {X : Cx} {i : Nat} (h : i ≠ 15) (h2 : i = X.L) : tk1 X i 0 = (0, i, 61) := by subst h2; simp [tk1, h]
theorem tk1_ok {X : Cx} {i : Nat} (h : i ≠ 15) (h2 : i ≠ X.L) : tk1 X i 0 = (X.bt i, i + 1, 0) := by simp [tk1, h, h2]

theorem run_long {α : Type} {X : Cx} {k : Int → Rdr α} {i : Nat} (h : i = 15) : (Rdr.tk k).run X i 0 = (k 0).run X i 62 := by
  show (k (tk1 X i 0).1).run X (tk1 X i 0).2.1 (tk1 X i 0).2.2 = _
  rw [tk1_long h]
theorem run_more {α : Type} {X : Cx} {k : Int → Rdr α} {i : Nat} (h : i ≠ 15) (h2 : i = X.L) : (Rdr.tk k).run X i 0 = (k 0).run X i 61 := by
  show (k (tk1 X i 0).1).run X (tk1 X i 0).2.1 (tk1 X i 0).2.2 = _
  rw [tk1_more h h2]
theorem run_ok {α : Type} {X : Cx} {k : Int → Rdr α} {i : Nat} (h : i ≠ 15) (h2 : i ≠ X.L) : (Rdr.tk k).run X i 0 = (k (X.bt i)).run X (i + 1) 0 := by
  show (k (tk1 X i 0).1).run X (tk1 X i 0).2.1 (tk1 X i 0).2.2 = _
  rw [tk1_ok h h2]

theorem Rdr.stuck {α : Type} (X : Cx) : ∀ (t : Rdr α) (i : Nat) (e : Int), e ≠ 0 → (t.run X i e).2 = (i, e)
  | .ret a, i, e, h => rfl
  | .tk k, i, e, h => by
    show ((k (tk1 X i e).1).run X (tk1 X i e).2.1 (tk1 X i e).2.2).2 = _
    rw [tk1_err h]
    exact Rdr.stuck X _ i e h
  | .rf k, i, e, h => by
    show (k.run X i (if e = 0 then 60 else e)).2 = _
    rw [if_neg h]
    exact Rdr.stuck X k i e h

theorem Rdr.stays {α : Type} (X : Cx) (t : Rdr α) (i : Nat) (e : Int) (h : e ≠ 0) : (t.run X i e).2.2 = e := by rw [Rdr.stuck X t i e h]

theorem Rdr.ok0 {α : Type} {X : Cx} {t : Rdr α} {i : Nat} {e : Int} (h : (t.run X i e).2.2 = 0) : e = 0 := by
  by_cases h0 : e = 0
  · exact h0
  · rw [Rdr.stays X t i e h0] at h; exact h

theorem Rdr.tk_ok {α : Type} {X : Cx} {k : Int → Rdr α} {i : Nat} {e : Int} (h : ((Rdr.tk k).run X i e).2.2 = 0) : e = 0 ∧ i ≠ 15 ∧ i ≠ X.L ∧ (Rdr.tk k).run X i e = (k (X.bt i)).run X (i + 1) 0 := by
  have h0 : e = 0 := Rdr.ok0 h
  subst h0
  have h15 : i ≠ 15 := fun e => by rw [run_long e, Rdr.stays X _ _ 62 (by decide)] at h; cases h
  have hL : i ≠ X.L := fun e => by rw [run_more h15 e, Rdr.stays X _ _ 61 (by decide)] at h; cases h
  exact ⟨rfl, h15, hL, run_ok h15 hL⟩

theorem Rdr.rf_no {α : Type} {X : Cx} {k : Rdr α} {i : Nat} {e : Int} : ((Rdr.rf k).run X i e).2.2 ≠ 0 := fun h => by
  have h0 := Rdr.ok0 h
  subst h0
  have h' : (k.run X i 60).2.2 = 0 := h
  rw [Rdr.stays X k i 60 (by decide)] at h'
  cases h'

theorem Rdr.up {α : Type} (X : Cx) : ∀ (t : Rdr α) (i : Nat) (e : Int), i ≤ (t.run X i e).2.1
  | .ret a, i, e => Nat.le_refl _
  | .tk k, i, e => by
    show i ≤ ((k (tk1 X i e).1).run X (tk1 X i e).2.1 (tk1 X i e).2.2).2.1
    refine Nat.le_trans ?_ (Rdr.up X _ _ _)
    unfold tk1
    split
    · exact Nat.le_refl _
    · split
      · exact Nat.le_refl _
      · split
        · exact Nat.le_refl _
        · exact Nat.le_succ _
  | .rf k, i, e => Rdr.up X k i _

theorem Rdr.bd {α : Type} (X : Cx) : ∀ (t : Rdr α) (i : Nat) (e : Int), i ≤ 15 → i ≤ X.L → (t.run X i e).2.1 ≤ 15 ∧ (t.run X i e).2.1 ≤ X.L
  | .ret a, i, e, h, h2 => ⟨h, h2⟩
  | .tk k, i, e, h, h2 => by
    show ((k (tk1 X i e).1).run X (tk1 X i e).2.1 (tk1 X i e).2.2).2.1 ≤ 15 ∧ ((k (tk1 X i e).1).run X (tk1 X i e).2.1 (tk1 X i e).2.2).2.1 ≤ X.L
    have : (tk1 X i e).2.1 ≤ 15 ∧ (tk1 X i e).2.1 ≤ X.L := by
      unfold tk1
      split
      · exact ⟨h, h2⟩
      · split
        · exact ⟨h, h2⟩
        · split
          · exact ⟨h, h2⟩
          · exact ⟨by show i + 1 ≤ 15; omega, by show i + 1 ≤ X.L; omega⟩
    exact Rdr.bd X _ _ _ this.1 this.2
  | .rf k, i, e, h, h2 => Rdr.bd X k i _ h h2

theorem Rdr.agree {α : Type} (X Y : Cx) : ∀ (t : Rdr α) (i : Nat) (e : Int), (t.run X i e).2.2 = 0 → (∀ k, i ≤ k → k < (t.run X i e).2.1 → k < Y.L ∧ Y.bt k = X.bt k) → t.run Y i e = t.run X i e
  | .ret a, i, e, _, _ => rfl
  | .tk k, i, e, h, hY => by
    obtain ⟨h0, h15, hL, hr⟩ := Rdr.tk_ok h
    subst h0
    rw [hr] at h hY
    have hup := Rdr.up X (k (X.bt i)) (i + 1) 0
    obtain ⟨y1, y2⟩ := hY i (Nat.le_refl _) (by omega)
    rw [hr, run_ok h15 (by omega), y2]
    exact Rdr.agree X Y (k (X.bt i)) (i + 1) 0 h (fun j hj hj2 => hY j (by omega) hj2)
  | .rf k, i, e, h, _ => (Rdr.rf_no h).elim

theorem Rdr.short {α : Type} (X Y : Cx) : ∀ (t : Rdr α) (i : Nat), (t.run X i 0).2.2 = 0 → i ≤ Y.L → Y.L < (t.run X i 0).2.1 → (∀ k, i ≤ k → k < Y.L → Y.bt k = X.bt k) → (t.run Y i 0).2.2 = 61
  | .ret a, i, _, h1, h2, _ => by exact absurd (show Y.L < i from h2) (by omega)
  | .tk k, i, h, h1, h2, hY => by
    obtain ⟨_, h15, hL, hr⟩ := Rdr.tk_ok h
    rw [hr] at h h2
    by_cases e : i = Y.L
    · rw [run_more h15 e, Rdr.stays Y _ _ 61 (by decide)]
    · rw [run_ok h15 e, hY i (Nat.le_refl _) (by omega)]
      exact Rdr.short X Y (k (X.bt i)) (i + 1) h (by omega) h2 (fun j hj hj2 => hY j (by omega) hj2)
  | .rf k, i, h, _, _, _ => (Rdr.rf_no h).elim

/-- Bytes that were moved by n. -/
theorem Rdr.shift {α : Type} (X Y : Cx) (n : Nat) (hn : 1 ≤ n) (hL : Y.L = X.L + n) : ∀ (t : Rdr α) (i : Nat) (e : Int), i + n ≤ 15 → i ≤ X.L → (∀ k, i ≤ k → k < X.L → Y.bt (k + n) = X.bt k) →
    ((t.run X i e).2.2 = 0 → (t.run X i e).2.1 + n ≤ 15 → t.run Y (i + n) e = ((t.run X i e).1, (t.run X i e).2.1 + n, 0)) ∧
    ((t.run X i e).2.2 = 0 → 15 < (t.run X i e).2.1 + n → (t.run Y (i + n) e).2.2 = 62) ∧
    ((t.run X i e).2.2 ≠ 0 → (t.run Y (i + n) e).2.2 ≠ 0)
  | .ret a, i, e, h, _, _ => ⟨fun h0 _ => by show (a, i + n, e) = (a, i + n, 0); rw [show e = 0 from h0], fun _ h2 => absurd (show 15 < i + n from h2) (by omega), fun h2 => h2⟩
  | .tk k, i, e, h, hi, hY => by
    by_cases h0 : e = 0
    · subst h0
      by_cases hx : i = X.L
      · have sX : ((Rdr.tk k).run X i 0).2.2 = 61 := by rw [run_more (by omega) hx, Rdr.stays X _ _ 61 (by decide)]
        refine ⟨fun h2 => absurd (sX.symm.trans h2) (by decide), fun h2 => absurd (sX.symm.trans h2) (by decide), fun _ => ?_⟩
        by_cases h5 : i + n = 15
        · rw [run_long h5, Rdr.stays Y _ _ 62 (by decide)]; decide
        · rw [run_more h5 (by omega), Rdr.stays Y _ _ 61 (by decide)]; decide
      · have rX : (Rdr.tk k).run X i 0 = (k (X.bt i)).run X (i + 1) 0 := run_ok (by omega) hx
        by_cases h5 : i + n = 15
        · have sY : ((Rdr.tk k).run Y (i + n) 0).2.2 = 62 := by rw [run_long h5, Rdr.stays Y _ _ 62 (by decide)]
          have hup := Rdr.up X (k (X.bt i)) (i + 1) 0
          rw [← rX] at hup
          exact ⟨fun _ h2 => by omega, fun _ _ => sY, fun _ => by rw [sY]; decide⟩
        · have rY : (Rdr.tk k).run Y (i + n) 0 = (k (X.bt i)).run Y (i + 1 + n) 0 := by
            rw [run_ok h5 (by omega), hY i (Nat.le_refl _) (by omega), show i + n + 1 = i + 1 + n by omega]
          rw [rX, rY]
          exact Rdr.shift X Y n hn hL (k (X.bt i)) (i + 1) 0 (by omega) (by omega) (fun j hj hj2 => hY j (by omega) hj2)
    · have sX := Rdr.stays X (.tk k) i e h0
      have sY := Rdr.stays Y (.tk k) (i + n) e h0
      rw [sX]
      exact ⟨fun h2 => absurd h2 h0, fun h2 => absurd h2 h0, fun _ => by rw [sY]; exact h0⟩
  | .rf k, i, e, h, hi, hY => by
    refine ⟨fun h2 => (Rdr.rf_no h2).elim, fun h2 => (Rdr.rf_no h2).elim, fun _ => Rdr.rf_no⟩

theorem Rdr.same {α : Type} (X Y : Cx) (hL : X.L = Y.L) (hb : X.bt = Y.bt) : ∀ (t : Rdr α) (i : Nat) (e : Int), t.run X i e = t.run Y i e
  | .ret a, i, e => rfl
  | .tk k, i, e => by
    have : tk1 X i e = tk1 Y i e := by unfold tk1; rw [hL, hb]
    show (k (tk1 X i e).1).run X (tk1 X i e).2.1 (tk1 X i e).2.2 = (k (tk1 Y i e).1).run Y (tk1 Y i e).2.1 (tk1 Y i e).2.2
    rw [this]
    exact Rdr.same X Y hL hb _ _ _
  | .rf k, i, e => Rdr.same X Y hL hb k i _

/-! ### of readers that answer a state -/
theorem RdS.tree {g : Cx → Sg → Sg} (hg : RdS g) (σ : Sg) : ∃ t : Rdr Sg, ∀ X i e, g X (σ.put i e) = (t.run X i e).1.put (t.run X i e).2.1 (t.run X i e).2.2 := by
  obtain ⟨t, ht⟩ := hg
  refine ⟨(t σ).bind fun p => .ret p.2, fun X i e => ?_⟩
  have h := congrArg Prod.snd (ht X σ i e)
  simp only [Rdr.run_bind] at h ⊢
  exact h

theorem RdS.stuck {g : Cx → Sg → Sg} (hg : RdS g) (X : Cx) (σ : Sg) (h : σ.err ≠ 0) : (g X σ).err = σ.err ∧ (g X σ).at' = σ.at' := by
  obtain ⟨t, ht⟩ := hg.tree σ
  have e := ht X σ.at' σ.err
  rw [Sg.put_self] at e
  rw [e]
  have s := Rdr.stuck X t σ.at' σ.err h
  exact ⟨congrArg Prod.snd s, congrArg Prod.fst s⟩

theorem RdS.ok {g : Cx → Sg → Sg} (hg : RdS g) {X : Cx} {σ : Sg} (h : (g X σ).err = 0) : σ.err = 0 ∧ σ.at' ≤ (g X σ).at' := by
  obtain ⟨t, ht⟩ := hg.tree σ
  have e := ht X σ.at' σ.err
  rw [Sg.put_self] at e
  rw [e] at h ⊢
  exact ⟨Rdr.ok0 h, Rdr.up X t _ _⟩

theorem RdS.bd {g : Cx → Sg → Sg} (hg : RdS g) (X : Cx) (σ : Sg) (h : σ.at' ≤ 15) (h2 : σ.at' ≤ X.L) : (g X σ).at' ≤ 15 ∧ (g X σ).at' ≤ X.L := by
  obtain ⟨t, ht⟩ := hg.tree σ
  have e := ht X σ.at' σ.err
  rw [Sg.put_self] at e
  rw [e]
  exact Rdr.bd X t _ _ h h2

theorem RdS.agree {g : Cx → Sg → Sg} (hg : RdS g) (X Y : Cx) (σ : Sg) (h : (g X σ).err = 0) (hY : ∀ k, σ.at' ≤ k → k < (g X σ).at' → k < Y.L ∧ Y.bt k = X.bt k) : g Y σ = g X σ := by
  obtain ⟨t, ht⟩ := hg.tree σ
  have e := ht X σ.at' σ.err
  have e2 := ht Y σ.at' σ.err
  rw [Sg.put_self] at e e2
  rw [e] at h hY
  rw [e, e2, Rdr.agree X Y t _ _ h hY]

theorem RdS.short {g : Cx → Sg → Sg} (hg : RdS g) (X Y : Cx) (σ : Sg) (h : (g X σ).err = 0) (h1 : σ.at' ≤ Y.L) (h2 : Y.L < (g X σ).at') (hY : ∀ k, σ.at' ≤ k → k < Y.L → Y.bt k = X.bt k) : (g Y σ).err = 61 := by
  have h0 := (hg.ok h).1
  obtain ⟨t, ht⟩ := hg.tree σ
  have e := ht X σ.at' σ.err
  have e2 := ht Y σ.at' σ.err
  rw [Sg.put_self] at e e2
  rw [e] at h h2
  rw [e2]
  rw [h0] at h h2 ⊢
  exact Rdr.short X Y t _ h h1 h2 hY

theorem RdS.shift {g : Cx → Sg → Sg} (hg : RdS g) (X Y : Cx) (n : Nat) (hn : 1 ≤ n) (hL : Y.L = X.L + n) (σ : Sg) (h : σ.at' + n ≤ 15) (hi : σ.at' ≤ X.L) (hY : ∀ k, σ.at' ≤ k → k < X.L → Y.bt (k + n) = X.bt k) :
    ((g X σ).err = 0 → (g X σ).at' + n ≤ 15 → g Y (σ.put (σ.at' + n) σ.err) = (g X σ).put ((g X σ).at' + n) 0) ∧
    ((g X σ).err = 0 → 15 < (g X σ).at' + n → (g Y (σ.put (σ.at' + n) σ.err)).err = 62) ∧
    ((g X σ).err ≠ 0 → (g Y (σ.put (σ.at' + n) σ.err)).err ≠ 0) := by
  obtain ⟨t, ht⟩ := hg.tree σ
  have e := ht X σ.at' σ.err
  have e2 := ht Y (σ.at' + n) σ.err
  rw [Sg.put_self] at e
  rw [e, e2]
  obtain ⟨a, b, c⟩ := Rdr.shift X Y n hn hL t σ.at' σ.err h hi hY
  refine ⟨fun h1 h2 => ?_, b, c⟩
  rw [a h1 h2]
  rfl

theorem RdS.same {g : Cx → Sg → Sg} (hg : RdS g) (X Y : Cx) (hL : X.L = Y.L) (hb : X.bt = Y.bt) (σ : Sg) : g X σ = g Y σ := by
  obtain ⟨t, ht⟩ := hg.tree σ
  have e := ht X σ.at' σ.err
  have e2 := ht Y σ.at' σ.err
  rw [Sg.put_self] at e e2
  rw [e, e2, Rdr.same X Y hL hb]

/-! ### the whole -/
def sg0 : Sg := ⟨0, 0, 0, 4, -1, 0, none, Ins.zero⟩

def opS (b : Int) (σ : Sg) : Sg := { σ with op := b }

/-- Behind the first byte: prefixes, the opcode, its rule. -/
def behM (rl : Int → Option Rule) (b : Int) (X : Cx) (σ : Sg) : Sg := match rl b with | some r => r.g X (opS b σ) | none => refuse (opS b σ)

def opM (X : Cx) (b : Int) (σ : Sg) : Int × Sg := if b = 15 then (3840 + (take X σ).1, (take X σ).2) else (b, σ)

def restM (rl : Int → Option Rule) (n : Nat) (b : Int) (X : Cx) (σ : Sg) : Sg :=
  behM rl (opM X (preL X n b σ).1 (preL X n b σ).2).1 X (opM X (preL X n b σ).1 (preL X n b σ).2).2

def fullM (rl : Int → Option Rule) (X : Cx) (σ : Sg) : Sg := restM rl 16 (take X σ).1 X (take X σ).2

theorem fullM_eq (rl : Int → Option Rule) (X : Cx) (σ : Sg) : fullM rl X σ = behM rl (opcodeM X σ).1 X (opcodeM X σ).2 := rfl

theorem rdBehM (rl : Int → Option Rule) (b : Int) : RdS (behM rl b) := by
  unfold behM
  cases h : rl b with
  | none => exact RdS.comp (f := fun _ σ => opS b σ) (RdS.step (fun _ _ _ => rfl)) rdRefS
  | some r => exact RdS.comp (f := fun _ σ => opS b σ) (RdS.step (fun _ _ _ => rfl)) (rdRule r)

theorem rdOpM (b : Int) : Rd (fun X σ => opM X b σ) := Rd.ifc (Rd.mapv (fun a => 3840 + a) rdTake) (Rd.same (fun _ _ _ => rfl))

theorem rdRestM (rl : Int → Option Rule) (n : Nat) (b : Int) : RdS (restM rl n b) :=
  Rd.bindS (f := fun X σ => preL X n b σ) (g := fun a X σ => behM rl (opM X a σ).1 X (opM X a σ).2) (rdPreL n b)
    (fun a => Rd.bindS (f := fun X σ => opM X a σ) (g := fun c X σ => behM rl c X σ) (rdOpM a) (fun c => rdBehM rl c))

theorem rdFullM (rl : Int → Option Rule) : RdS (fullM rl) := Rd.bindS (f := take) (g := fun b X σ => restM rl 16 b X σ) rdTake (fun b => rdRestM rl 16 b)

def bx (L : Nat) (bt : Nat → Int) : Cx := ⟨0, 0, none, 0, L, bt, 0⟩

/-- What bytes mean: the instruction and the error. -/
def decM (rl : Int → Option Rule) (L : Nat) (bt : Nat → Int) : Ins × Int :=
  if (fullM rl (bx L bt) sg0).err = 0 then ({ (fullM rl (bx L bt) sg0).ins with len := (fullM rl (bx L bt) sg0).at' }, 0) else (Ins.zero, (fullM rl (bx L bt) sg0).err)

end Go.Proofs.YtolnaodlghahlaaGreatDoor
