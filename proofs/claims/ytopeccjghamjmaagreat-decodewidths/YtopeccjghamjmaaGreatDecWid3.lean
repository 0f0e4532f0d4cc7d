/- The prefix of the size ahead of bytes: the whole. -/
import Derived.Test.YtopeccjghamjmaaGreatDecWid2
import Derived.Test.YtopeccjghamjmaaGreatDecodePrefixesLaw
namespace Go.Proofs.YtopeccjghamjmaaGreat
open Go.ChangeShapes Go.WideShapes Go.ChangeAt Go.RowKit
set_option linter.unusedVariables false

/-- What prefixes leave. -/
def preI (bt : Nat → Int) : Nat → Sg
  | 0 => sg0
  | i + 1 => preS (bt i) (preI bt i)

theorem aft_step {rl : Int → Option Rule} {X : Cx} (m i : Nat) (σ : Sg) (hi : i < X.L) (hi2 : i < 15) (hb : isPre (X.bt i) = true) : aftM rl (m + 1) X (σ.put i 0) = aftM rl m X ((preS (X.bt i) σ).put (i + 1) 0) := by
  have ht := take_at X (σ.put i 0) rfl (by show i ≠ 15; omega) (by show i ≠ X.L; omega)
  show restM rl (m + 1) (take X (σ.put i 0)).1 X (take X (σ.put i 0)).2 = _
  rw [ht]
  show restM rl (m + 1) (X.bt i) X (σ.put (i + 1) 0) = _
  rw [restM_step hb m, preS_put]
  rfl

theorem full_preI {rl : Int → Option Rule} (X : Cx) : ∀ i, i ≤ X.L → i ≤ 15 → (∀ j, j < i → isPre (X.bt j) = true) → fullM rl X sg0 = aftM rl (16 - i) X ((preI X.bt i).put i 0) := by
  intro i
  induction i with
  | zero => intro _ _ _; rfl
  | succ i ih =>
    intro h1 h2 h3
    rw [ih (by omega) (by omega) (fun j hj => h3 j (by omega)), show 16 - i = (16 - (i + 1)) + 1 by omega, aft_step _ i _ (by omega) (by omega) (h3 i (by omega))]
    rfl

/-- Behind the prefixes. -/
def begM (rl : Int → Option Rule) (b : Int) (X : Cx) (σ : Sg) : Sg := behM rl (opM X b σ).1 X (opM X b σ).2

theorem rdBegM (rl : Int → Option Rule) (b : Int) : RdS (begM rl b) := Rd.bindS (f := fun X σ => opM X b σ) (g := fun c X σ => behM rl c X σ) (rdOpM b) (fun c => rdBehM rl c)

theorem aft_end {rl : Int → Option Rule} {X : Cx} (m i : Nat) (σ : Sg) (hi : i < X.L) (hi2 : i < 15) (hb : isPre (X.bt i) = false) : aftM rl m X (σ.put i 0) = begM rl (X.bt i) X (σ.put (i + 1) 0) := by
  have ht := take_at X (σ.put i 0) rfl (by show i ≠ 15; omega) (by show i ≠ X.L; omega)
  show restM rl m (take X (σ.put i 0)).1 X (take X (σ.put i 0)).2 = _
  rw [ht]
  show restM rl m (X.bt i) X (σ.put (i + 1) 0) = _
  unfold restM
  have e : preL X m (X.bt i) (σ.put (i + 1) 0) = (X.bt i, σ.put (i + 1) 0) := by
    cases m with
    | zero => rfl
    | succ m => show (if isPre (X.bt i) = true then _ else _) = _; rw [hb]; rfl
  rw [e]
  rfl

theorem aft_long {rl : Int → Option Rule} {X : Cx} (m : Nat) (σ : Sg) : (aftM rl m X (σ.put 15 0)).err = 62 := by
  have ht : (take X (σ.put 15 0)).2.err = 62 := by
    unfold take
    rw [if_neg (by show ¬ (0 : Int) ≠ 0; decide), if_pos (show (σ.put 15 0).at' = 15 from rfl)]
  exact (rdRestM rl m _).er ht (by decide)

theorem aft_more {rl : Int → Option Rule} {X : Cx} (m i : Nat) (σ : Sg) (hi : i = X.L) (hi2 : i < 15) : (aftM rl m X (σ.put i 0)).err = 61 := by
  have ht : (take X (σ.put i 0)).2.err = 61 := by
    unfold take
    rw [if_neg (by show ¬ (0 : Int) ≠ 0; decide), if_neg (by show ¬ i = 15; omega), if_pos (by show i = X.L; exact hi)]
  exact (rdRestM rl m _).er ht (by decide)

theorem preS_v {b : Int} (hb : b ≠ 102) (σ : Sg) : preS b { σ with v := 2 } = { preS b σ with v := 2 } ∧ (preS b σ).v = σ.v := by
  unfold preS
  repeat' split
  all_goals first
    | exact ⟨rfl, rfl⟩
    | (rename_i h; exact absurd h hb)

theorem preI_v (bt : Nat → Int) : ∀ i, (∀ j, j < i → bt j ≠ 102) → preI (pb 102 bt) (i + 1) = { preI bt i with v := 2 } ∧ (preI bt i).v = 4
  | 0, _ => ⟨rfl, rfl⟩
  | i + 1, h => by
    have ih := preI_v bt i (fun j hj => h j (by omega))
    have e := preS_v (h i (by omega)) (preI bt i)
    refine ⟨?_, ?_⟩
    · show preS (pb 102 bt (i + 1)) (preI (pb 102 bt) (i + 1)) = _
      rw [ih.1]
      exact e.1
    · show (preS (bt i) (preI bt i)).v = 4
      rw [e.2, ih.2]

theorem preI_ins (bt : Nat → Int) : ∀ i, (preI bt i).ins = Ins.zero ∧ (preI bt i).fl = none
  | 0 => ⟨rfl, rfl⟩
  | i + 1 => by
    have ih := preI_ins bt i
    have e : (preS (bt i) (preI bt i)).ins = (preI bt i).ins ∧ (preS (bt i) (preI bt i)).fl = (preI bt i).fl := by
      unfold preS
      repeat' split
      all_goals exact ⟨rfl, rfl⟩
    exact ⟨e.1.trans ih.1, e.2.trans ih.2⟩

theorem emp0 : Emp Ins.zero := ⟨rfl, rfl, rfl, rfl⟩

theorem beh_60 {X Y : Cx} (T : Two X Y) (b : Int) {σ τ : Sg} (R : Rel σ τ) (h : (behM ruleOf b X σ).err = 60) : (behM ruleOf b Y τ).err = 60 ∨ (behM ruleOf b Y τ).err = 62 := by
  have R' : Rel (opS b σ) (opS b τ) := ⟨R.e1, R.e2, R.at', R.le, rfl, R.seg, R.rep, R.fl, R.v1, R.v2⟩
  unfold behM at h ⊢
  cases hr : ruleOf b with
  | none => exact Or.inl (refuse_60 R'.e2)
  | some r => rw [hr] at h; exact rule_60 T r R' h

theorem beh_rel {X Y : Cx} (T : Two X Y) (b : Int) {σ τ : Sg} (R : Rel σ τ) (hx : Emp σ.ins) (hy : Emp τ.ins) (h1 : (behM ruleOf b X σ).err = 0) (h2 : (behM ruleOf b Y τ).err = 0) : SimI (behM ruleOf b X σ).ins (behM ruleOf b Y τ).ins := by
  have R' : Rel (opS b σ) (opS b τ) := ⟨R.e1, R.e2, R.at', R.le, rfl, R.seg, R.rep, R.fl, R.v1, R.v2⟩
  unfold behM at h1 h2 ⊢
  cases hr : ruleOf b with
  | none => rw [hr] at h1; exact absurd h1 (refuse_no _)
  | some r =>
    rw [hr] at h1 h2
    obtain ⟨n, hn⟩ := ruleOf_in hr
    exact rule_rel T r (tab_okW _ hn) R' hx hy h1 h2

theorem beg_60 {X Y : Cx} (T : Two X Y) (b : Int) {σ τ : Sg} (R : Rel σ τ) (h : (begM ruleOf b X σ).err = 60) : (begM ruleOf b Y τ).err = 60 ∨ (begM ruleOf b Y τ).err = 62 := by
  unfold begM opM at h ⊢
  by_cases h15 : b = 15
  · rw [if_pos h15] at h ⊢
    simp only at h ⊢
    have t1 : (take X σ).2.err = 0 := by
      by_cases q : (take X σ).2.err = 0
      · exact q
      · have := ((rdBehM ruleOf (3840 + (take X σ).1)).stuck X _ q).1
        rw [h] at this
        exact absurd (take_60 X σ this.symm) (by rw [R.e1]; decide)
    rcases take_or T R t1 with e | e
    · exact Or.inr ((rdBehM ruleOf _).er e (by decide))
    · obtain ⟨q, R'⟩ := take_rel T R t1 e
      rw [q]
      exact beh_60 T _ R' h
  · rw [if_neg h15] at h ⊢
    exact beh_60 T b R h

theorem beg_rel {X Y : Cx} (T : Two X Y) (b : Int) {σ τ : Sg} (R : Rel σ τ) (hx : Emp σ.ins) (hy : Emp τ.ins) (h1 : (begM ruleOf b X σ).err = 0) (h2 : (begM ruleOf b Y τ).err = 0) : SimI (begM ruleOf b X σ).ins (begM ruleOf b Y τ).ins := by
  unfold begM opM at h1 h2 ⊢
  by_cases h15 : b = 15
  · rw [if_pos h15] at h1 h2
    rw [if_pos h15, if_pos h15]
    simp only at h1 h2 ⊢
    have t1 := ((rdBehM ruleOf (3840 + (take X σ).1)).ok (X := X) (σ := (take X σ).2) h1).1
    have t2 := ((rdBehM ruleOf (3840 + (take Y τ).1)).ok (X := Y) (σ := (take Y τ).2) h2).1
    obtain ⟨q, R'⟩ := take_rel T R t1 t2
    rw [q] at h2 ⊢
    exact beh_rel T _ R' (hx.fr (take_fr X σ)) (hy.fr (take_fr Y τ)) h1 h2
  · rw [if_neg h15] at h1 h2
    rw [if_neg h15, if_neg h15]
    exact beh_rel T b R hx hy h1 h2

theorem isPre_102 : isPre 102 = true := rfl

/-- The prefix of the size ahead of bytes that have none. -/
theorem widths {L : Nat} {bt : Nat → Int} (i : Nat) (hi : i ≤ L) (h15 : i ≤ 15) (hp : ∀ j, j < i → isPre (bt j) = true ∧ bt j ≠ 102) (hend : i = L ∨ i = 15 ∨ isPre (bt i) = false) :
    ((decM ruleOf L bt).2 = 60 → (decM ruleOf (1 + L) (pb 102 bt)).2 = 60 ∨ (decM ruleOf (1 + L) (pb 102 bt)).2 = 62) ∧
    ((decM ruleOf L bt).2 = 0 → (decM ruleOf (1 + L) (pb 102 bt)).2 = 0 → SimI (decM ruleOf L bt).1 (decM ruleOf (1 + L) (pb 102 bt)).1) := by
  have eX : fullM ruleOf (bx L bt) sg0 = aftM ruleOf (16 - i) (bx L bt) ((preI bt i).put i 0) := full_preI (bx L bt) i hi h15 (fun j hj => (hp j hj).1)
  rw [decM_err, decM_err]
  by_cases hL : i < L ∧ i < 15
  · have hb : isPre (bt i) = false := by
      rcases hend with e | e | e
      · omega
      · omega
      · exact e
    rw [aft_end (X := bx L bt) (16 - i) i (preI bt i) hL.1 hL.2 hb] at eX
    have eY : fullM ruleOf (bx (1 + L) (pb 102 bt)) sg0 = aftM ruleOf (16 - (i + 1)) (bx (1 + L) (pb 102 bt)) ((preI (pb 102 bt) (i + 1)).put (i + 1) 0) :=
      full_preI (bx (1 + L) (pb 102 bt)) (i + 1) (by show i + 1 ≤ 1 + L; omega) (by omega) (fun j hj => by
        show isPre (pb 102 bt j) = true
        unfold pb
        by_cases h0 : j = 0
        · rw [if_pos h0]; rfl
        · rw [if_neg h0]; exact (hp (j - 1) (by omega)).1)
    by_cases hlast : i + 1 = 15
    · have e62 : (fullM ruleOf (bx (1 + L) (pb 102 bt)) sg0).err = 62 := by rw [eY, hlast]; exact aft_long _ _
      rw [e62]
      exact ⟨fun _ => Or.inr rfl, fun _ h => absurd h (by decide)⟩
    · have hb' : (bx (1 + L) (pb 102 bt)).bt (i + 1) = bt i := rfl
      rw [aft_end (X := bx (1 + L) (pb 102 bt)) (16 - (i + 1)) (i + 1) (preI (pb 102 bt) (i + 1)) (by show i + 1 < 1 + L; omega) (by omega) (by rw [hb']; exact hb), hb'] at eY
      have T : Two (bx L bt) (bx (1 + L) (pb 102 bt)) := ⟨by show 1 + L = L + 1; omega, fun k => rfl⟩
      have pv := preI_v bt i (fun j hj => (hp j hj).2)
      have pi := preI_ins bt i
      have R : Rel ((preI bt i).put (i + 1) 0) ((preI (pb 102 bt) (i + 1)).put (i + 1 + 1) 0) := by
        rw [pv.1]
        exact ⟨rfl, rfl, rfl, by show i + 1 + 1 ≤ 15; omega, rfl, rfl, rfl, rfl, pv.2, rfl⟩
      have hx : Emp ((preI bt i).put (i + 1) 0).ins := by show Emp (preI bt i).ins; rw [pi.1]; exact emp0
      have hy : Emp ((preI (pb 102 bt) (i + 1)).put (i + 1 + 1) 0).ins := by show Emp (preI (pb 102 bt) (i + 1)).ins; rw [(preI_ins (pb 102 bt) (i + 1)).1]; exact emp0
      rw [show (bx L bt).bt i = bt i from rfl] at eX
      refine ⟨fun h => ?_, fun h1 h2 => ?_⟩
      · rw [eX] at h
        rw [eY]
        exact beg_60 T (bt i) R h
      · have d1 := decM_ok (rl := ruleOf) (L := L) (bt := bt) (by rw [decM_err]; exact h1)
        have d2 := decM_ok (rl := ruleOf) (L := 1 + L) (bt := pb 102 bt) (by rw [decM_err]; exact h2)
        rw [d1, d2]
        rw [eX] at h1 ⊢
        rw [eY] at h2 ⊢
        have S := beg_rel T (bt i) R hx hy h1 h2
        exact ⟨S.op, S.sub, S.rep, S.size, S.a, S.b, S.c⟩
  · have hbad : (fullM ruleOf (bx L bt) sg0).err = 61 ∨ (fullM ruleOf (bx L bt) sg0).err = 62 := by
      rw [eX]
      by_cases h5 : i = 15
      · subst h5; exact Or.inr (aft_long _ _)
      · exact Or.inl (aft_more _ i _ (by show i = L; omega) (by omega))
    refine ⟨fun h => ?_, fun h => ?_⟩
    · rcases hbad with e | e <;> (rw [e] at h; exact absurd h (by decide))
    · rcases hbad with e | e <;> (rw [e] at h; exact absurd h (by decide))

end Go.Proofs.YtopeccjghamjmaaGreat
