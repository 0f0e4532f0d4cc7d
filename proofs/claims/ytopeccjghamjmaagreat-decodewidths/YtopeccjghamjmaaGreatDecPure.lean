/- What fewer bytes, more bytes and prefixes that come again mean, of the plain model. -/
import Derived.Test.YtopeccjghamjmaaGreatDecRun
namespace Go.Proofs.YtopeccjghamjmaaGreat
open Go.ChangeShapes Go.WideShapes Go.ChangeAt Go.RowKit
set_option linter.unusedVariables false

theorem take_at (X : Cx) (σ : Sg) (h0 : σ.err = 0) (h1 : σ.at' ≠ 15) (h2 : σ.at' ≠ X.L) : take X σ = (X.bt σ.at', { σ with at' := σ.at' + 1 }) := by
  unfold take
  rw [if_neg (by simpa using h0), if_neg h1, if_neg h2]

theorem decM_err (rl : Int → Option Rule) (L : Nat) (bt : Nat → Int) : (decM rl L bt).2 = (fullM rl (bx L bt) sg0).err := by
  unfold decM
  split
  · rename_i h; exact h.symm
  · rfl

theorem decM_ok {rl : Int → Option Rule} {L : Nat} {bt : Nat → Int} (h : (decM rl L bt).2 = 0) : decM rl L bt = ({ (fullM rl (bx L bt) sg0).ins with len := (fullM rl (bx L bt) sg0).at' }, 0) := by
  rw [decM_err] at h
  unfold decM
  rw [if_pos h]

theorem decM_no {rl : Int → Option Rule} {L : Nat} {bt : Nat → Int} (h : (decM rl L bt).2 ≠ 0) : (decM rl L bt).1 = Ins.zero := by
  rw [decM_err] at h
  unfold decM
  rw [if_neg h]

/-- How many bytes an instruction has. -/
theorem ends_len {rl : Int → Option Rule} {L : Nat} {bt : Nat → Int} (h : (decM rl L bt).2 = 0) : ∃ n : Nat, (decM rl L bt).1.len = n ∧ n = (fullM rl (bx L bt) sg0).at' ∧ 1 ≤ n ∧ n ≤ 15 ∧ n ≤ L := by
  have e := decM_ok h
  rw [decM_err] at h
  have b := (rdFullM rl).bd (bx L bt) sg0 (Nat.zero_le _) (Nat.zero_le _)
  refine ⟨_, by rw [e], rfl, ?_, b.1, b.2⟩
  have r := (rdRestM rl 16 (take (bx L bt) sg0).1).ok (X := bx L bt) (σ := (take (bx L bt) sg0).2) h
  have hL : L ≠ 0 := fun e0 => by
    have : (take (bx L bt) sg0).2.err = 61 := by
      unfold take
      rw [if_neg (by decide), if_neg (by decide), if_pos (by show 0 = L; omega)]
    rw [this] at r
    exact absurd r.1 (by decide)
  have ht := take_at (bx L bt) sg0 rfl (by decide) (by show 0 ≠ L; omega)
  refine Nat.le_trans ?_ r.2
  rw [ht]
  exact Nat.le_refl _

theorem ends_more {rl : Int → Option Rule} {L : Nat} {bt : Nat → Int} (h : (decM rl L bt).2 = 0) (M : Nat) (ct : Nat → Int) (hM : (fullM rl (bx L bt) sg0).at' ≤ M) (hc : ∀ k, k < (fullM rl (bx L bt) sg0).at' → ct k = bt k) : decM rl M ct = decM rl L bt := by
  have h' := h
  rw [decM_err] at h'
  have e := (rdFullM rl).agree (bx L bt) (bx M ct) sg0 h' (fun k _ hk => ⟨by show k < M; omega, hc k hk⟩)
  unfold decM
  rw [e]

theorem ends_less {rl : Int → Option Rule} {L : Nat} {bt : Nat → Int} (h : (decM rl L bt).2 = 0) (M : Nat) (ct : Nat → Int) (hM : M < (fullM rl (bx L bt) sg0).at') (hc : ∀ k, k < M → ct k = bt k) : (decM rl M ct).2 = 61 := by
  rw [decM_err] at h ⊢
  exact (rdFullM rl).short (bx L bt) (bx M ct) sg0 h (Nat.zero_le _) hM (fun k _ hk => hc k hk)

/-! ### prefixes -/
theorem preS_twice (p : Int) (σ : Sg) : preS p (preS p σ) = preS p σ := by
  by_cases h1 : p = 0x26
  · subst h1; rfl
  by_cases h2 : p = 0x2E
  · subst h2; rfl
  by_cases h3 : p = 0x36
  · subst h3; rfl
  by_cases h4 : p = 0x3E
  · subst h4; rfl
  by_cases h5 : p = 0x64
  · subst h5; rfl
  by_cases h6 : p = 0x65
  · subst h6; rfl
  by_cases h7 : p = 0x66
  · subst h7; rfl
  by_cases h8 : p = 0xF2
  · subst h8; rfl
  by_cases h9 : p = 0xF3
  · subst h9; rfl
  simp only [preS, h1, h2, h3, h4, h5, h6, h7, h8, h9, if_false]

theorem restM_step {rl : Int → Option Rule} {p : Int} (hp : isPre p = true) (m : Nat) (X : Cx) (σ : Sg) : restM rl (m + 1) p X σ = restM rl m (take X (preS p σ)).1 X (take X (preS p σ)).2 := by
  unfold restM
  rw [show preL X (m + 1) p σ = preL X m (take X (preS p σ)).1 (take X (preS p σ)).2 by
    show (if isPre p = true then _ else _) = _
    rw [if_pos hp]]

theorem preL_fuel (X : Cx) : ∀ (m m' : Nat) (b : Int) (σ : Sg), σ.at' ≤ 15 → (isPre b = true → 16 ≤ σ.at' + m) → (isPre b = true → 16 ≤ σ.at' + m') → preL X m b σ = preL X m' b σ := by
  have noL : ∀ (m : Nat) (b : Int) (σ : Sg), ¬ isPre b = true → preL X m b σ = (b, σ) := by
    intro m b σ h
    cases m with
    | zero => rfl
    | succ m => show (if isPre b = true then _ else _) = _; rw [if_neg h]
  intro m
  induction m with
  | zero =>
    intro m' b σ h1 h2 _
    have hb : ¬ isPre b = true := fun e => by have := h2 e; omega
    rw [noL _ _ _ hb, noL _ _ _ hb]
  | succ m ih =>
    intro m' b σ h1 h2 h3
    by_cases hb : isPre b = true
    · cases m' with
      | zero => have := h3 hb; omega
      | succ m' =>
        show (if isPre b = true then _ else _) = (if isPre b = true then _ else _)
        rw [if_pos hb, if_pos hb]
        have a2 := h2 hb
        have a3 := h3 hb
        have pa := preS_at b σ
        refine ih m' _ _ ?_ (fun hx => ?_) (fun hx => ?_)
        · have : (take X (preS b σ)).2.at' ≤ 15 := by
            unfold take
            split
            · rw [pa.1]; exact h1
            · split
              · show (preS b σ).at' ≤ 15; rw [pa.1]; exact h1
              · split
                · show (preS b σ).at' ≤ 15; rw [pa.1]; exact h1
                · rename_i _ hx _; show (preS b σ).at' + 1 ≤ 15; rw [pa.1] at hx ⊢; omega
          exact this
        · have := (take_pre X (preS b σ) hx).1; rw [pa.1] at this; omega
        · have := (take_pre X (preS b σ) hx).1; rw [pa.1] at this; omega
    · rw [noL _ _ _ hb, noL _ _ _ hb]

/-- What is done behind a prefix, the fuel told. -/
def aftM (rl : Int → Option Rule) (m : Nat) (X : Cx) (σ : Sg) : Sg := restM rl m (take X σ).1 X (take X σ).2

theorem rdAftM (rl : Int → Option Rule) (m : Nat) : RdS (aftM rl m) := Rd.bindS (f := take) (g := fun b X σ => restM rl m b X σ) rdTake (fun b => rdRestM rl m b)

theorem aft_fuel (rl : Int → Option Rule) (X : Cx) (σ : Sg) (m m' : Nat) (h1 : σ.at' ≤ 15) (h2 : 15 ≤ σ.at' + m) (h3 : 15 ≤ σ.at' + m') : aftM rl m X σ = aftM rl m' X σ := by
  unfold aftM restM
  have tb : (take X σ).2.at' ≤ 15 := by
    unfold take
    split
    · exact h1
    · split
      · exact h1
      · split
        · exact h1
        · rename_i _ hx _; show σ.at' + 1 ≤ 15; omega
  rw [preL_fuel X m m' (take X σ).1 (take X σ).2 tb (fun hx => by have := (take_pre X σ hx).1; omega) (fun hx => by have := (take_pre X σ hx).1; omega)]

theorem full_pre {rl : Int → Option Rule} {X : Cx} {p : Int} (hp : isPre p = true) (hL : 1 ≤ X.L) (hb : X.bt 0 = p) : fullM rl X sg0 = aftM rl 15 X ((preS p sg0).put 1 0) := by
  unfold fullM
  rw [take_at X sg0 rfl (by decide) (by show 0 ≠ X.L; omega)]
  show restM rl 16 (X.bt 0) X (sg0.put 1 0) = _
  rw [hb, restM_step hp 15, preS_put]
  rfl

/-- One more of the same prefix. -/
theorem aft_again {rl : Int → Option Rule} {X : Cx} {p : Int} (hp : isPre p = true) (m i : Nat) (hi : i < X.L) (hi2 : i < 15) (hb : X.bt i = p) : aftM rl (m + 1) X ((preS p sg0).put i 0) = aftM rl m X ((preS p sg0).put (i + 1) 0) := by
  have ht := take_at X ((preS p sg0).put i 0) rfl (by show i ≠ 15; omega) (by show i ≠ X.L; omega)
  show restM rl (m + 1) (take X ((preS p sg0).put i 0)).1 X (take X ((preS p sg0).put i 0)).2 = _
  rw [ht]
  show restM rl (m + 1) (X.bt i) X ((preS p sg0).put (i + 1) 0) = _
  rw [hb, restM_step hp m, preS_put, preS_twice]
  rfl

theorem full_pres {rl : Int → Option Rule} {X : Cx} {p : Int} (hp : isPre p = true) (n : Nat) (hn : n ≤ 3) (hL : n + 1 ≤ X.L) (hb : ∀ k, k ≤ n → X.bt k = p) : fullM rl X sg0 = aftM rl 15 X ((preS p sg0).put (1 + n) 0) := by
  rw [full_pre hp (by omega) (hb 0 (by omega))]
  have step : ∀ j, j ≤ n → aftM rl 15 X ((preS p sg0).put 1 0) = aftM rl (15 - j) X ((preS p sg0).put (1 + j) 0) := by
    intro j
    induction j with
    | zero => intro _; rfl
    | succ j ih =>
      intro hj
      rw [ih (by omega), show 15 - j = (15 - (j + 1)) + 1 by omega, aft_again hp _ (1 + j) (by omega) (by omega) (hb _ (by omega))]
      rfl
  rw [step n (Nat.le_refl _)]
  exact aft_fuel rl X _ _ _ (by show 1 + n ≤ 15; omega) (by show 15 ≤ 1 + n + (15 - n); omega) (by show 15 ≤ 1 + n + 15; omega)

/-- The same prefix n times more: nothing else is changed, but there are more bytes. -/
theorem pre_more {rl : Int → Option Rule} {p : Int} (hp : isPre p = true) (n L : Nat) (bt ct : Nat → Int) (hn1 : 1 ≤ n) (hn : n ≤ 3) (hL : 1 ≤ L) (hb : bt 0 = p) (hc : ∀ k, k ≤ n → ct k = p) (hs : ∀ k, 1 ≤ k → k < L → ct (k + n) = bt k) :
    ((decM rl L bt).2 ≠ 0 → (decM rl (L + n) ct).2 ≠ 0) ∧
    ((decM rl L bt).2 = 0 → 15 < (decM rl L bt).1.len + n → (decM rl (L + n) ct).2 = 62) ∧
    ((decM rl L bt).2 = 0 → (decM rl L bt).1.len + n ≤ 15 → decM rl (L + n) ct = ({ (decM rl L bt).1 with len := (decM rl L bt).1.len + n }, 0)) := by
  have eX : fullM rl (bx L bt) sg0 = aftM rl 15 (bx L bt) ((preS p sg0).put 1 0) := full_pre hp hL hb
  have eY : fullM rl (bx (L + n) ct) sg0 = aftM rl 15 (bx (L + n) ct) ((preS p sg0).put (1 + n) 0) := full_pres hp n hn (by show n + 1 ≤ L + n; omega) hc
  have S := (rdAftM rl 15).shift (bx L bt) (bx (L + n) ct) n hn1 rfl ((preS p sg0).put 1 0) (by show 1 + n ≤ 15; omega) hL (fun k hk hk2 => hs k hk hk2)
  rw [show ((preS p sg0).put 1 0).put (((preS p sg0).put 1 0).at' + n) ((preS p sg0).put 1 0).err = (preS p sg0).put (1 + n) 0 from rfl, ← eX, ← eY] at S
  obtain ⟨a, b, c⟩ := S
  refine ⟨fun h => ?_, fun h h2 => ?_, fun h h2 => ?_⟩
  · rw [decM_err] at h ⊢; exact c h
  · have e := decM_ok h
    rw [e] at h2
    rw [decM_err] at h ⊢
    exact b h (by have : (15 : Int) < ((fullM rl (bx L bt) sg0).at' : Int) + (n : Int) := h2; omega)
  · have e := decM_ok h
    rw [e] at h2 ⊢
    rw [decM_err] at h
    have a' := a h (by have : ((fullM rl (bx L bt) sg0).at' : Int) + (n : Int) ≤ 15 := h2; omega)
    have hz : (decM rl (L + n) ct).2 = 0 := by rw [decM_err, a']; rfl
    rw [decM_ok hz, a']
    rfl

end Go.Proofs.YtopeccjghamjmaaGreat
