/- What is left to be sorted, round by round, in the library's sort at uint32. -/
import Derived.Test.YtankfdcpnhociaaRamBrk2
import Derived.Test.YtankfdcpnhociaaRamPart2
import Derived.Test.YtankfdcpnhociaaRamPins
import Derived.Sort.LotD2
namespace Go.Proofs.Ytankfdcpnhociaa
open Go.Sort (ltInt PermIn SortedIn)
set_option linter.unusedVariables false

/-- Whoever sorts dk from x to y has sorted d from a to b. -/
structure Left (a b : Nat) (d : Array Int) (x y : Nat) (dk : Array Int) : Prop where
  size : dk.size = d.size
  ax : a ≤ x
  xy : x ≤ y
  yb : y ≤ b
  bd : b ≤ d.size
  below : Go.Sort.Below ltInt x y dk
  whole : ∀ R, PermIn x y dk R → SortedIn ltInt x y R → PermIn a b d R ∧ SortedIn ltInt a b R

theorem swo : Go.Sort.SWO ltInt := Go.Sort.swo_ltInt

theorem Left.start {a b : Nat} {d : Array Int} (hab : a ≤ b) (hb : b ≤ d.size) (h : Go.Sort.Below ltInt a b d) : Left a b d a b d :=
  ⟨rfl, Nat.le_refl _, hab, Nat.le_refl _, hb, h, fun R h1 h2 => ⟨h1, h2⟩⟩

theorem Left.perm {a b x y : Nat} {d dk d' : Array Int} (h : Left a b d x y dk) (hp : PermIn x y dk d') : Left a b d x y d' := by
  have hy : y ≤ dk.size := by have := h.size; have := h.yb; have := h.bd; omega
  exact ⟨hp.1.trans h.size, h.ax, h.xy, h.yb, h.bd, h.below.perm hy hp, fun R h1 h2 => h.whole R (Go.Sort.permIn_trans _ _ _ _ _ hp h1) h2⟩

/-- Behind the partition of what equals the number to the left. -/
theorem Left.peq {a b x y p mid : Nat} {d dk d' : Array Int} (h : Left a b d x y dk) (x0 : 0 < x) (hp0 : x ≤ p) (hp1 : p < y) (hl : ltInt dk[x - 1]! dk[p]! = false) (m0 : x < mid) (m1 : mid ≤ y) (hp : PermIn x y dk d')
    (lo : ∀ t, x ≤ t → t < mid → ltInt dk[p]! d'[t]! = false) (hi : ∀ t, mid ≤ t → t < y → ltInt dk[p]! d'[t]! = true) : Left a b d mid y d' := by
  have hy : y ≤ dk.size := by have := h.size; have := h.yb; have := h.bd; omega
  have hy' : y ≤ d'.size := by rw [hp.1]; exact hy
  have g := h.perm hp
  have ge : ∀ t, x ≤ t → t < y → ltInt dk[t]! dk[p]! = false := fun t h1 h2 => by
    rcases h.below with e | e
    · omega
    · exact swo.ntrans _ _ _ (e t h1 h2) hl
  have ge' := Go.Sort.permIn_all dk d' x y (fun z => ltInt z dk[p]! = false) hy hp ge
  refine ⟨g.size, by have := h.ax; omega, m1, h.yb, h.bd, Or.inr fun t h1 h2 => ?_, fun R hR hs => ?_⟩
  · have e1 := hi t h1 h2
    have e2 := lo (mid - 1) (by omega) (by omega)
    cases hc : ltInt d'[t]! d'[mid - 1]! with
    | false => rfl
    | true => have := swo.trans _ _ _ e1 hc; rw [e2] at this; cases this
  · refine g.whole R (Go.Sort.permIn_mono _ _ mid y x y (by omega) (Nat.le_refl _) hy' hR) ?_
    have hR1 : ∀ t, t < mid → R[t]! = d'[t]! := fun t ht => hR.2.1 t (Or.inl ht)
    have hR2 := Go.Sort.permIn_all d' R mid y (fun z => ltInt dk[p]! z = true) hy' hR hi
    exact Go.Sort.sorted_glue_eq swo dk[p]! hs (fun t h1 h2 => by rw [hR1 t h2]; exact lo t h1 h2) (fun t h1 h2 => by rw [hR1 t h2]; exact ge' t h1 (by omega)) hR2

/-- Behind a partition: either side first. -/
theorem Left.part {a b x y mid : Nat} {d dk d' : Array Int} (h : Left a b d x y dk) (m0 : x ≤ mid) (m1 : mid < y) (hp : PermIn x y dk d')
    (lo : ∀ t, x ≤ t → t < mid → ltInt d'[t]! d'[mid]! = true) (hi : ∀ t, mid < t → t < y → ltInt d'[t]! d'[mid]! = false) :
    Go.Sort.Below ltInt x mid d' ∧ Go.Sort.Below ltInt (mid + 1) y d' ∧
    (∀ L, PermIn x mid d' L → SortedIn ltInt x mid L → Left a b d (mid + 1) y L) ∧
    (∀ L, PermIn (mid + 1) y d' L → SortedIn ltInt (mid + 1) y L → Left a b d x mid L) := by
  have hy : y ≤ dk.size := by have := h.size; have := h.yb; have := h.bd; omega
  have hy' : y ≤ d'.size := by rw [hp.1]; exact hy
  have g := h.perm hp
  have hax := h.ax
  have hyb := h.yb
  refine ⟨g.below.mono (by omega), Or.inr fun t h1 h2 => by rw [Nat.add_sub_cancel]; exact hi t (by omega) h2, fun L hL hs => ?_, fun L hL hs => ?_⟩
  · have hLy : y ≤ L.size := by rw [hL.1]; exact hy'
    have hL1 : ∀ t, mid ≤ t → L[t]! = d'[t]! := fun t ht => hL.2.1 t (Or.inr ht)
    have hLlo := Go.Sort.permIn_all d' L x mid (fun z => ltInt z d'[mid]! = true) (by omega) hL lo
    have g2 := g.perm (Go.Sort.permIn_mono _ _ x mid x y (Nat.le_refl _) (by omega) hy' hL)
    have hhi : ∀ t, mid + 1 ≤ t → t < y → ltInt L[t]! L[mid]! = false := fun t h1 h2 => by rw [hL1 t (by omega), hL1 mid (Nat.le_refl _)]; exact hi t (by omega) h2
    refine ⟨g2.size, by omega, by omega, hyb, h.bd, Or.inr fun t h1 h2 => by rw [Nat.add_sub_cancel]; exact hhi t h1 h2, fun R hR hsR => ?_⟩
    refine g2.whole R (Go.Sort.permIn_mono _ _ (mid + 1) y x y (by omega) (Nat.le_refl _) hLy hR) ?_
    have hR1 : ∀ t, t < mid + 1 → R[t]! = L[t]! := fun t ht => hR.2.1 t (Or.inl ht)
    have hR2 := Go.Sort.permIn_all L R (mid + 1) y (fun z => ltInt z L[mid]! = false) hLy hR hhi
    refine Go.Sort.sorted_glue swo (hs.congr fun t h1 h2 => hR1 t (by omega)) hsR (fun t h1 h2 => ?_) (fun t h1 h2 => ?_)
    · rw [hR1 t (by omega), hR1 mid (by omega), hL1 mid (Nat.le_refl _)]; exact hLlo t h1 h2
    · rw [hR1 mid (by omega)]; exact hR2 t (by omega) h2
  · have hLy : y ≤ L.size := by rw [hL.1]; exact hy'
    have hL1 : ∀ t, t < mid + 1 → L[t]! = d'[t]! := fun t ht => hL.2.1 t (Or.inl ht)
    have hLhi := Go.Sort.permIn_all d' L (mid + 1) y (fun z => ltInt z d'[mid]! = false) hy' hL (fun t h1 h2 => hi t (by omega) h2)
    have g2 := g.perm (Go.Sort.permIn_mono _ _ (mid + 1) y x y (by omega) (Nat.le_refl _) hy' hL)
    have hlo : ∀ t, x ≤ t → t < mid → ltInt L[t]! L[mid]! = true := fun t h1 h2 => by rw [hL1 t (by omega), hL1 mid (by omega)]; exact lo t h1 h2
    refine ⟨g2.size, by omega, by omega, by omega, h.bd, g2.below.mono (by omega), fun R hR hsR => ?_⟩
    refine g2.whole R (Go.Sort.permIn_mono _ _ x mid x y (Nat.le_refl _) (by omega) hLy hR) ?_
    have hR1 : ∀ t, mid ≤ t → R[t]! = L[t]! := fun t ht => hR.2.1 t (Or.inr ht)
    have hR2 := Go.Sort.permIn_all L R x mid (fun z => ltInt z L[mid]! = true) (by omega) hR hlo
    refine Go.Sort.sorted_glue swo hsR (hs.congr fun t h1 h2 => hR1 t (by omega)) (fun t h1 h2 => ?_) (fun t h1 h2 => ?_)
    · rw [hR1 mid (Nat.le_refl _)]; exact hR2 t h1 h2
    · rw [hR1 t (by omega), hR1 mid (Nat.le_refl _), hL1 mid (by omega)]; exact hLhi t (by omega) h2
end Go.Proofs.Ytankfdcpnhociaa
