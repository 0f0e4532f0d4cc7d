/- bodiesOf: the bytes of an instruction without prefixes, as each of its forms has them. -/
import Derived.Test.YtolnaodlghahlaaGreatDoorEnForm
namespace Go.Proofs.YtolnaodlghahlaaGreatDoor
open Go.ChangeShapes Go.WideShapes Go.ChangeAt Go.RowKit
set_option linter.unusedVariables false
set_option maxRecDepth 20000

/-- A form, as plain numbers; b: the numbers at its end. -/
structure Fm where
  code : Int
  md : Bool
  n : Int
  o : Opd
  b : List Int

def bodF (f : Fm) : List (List Int) :=
  match f.md with
  | false => [opcM f.code ++ f.b]
  | true => if f.o.kind = 1 then [opcM f.code ++ [fldM 3 f.n f.o.reg] ++ f.b] else []

structure OkF (f : Fm) : Prop where
  len : f.b.length ≤ 100
  mem : f.md = true → f.o.kind ≠ 2

/-- A form that lies in 13 cells. -/
def FmAt (W : World) (g o : Nat) (f : Fm) : Prop :=
  ∃ p l k, BSl W (.slice p l k) f.b ∧ ∀ (j : Nat) (v : Value), (formV f.code f.md f.n f.o (.slice p l k))[j]? = some v → W.cell? ⟨g, o + j, none⟩ = some v

theorem FmAt.kp {W W' : World} {g o : Nat} {f : Fm} (h : FmAt W g o f) (k : Kp noB W W') (hg : g < W.heap.size) : FmAt W' g o f := by
  obtain ⟨p, l, c, hb, hc⟩ := h
  exact ⟨p, l, c, hb.kp k, fun j v hv => cellK (hc j v hv) k hg⟩

/-- Forms, one behind the other. -/
def FS (W : World) (v : Value) (fs : List Fm) : Prop :=
  ∃ p c, v = .slice p fs.length c ∧ ((p = none ∧ fs = [] ∧ c = 0) ∨ ∃ g o, p = some ⟨g, o, none⟩ ∧ g < W.heap.size ∧ ∀ j f, fs[j]? = some f → FmAt W g (o + j * 13) f)

theorem bodies_any (w : World) (f : Fm) (p : Option Addr) (l k : Nat) (hb : BSl w (.slice p l k) f.b) (ok : OkF f) :
    Calls Tryz.prog 58 #[.agg (formV f.code f.md f.n f.o (.slice p l k))] w fun e w' => ∃ v, e = .returned v ∧ BB w' v (bodF f) ∧ Kp noB w w' := by
  obtain ⟨code, md, n, o, b⟩ := f
  simp only at hb ⊢
  have hl : b.length ≤ 100 := ok.len
  have hm := ok.mem
  cases md
  · exact bodies_alone w code n o _ b hb hl
  · by_cases h1 : o.kind = 1
    · have e : bodF ⟨code, true, n, o, b⟩ = [opcM code ++ [fldM 3 n o.reg] ++ b] := by simp [bodF, h1]
      rw [e]
      exact bodies_reg w code n o _ b hb hl (by simp [h1])
    · have e : bodF ⟨code, true, n, o, b⟩ = [] := by simp [bodF, h1]
      rw [e]
      have h2 : o.kind ≠ 2 := hm rfl
      exact (bodies_none w code n o _ ⟨p, l, k, rfl⟩ (by simp [h1]) (by simp [h2])).mono fun e w' ⟨a, b⟩ => ⟨_, a, ⟨none, 0, rfl, .inl ⟨rfl, rfl, rfl⟩⟩, b⟩

/-- Lists whose slices lie in a row of its own. -/
structure RowB (W : World) (base : Nat) (v : Value) (us : List Value) (L : List (List Int)) : Prop where
  own : W.ownsRow base 23 1 v us.length us
  len : us.length = L.length
  bsl : ∀ (j : Nat) (b : List Int), L[j]? = some b → ∃ u, us[j]? = some u ∧ BSl W u b

/-- A step that changes one block alone, a row of slices: lists of bytes stay. -/
theorem BSl.grown {W W' : World} {u v : Value} {b : List Int} {base n : Nat} {xs : List Value} (h : BSl W u b) (ho : W.ownsRow base 23 1 v n xs) (hg : W.grownBy W' v.ownBlock) : BSl W' u b := by
  obtain ⟨p, c, rfl, h⟩ := h
  refine ⟨p, c, rfl, ?_⟩
  rcases h with h | ⟨g, o, rfl, ⟨cs, fr, ht⟩, hc⟩
  · exact .inl h
  · have hne : some g ≠ v.ownBlock := by
      intro e
      obtain ⟨h0, h1⟩ := ho
      rcases h1 with ⟨rfl, h2⟩ | ⟨g', cap, cur, rfl, hg', hh, hn, hc', hs, ht'⟩
      · simp [Value.ownBlock] at e
      · simp [Value.ownBlock] at e
        subst e
        rw [ht] at hh
        injection hh with hh
        injection hh with h3 h4 h5
        exact absurd h4 (by decide)
    have e := hg.block g (Array.getElem?_eq_some_iff.1 ht).1 hne
    refine .inr ⟨g, o, rfl, ⟨cs, fr, e.trans ht⟩, fun j x hx => ?_⟩
    have := hc j x hx
    unfold World.cell? at this ⊢
    simp only [e]
    exact this

theorem RowB.bb {W : World} {base : Nat} {v : Value} {us : List Value} {L : List (List Int)} (h : RowB W base v us L) : BB W v L := by
  obtain ⟨⟨h0, h1⟩, hl, hb⟩ := h
  rcases h1 with ⟨rfl, h2⟩ | ⟨g, cap, cur, rfl, hg, hh, hn, hc, hs, ht⟩
  · have e : us = [] := List.length_eq_zero_iff.1 h2
    subst e
    have : L = [] := List.length_eq_zero_iff.1 (by rw [← hl]; rfl)
    subst this
    exact ⟨none, 0, rfl, .inl ⟨rfl, rfl, rfl⟩⟩
  · rw [hl]
    refine ⟨_, cap, rfl, .inr ⟨g, 0, rfl, (Array.getElem?_eq_some_iff.1 hh).1, fun j b hj => ?_⟩⟩
    obtain ⟨u, hu, hb⟩ := hb j b hj
    refine ⟨u, ?_, hb⟩
    have hjl : j < us.length := (List.getElem?_eq_some_iff.1 hu).1
    rw [cellA hh]
    rw [← ht, List.getElem?_take_of_lt (by omega)] at hu
    simpa using hu
end Go.Proofs.YtolnaodlghahlaaGreatDoor
