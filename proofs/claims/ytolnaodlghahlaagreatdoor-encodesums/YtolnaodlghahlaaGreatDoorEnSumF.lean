/- The sums of EncodeSums: how many bytes Encode answers. -/
import Derived.Test.YtolnaodlghahlaaGreatDoorEnAwake
import Derived.Test.YtolnaodlghahlaaGreatDoorEnSumN
namespace Go.Proofs.YtolnaodlghahlaaGreatDoor
open Go.ChangeShapes Go.WideShapes Go.ChangeAt Go.RowKit
set_option linter.unusedVariables false
set_option maxRecDepth 20000

def xr (s sub a b : Int) : Ins := ⟨1, sub, s, ⟨1, a, s, 0, 0, 0, 0, 0, 0⟩, ⟨1, b, s, 0, 0, 0, 0, 0, 0⟩, Opd.zero, 0, 0⟩
def xi (s sub a n : Int) : Ins := ⟨1, sub, s, ⟨1, a, s, 0, 0, 0, 0, 0, 0⟩, ⟨3, 0, 0, 0, 0, 0, 0, 0, n⟩, Opd.zero, 0, 0⟩
def trs (x : Ins) (s : Nat) : List (List Int) := triesL (preE s) ((fm5 x s).flatMap bodF)
def lenE (x : Ins) (s : Nat) : Option Nat := (bestM x (trs x s)).map List.length

theorem r1 : ∀ sub a b : Fin 8, lenE (xr 1 sub.val a.val b.val) 1 = some 2 := by decide +kernel
theorem r4 : ∀ sub a b : Fin 8, lenE (xr 4 sub.val a.val b.val) 4 = some 2 := by decide +kernel
theorem i1 : ∀ sub a : Fin 8, (lenE (xi 1 sub.val a.val 5) 1).isSome = true := by decide +kernel
theorem i2 : ∀ sub a : Fin 8, (lenE (xi 2 sub.val a.val 5) 2).isSome = true := by decide +kernel
theorem i4 : ∀ sub a : Fin 8, lenE (xi 4 sub.val a.val 5) 4 = some 3 := by decide +kernel
theorem k4 : ∀ sub a : Fin 8, (decL ([] ++ (opcM (8 * (sub.val : Int) + 1) ++ [fldM 3 0 a.val] ++ []))).1.b.kind = 1 := by decide +kernel
theorem r2 : ∀ sub a b : Fin 8, lenE (xr 2 sub.val a.val b.val) 2 = some 3 := by decide +kernel

theorem best_spec (x : Ins) (L : List (List Int)) : (∀ c ∈ L, meansB c x = true → ∃ a, bestM x L = some a) ∧ ∀ a, bestM x L = some a → a ∈ L ∧ meansB a x = true := by
  have key : ∀ n (L : List (List Int)), L.length = n → (∀ c ∈ L, meansB c x = true → ∃ a, bestM x L = some a) ∧ ∀ a, bestM x L = some a → a ∈ L ∧ meansB a x = true := by
    intro n
    induction n with
    | zero =>
      intro L hL
      obtain rfl : L = [] := List.eq_nil_of_length_eq_zero hL
      exact ⟨fun c hc => (by cases hc), fun a h => (by cases h)⟩
    | succ n ih =>
      intro L hL
      have hne : L ≠ [] := fun e => by rw [e] at hL; simp at hL
      obtain ⟨M, b, rfl⟩ : ∃ M b, L = M ++ [b] := ⟨L.dropLast, L.getLast hne, (List.dropLast_concat_getLast hne).symm⟩
      have hM : M.length = n := by simpa using hL
      obtain ⟨i1, i2⟩ := ih M hM
      rw [bestM_snoc]
      cases hb : bestM x M with
      | none =>
        have no : ∀ c ∈ M, ¬ meansB c x = true := fun c hc hm => by
          obtain ⟨a, ha⟩ := i1 c hc hm
          rw [hb] at ha
          cases ha
        unfold keepM
        by_cases hm : meansB b x = true
        · simp only [hm, if_true]
          exact ⟨fun _ _ _ => ⟨b, rfl⟩, fun a ha => by cases ha; exact ⟨by simp, hm⟩⟩
        · simp only [hm]
          refine ⟨fun c hc h => ?_, fun a ha => by simp at ha⟩
          rcases List.mem_append.1 hc with h' | h'
          · exact absurd h (no c h')
          · simp at h'
            subst h'
            exact absurd h hm
      | some a0 =>
        obtain ⟨m1, m2⟩ := i2 a0 hb
        unfold keepM
        simp only
        split
        · rename_i hk
          exact ⟨fun _ _ _ => ⟨b, rfl⟩, fun a ha => by cases ha; exact ⟨by simp, by simp at hk; exact hk.2⟩⟩
        · exact ⟨fun _ _ _ => ⟨a0, rfl⟩, fun a ha => by cases ha; exact ⟨by simp [m1], m2⟩⟩
  exact key _ L rfl

theorem lenE_some {x : Ins} {s k : Nat} (h : lenE x s = some k) : ∃ b, bestM x (trs x s) = some b ∧ b.length = k := by
  unfold lenE at h
  cases e : bestM x (trs x s) with
  | none => rw [e] at h; cases h
  | some b => rw [e] at h; exact ⟨b, rfl, by simpa using h⟩

theorem fl_eq (sub a : Nat) (hs : sub < 8) (ha : a < 8) : fldM 3 sub a = 192 + 8 * sub + a := by unfold fldM; omega

/-- With any number of four bytes: three bytes or more. -/
theorem m4 (sub a : Nat) (hs : sub < 8) (ha : a < 8) (n : Int) (n0 : 0 ≤ n) (n1 : n < 4294967296) : ∃ b, bestM (xi 4 sub a n) (trs (xi 4 sub a n) 4) = some b ∧ 3 ≤ b.length := by
  have et : trs (xi 4 sub a n) 4 = [[] ++ (opcM (8 * (sub : Int) + 1) ++ [fldM 3 0 a] ++ []), [] ++ (opcM (8 * (sub : Int) + 4 + 1) ++ numL n 4), [] ++ (opcM 129 ++ [fldM 3 sub a] ++ numL n 4), [] ++ (opcM 131 ++ [fldM 3 sub a] ++ [n % 256])] := rfl
  obtain ⟨b1, b2⟩ := best_spec (xi 4 sub a n) (trs (xi 4 sub a n) 4)
  have hm : meansB ([] ++ (opcM 129 ++ [fldM 3 sub a] ++ numL n 4)) (xi 4 sub a n) = true := by
    have e : [] ++ (opcM 129 ++ [fldM 3 sub a] ++ numL n 4) = [129, 192 + 8 * (sub : Int) + a, n % 256, n / 256 % 256, n / 65536 % 256, n / 16777216] := by
      rw [fl_eq sub a hs ha]
      rfl
    rw [e]
    unfold meansB
    rw [n4 _ _ _ _ sub a hs ha]
    have en : 0 + n % 256 * 256 ^ 0 + n / 256 % 256 * 256 ^ 1 + n / 65536 % 256 * 256 ^ 2 + n / 16777216 * 256 ^ 3 = n := by omega
    rw [en]
    simp [xi]
  obtain ⟨c, hc⟩ := b1 _ (by rw [et]; simp) hm
  refine ⟨c, hc, ?_⟩
  obtain ⟨h1, h2⟩ := b2 c hc
  rw [et] at h1
  simp only [List.mem_cons, List.not_mem_nil, or_false] at h1
  rcases h1 with rfl | rfl | rfl | rfl
  · exfalso
    have := k4 ⟨sub, hs⟩ ⟨a, ha⟩
    unfold meansB at h2
    rw [Bool.and_eq_true] at h2
    have h3 := of_decide_eq_true h2.2
    rw [h3] at this
    exact absurd this (by show ¬ (3 : Int) = 1; omega)
  · simp [numL]
  · simp [numL]
  · have : 1 ≤ (opcM 131).length := by decide
    simp only [List.nil_append, List.length_append, List.length_cons, List.length_nil]
    omega

/-- What Encode answers, as a length. -/
theorem enc_len (W : World) (x : Ins) (s : Nat) (hop : x.op = 1) (hsz : x.size = s) (hs : s = 1 ∨ s = 2 ∨ s = 4) (hsub : 0 ≤ x.sub ∧ x.sub < 8) (hi : 0 ≤ x.b.imm ∧ x.b.imm < 4294967296) (hrep : x.rep = 0) (ha : ¬ x.a.kind = 2) (hb : ¬ x.b.kind = 2) (hc : ¬ x.c.kind = 2) {b : List Int} (h : bestM x (trs x s) = some b) :
    Calls Tryz.prog 10 #[.agg (insV x)] W fun e w' => (∃ p c, e = .returned (.tuple #[.slice p b.length c, .int .i64 0])) ∧ Kp noB W w' := by
  have := enc_sum W x s hop hsz hs hsub hi hrep ha hb hc (ok_sum x s hi)
  have e : triesL (preE s) ((fm5 x s).flatMap bodF) = trs x s := rfl
  rw [e, h] at this
  refine this.mono ?_
  rintro e w' ⟨⟨p, l, c, rfl, hB⟩, k⟩
  obtain ⟨p', c', e', _⟩ := hB
  injection e' with e1 e2 e3
  subst e2
  exact ⟨⟨p, c, rfl⟩, k⟩

theorem callR (s k : Nat) (hs : s = 1 ∨ s = 2 ∨ s = 4) (sub a b : Nat) (h0 : sub < 8) (h : lenE (xr s sub a b) s = some k) (W : World) : Calls Tryz.prog 10 #[.agg (insV (xr s sub a b))] W fun e w' => (∃ p c, e = .returned (.tuple #[.slice p k c, .int .i64 0])) ∧ Kp noB W w' := by
  obtain ⟨b', hb, rfl⟩ := lenE_some h
  exact enc_len W _ s rfl rfl hs ⟨by show (0 : Int) ≤ sub; omega, by show (sub : Int) < 8; omega⟩ ⟨by show (0 : Int) ≤ 0; omega, by show (0 : Int) < 4294967296; omega⟩ rfl (by show ¬ (1 : Int) = 2; omega) (by show ¬ (1 : Int) = 2; omega) (by show ¬ (0 : Int) = 2; omega) hb

theorem callI (s : Nat) (hs : s = 1 ∨ s = 2 ∨ s = 4) (sub a : Nat) (n : Int) (n0 : 0 ≤ n) (n1 : n < 4294967296) (h0 : sub < 8) {b : List Int} (h : bestM (xi s sub a n) (trs (xi s sub a n) s) = some b) (W : World) : Calls Tryz.prog 10 #[.agg (insV (xi s sub a n))] W fun e w' => (∃ p c, e = .returned (.tuple #[.slice p b.length c, .int .i64 0])) ∧ Kp noB W w' :=
  enc_len W _ s rfl rfl hs ⟨by show (0 : Int) ≤ sub; omega, by show (sub : Int) < 8; omega⟩ ⟨n0, n1⟩ rfl (by show ¬ (1 : Int) = 2; omega) (by show ¬ (3 : Int) = 2; omega) (by show ¬ (0 : Int) = 2; omega) h

/-- One round: how long the three answers are. -/
def RndE (s sub a b : Nat) (n : Int) (lr li ln : Nat) : Prop :=
  (∀ W, Calls Tryz.prog 10 #[.agg (insV (xr s sub a b))] W fun e w' => (∃ p c, e = .returned (.tuple #[.slice p lr c, .int .i64 0])) ∧ Kp noB W w') ∧
  (∀ W, Calls Tryz.prog 10 #[.agg (insV (xi s sub a 5))] W fun e w' => (∃ p c, e = .returned (.tuple #[.slice p li c, .int .i64 0])) ∧ Kp noB W w') ∧
  (∀ W, Calls Tryz.prog 10 #[.agg (insV (xi s sub a n))] W fun e w' => (∃ p c, e = .returned (.tuple #[.slice p ln c, .int .i64 0])) ∧ Kp noB W w') ∧ li ≤ ln

theorem isSome_lenE {x : Ins} {s : Nat} (h : (lenE x s).isSome = true) : ∃ b, bestM x (trs x s) = some b := by
  cases e : lenE x s with
  | none => rw [e] at h; cases h
  | some k => exact (lenE_some e).imp fun b hb => hb.1

theorem rnd1 (sub a b : Nat) (h0 : sub < 8) (h1 : a < 8) (h2 : b < 8) : ∃ l, RndE 1 sub a b 5 2 l l := by
  obtain ⟨c, hc⟩ := isSome_lenE (i1 ⟨sub, h0⟩ ⟨a, h1⟩)
  exact ⟨c.length, callR 1 2 (by decide) sub a b h0 (r1 ⟨sub, h0⟩ ⟨a, h1⟩ ⟨b, h2⟩), callI 1 (by decide) sub a 5 (by decide) (by decide) h0 hc, callI 1 (by decide) sub a 5 (by decide) (by decide) h0 hc, Nat.le_refl _⟩
theorem rnd2 (sub a b : Nat) (h0 : sub < 8) (h1 : a < 8) (h2 : b < 8) : ∃ l, RndE 2 sub a b 5 3 l l := by
  obtain ⟨c, hc⟩ := isSome_lenE (i2 ⟨sub, h0⟩ ⟨a, h1⟩)
  exact ⟨c.length, callR 2 3 (by decide) sub a b h0 (r2 ⟨sub, h0⟩ ⟨a, h1⟩ ⟨b, h2⟩), callI 2 (by decide) sub a 5 (by decide) (by decide) h0 hc, callI 2 (by decide) sub a 5 (by decide) (by decide) h0 hc, Nat.le_refl _⟩
theorem rnd4 (sub a b : Nat) (n : Int) (h0 : sub < 8) (h1 : a < 8) (h2 : b < 8) (n0 : 0 ≤ n) (n1 : n < 4294967296) : ∃ l m, RndE 4 sub a b n 2 l m := by
  obtain ⟨c, hc, lc⟩ := lenE_some (i4 ⟨sub, h0⟩ ⟨a, h1⟩)
  obtain ⟨d, hd, ld⟩ := m4 sub a h0 h1 n n0 n1
  exact ⟨c.length, d.length, callR 4 2 (by decide) sub a b h0 (r4 ⟨sub, h0⟩ ⟨a, h1⟩ ⟨b, h2⟩), callI 4 (by decide) sub a 5 (by decide) (by decide) h0 hc, callI 4 (by decide) sub a n n0 n1 h0 hd, by omega⟩
end Go.Proofs.YtolnaodlghahlaaGreatDoor
