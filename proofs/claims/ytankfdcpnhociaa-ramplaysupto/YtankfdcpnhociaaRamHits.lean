/- Which granules are to be noted, reckoned on lists. -/
import Derived.Test.YtankfdcpnhociaaRamSame
import Derived.Test.YtankfdcpnhociaaRamAwake
namespace Go.Proofs.Ytankfdcpnhociaa
set_option linter.unusedVariables false

/-- A write at a hits the granule g. -/
def hit1 (only : Bool) (a g : Int) : Bool := decide (a % 8192 - a % 8192 % 64 = g) && (!only || decide (4096 ≤ a % 8192))
def hit (only : Bool) (xs : List Int) (g : Int) : Bool := xs.any (fun a => hit1 only a g)

theorem hit_nil (only : Bool) (g : Int) : hit only [] g = false := rfl

theorem hit_succ (only : Bool) (xs : List Int) (i : Nat) (hi : i < xs.length) (g : Int) : hit only (xs.take (i + 1)) g = (hit only (xs.take i) g || hit1 only (xs.getD i 0) g) := by
  have e : xs.take (i + 1) = xs.take i ++ [xs.getD i 0] := by
    rw [List.take_succ_eq_append_getElem hi]
    simp [hi]
  rw [e]
  simp [hit]

/-- The granules below 64 k of which f holds, rising. -/
def wantL (f : Int → Bool) : Nat → List Int
  | 0 => []
  | k + 1 => wantL f k ++ (if f (64 * k) = true then [(64 * k : Int)] else [])

theorem want_len (f : Int → Bool) : ∀ k, (wantL f k).length ≤ k
  | 0 => Nat.le_refl _
  | k + 1 => by
    have := want_len f k
    unfold wantL
    split <;> simp <;> omega

theorem want_mem (f : Int → Bool) (x : Int) : ∀ k : Nat, x ∈ wantL f k ↔ (0 ≤ x ∧ x < 64 * k ∧ x % 64 = 0 ∧ f x = true)
  | 0 => by simp [wantL]; omega
  | k + 1 => by
    have ih := want_mem f x k
    unfold wantL
    rw [List.mem_append, ih]
    by_cases h : f (64 * k) = true
    · rw [if_pos h, List.mem_singleton]
      constructor
      · rintro (⟨h1, h2, h3, h4⟩ | rfl)
        · exact ⟨h1, by omega, h3, h4⟩
        · exact ⟨by omega, by omega, by omega, h⟩
      · rintro ⟨h1, h2, h3, h4⟩
        by_cases e : x = 64 * k
        · exact .inr e
        · exact .inl ⟨h1, by omega, h3, h4⟩
    · rw [if_neg h]
      simp only [List.not_mem_nil, or_false]
      constructor
      · rintro ⟨h1, h2, h3, h4⟩
        exact ⟨h1, by omega, h3, h4⟩
      · rintro ⟨h1, h2, h3, h4⟩
        refine ⟨h1, ?_, h3, h4⟩
        rcases (by omega : x < 64 * k ∨ x = 64 * k) with e | e
        · exact e
        · subst e; exact absurd h4 h

theorem want_sorted (f : Int → Bool) : ∀ k : Nat, (wantL f k).Pairwise (· < ·)
  | 0 => List.Pairwise.nil
  | k + 1 => by
    unfold wantL
    rw [List.pairwise_append]
    refine ⟨want_sorted f k, ?_, fun a ha b hb => ?_⟩
    · split <;> simp
    · split at hb
      · have := (want_mem f a k).1 ha
        simp at hb
        omega
      · simp at hb

theorem sorted_eq : ∀ (l m : List Int), l.Pairwise (· < ·) → m.Pairwise (· < ·) → (∀ x, x ∈ l ↔ x ∈ m) → l = m
  | [], [], _, _, _ => rfl
  | [], b :: m, _, _, h => absurd ((h b).2 (by simp)) (by simp)
  | a :: l, [], _, _, h => absurd ((h a).1 (by simp)) (by simp)
  | a :: l, b :: m, hl, hm, h => by
    rw [List.pairwise_cons] at hl hm
    have ab : a = b := by
      have h1 := (h a).1 (by simp)
      have h2 := (h b).2 (by simp)
      rw [List.mem_cons] at h1 h2
      rcases h1 with e | e
      · exact e
      · rcases h2 with f | f
        · exact f.symm
        · have := hm.1 a e; have := hl.1 b f; omega
    subst ab
    congr 1
    refine sorted_eq l m hl.2 hm.2 fun x => ⟨fun hx => ?_, fun hx => ?_⟩
    · have := (h x).1 (List.mem_cons_of_mem _ hx)
      rw [List.mem_cons] at this
      rcases this with e | e
      · have := hl.1 x hx; omega
      · exact e
    · have := (h x).2 (List.mem_cons_of_mem _ hx)
      rw [List.mem_cons] at this
      rcases this with e | e
      · have := hm.1 x hx; omega
      · exact e

theorem strict_of {l : List Int} (h : l.Pairwise (· ≤ ·)) (hn : l.Nodup) : l.Pairwise (· < ·) := by
  have := List.Pairwise.and h hn
  exact this.imp (fun ⟨h1, h2⟩ => by omega)

/-- Two pages, the gate open, the first of which can only be read, or not. -/
structure NM (only : Bool) (M : Mem) : Prop where
  n : M.n = 2
  closed : M.closed = false
  o0 : M.only 0 = only
  o1 : M.only 1 = false
  b0 : only = true → M.byte 0 = 0

theorem NM.place {only : Bool} {M : Mem} (h : NM only M) (a : Int) : M.place a = a := by
  unfold Mem.place; rw [h.closed]; simp

/-- Behind a write. -/
theorem NM.put {only : Bool} {M : Mem} (h : NM only M) (hw : ∀ x, M.wt x = true → x % 64 = 0) (a : Int) :
    NM only (M.put false (a % 8192) 7) ∧ (∀ x, (M.put false (a % 8192) 7).wt x = (M.wt x && !hit1 only a x)) ∧ (∀ x, (M.put false (a % 8192) 7).nt x = (M.nt x || (M.wt x && hit1 only a x))) := by
  obtain ⟨t, ht⟩ : ∃ t, t = a % 8192 := ⟨_, rfl⟩
  have t0 : 0 ≤ t ∧ t < 8192 := by omega
  have hit_t : ∀ x, hit1 only a x = (decide (t - t % 64 = x) && (!only || decide (4096 ≤ t))) := fun x => by unfold hit1; rw [ht]
  rw [← ht]
  have hon : M.only (t / 4096).toNat = (only && decide (t < 4096)) := by
    rcases (by omega : t < 4096 ∨ 4096 ≤ t) with e | e
    · have : (t / 4096).toNat = 0 := by omega
      rw [this, h.o0]; simp [e]
    · have : (t / 4096).toNat = 1 := by omega
      rw [this, h.o1]; simp; intro; omega
  by_cases c : only = true ∧ t < 4096
  · have e : M.put false t 7 = M := by
      unfold Mem.put
      rw [h.place, if_neg]
      rw [hon]; simp [c.1, c.2]
    have hz : ∀ x, hit1 only a x = false := fun x => by rw [hit_t]; simp [c.1]; intro; omega
    rw [e]
    exact ⟨h, fun x => by rw [hz]; simp, fun x => by rw [hz]; simp⟩
  · have e : M.put false t 7 = { M.note (t - t % 64) (t - t % 64 + 64) with byte := fun x => if x = t.toNat then 7 else M.byte x } := by
      unfold Mem.put
      rw [h.place, if_pos]
      refine ⟨by rw [h.n]; omega, .inr ?_⟩
      rw [hon]
      cases only
      · rfl
      · have : ¬ t < 4096 := fun f => c ⟨rfl, f⟩
        simp [this]
    have hz : ∀ x, M.wt x = true → hit1 only a x = decide (t - t % 64 ≤ x ∧ x < t - t % 64 + 64) := fun x hx => by
      have hx := hw x hx
      rw [hit_t]
      have hc : (!only || decide (4096 ≤ t)) = true := by
        cases only
        · rfl
        · have : 4096 ≤ t := by
            rcases (by omega : t < 4096 ∨ 4096 ≤ t) with f | f
            · exact absurd ⟨rfl, f⟩ c
            · exact f
          simp [this]
      rw [hc, Bool.and_true]
      exact decide_eq_decide.2 ⟨fun f => by omega, fun f => by omega⟩
    rw [e]
    refine ⟨⟨h.n, h.closed, h.o0, h.o1, fun ho => ?_⟩, fun x => ?_, fun x => ?_⟩
    · have : ¬ 0 = t.toNat := by
        have : ¬ t < 4096 := fun f => c ⟨ho, f⟩
        omega
      show (if 0 = t.toNat then (7 : Int) else M.byte 0) = 0
      rw [if_neg this]; exact h.b0 ho
    · show (M.wt x && !decide (t - t % 64 ≤ x ∧ x < t - t % 64 + 64)) = _
      cases hx : M.wt x
      · rfl
      · rw [hz x hx]
    · show (M.nt x || (M.wt x && decide (t - t % 64 ≤ x ∧ x < t - t % 64 + 64))) = _
      cases hx : M.wt x
      · rfl
      · rw [hz x hx]
end Go.Proofs.Ytankfdcpnhociaa
