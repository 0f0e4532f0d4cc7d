/- What is watched and noted: the contracts of note, and what a store into the sets does to memory. -/
import Derived.Test.YtmmnnafjikilpaaRamNew2
namespace Go.Proofs.Ytmmnnafjikilpaa
open Go.ChangeShapes Go.WideShapes Go.ChangeAt Go.RowKit Go.Maps
set_option linter.unusedVariables false

theorem RamAt.as {w : World} {B : Nat} {M M' : Mem} (h : RamAt w B M) (e : M = M') : RamAt w B M' := e ▸ h

/-- The granules from lo on, below hi, that are watched are noted, and watched no more. -/
def Mem.note (M : Mem) (lo hi : Int) : Mem := { M with wt := fun x => M.wt x && !decide (lo ≤ x ∧ x < hi), nt := fun x => M.nt x || (M.wt x && decide (lo ≤ x ∧ x < hi)) }

theorem ram_unwatch {w w1 : World} {B : Nat} {M : Mem} (h : RamAt w B M) {D : DataW Unit} (hD : ∀ x : Int, Maps.has D (.int .u32 x) = M.wt x) (g : Int)
    (hown : w1.ownsMap Try.prog 23 unitElem (B + 1) 16384 (D.del (.int .u32 g))) (hturn : w.mapTurned w1 (B + 1)) :
    RamAt w1 B { M with wt := fun x => M.wt x && !decide (x = g) } := by
  have hK : Kp (fun j => j = B + 1) w w1 := Kp.turned hturn rfl
  have hold : ∀ j, inRam B M.n j → j ≠ B + 1 → w1.heap[j]? = w.heap[j]? := fun j hj hne => hK.block j (by have := h.lt; have := hj.2; omega) hne
  exact {
    le := h.le
    r := (hold _ ⟨by omega, by omega⟩ (by omega)).trans h.r
    p := by obtain ⟨D', h1, h2⟩ := h.p; exact ⟨D', owns_at h1 (hold _ ⟨by omega, by omega⟩ (by omega)), h2⟩
    pg := fun i hi => by obtain ⟨cs, h1, h2⟩ := h.pg i hi; exact ⟨cs, (hold _ ⟨by omega, by have : i < M.n := hi; omega⟩ (by omega)).trans h1, h2⟩
    wm := by
      refine ⟨_, hown, fun x => ?_⟩
      by_cases e : x = g
      · subst e; rw [Maps.has_del_same]; simp
      · rw [Maps.has_del_other (by simpa using e), hD]; simp [e]
    nm := by obtain ⟨D', h1, h2⟩ := h.nm; exact ⟨D', owns_at h1 (hold _ ⟨by omega, by omega⟩ (by omega)), h2⟩
    wb := fun x hx => h.wb x (by simp at hx; exact hx.1)
    nb := h.nb
    bb := h.bb }

theorem ram_watch {w w1 : World} {B : Nat} {M : Mem} (h : RamAt w B M) {D : DataW Unit} (hD : ∀ x : Int, Maps.has D (.int .u32 x) = M.wt x) (hm : Maps.IsMap D) (g : Int) (g0 : 0 ≤ g) (g1 : g < 4096 * M.n) (g2 : g % 64 = 0)
    (hown : w1.ownsMap Try.prog 23 unitElem (B + 1) (16384 + 1) (D.put (.int .u32 g) (.agg []))) (hturn : w.mapTurned w1 (B + 1)) :
    RamAt w1 B { M with wt := fun x => M.wt x || decide (x = g) } := by
  have hK : Kp (fun j => j = B + 1) w w1 := Kp.turned hturn rfl
  have hold : ∀ j, inRam B M.n j → j ≠ B + 1 → w1.heap[j]? = w.heap[j]? := fun j hj hne => hK.block j (by have := h.lt; have := hj.2; omega) hne
  have hb : ∀ x, (M.wt x || decide (x = g)) = true → 0 ≤ x ∧ x < 4096 * M.n ∧ x % 64 = 0 := fun x hx => by
    simp at hx
    rcases hx with hx | rfl
    · exact h.wb x hx
    · exact ⟨g0, g1, g2⟩
  have hhas : ∀ x : Int, Maps.has (D.put (.int .u32 g) (.agg [])) (.int .u32 x) = (M.wt x || decide (x = g)) := fun x => by
    by_cases e : x = g
    · subst e; rw [Maps.has_put_same hm (by simp [WideAt.IsKeyLit])]; simp
    · rw [Maps.has_put_other (by simpa using e), hD]; simp [e]
  have hle := h.le
  exact {
    le := h.le
    r := (hold _ ⟨by omega, by omega⟩ (by omega)).trans h.r
    p := by obtain ⟨D', h1, h2⟩ := h.p; exact ⟨D', owns_at h1 (hold _ ⟨by omega, by omega⟩ (by omega)), h2⟩
    pg := fun i hi => by obtain ⟨cs, h1, h2⟩ := h.pg i hi; exact ⟨cs, (hold _ ⟨by omega, by have : i < M.n := hi; omega⟩ (by omega)).trans h1, h2⟩
    wm := ⟨_, owns_tight hown (set_size hown _ hhas (fun x hx => by have := hb x hx; omega)), hhas⟩
    nm := by obtain ⟨D', h1, h2⟩ := h.nm; exact ⟨D', owns_at h1 (hold _ ⟨by omega, by omega⟩ (by omega)), h2⟩
    wb := hb
    nb := h.nb
    bb := h.bb }

theorem ram_mark {w w1 : World} {B : Nat} {M : Mem} (h : RamAt w B M) {D : DataW Unit} (hD : ∀ x : Int, Maps.has D (.int .u32 x) = M.nt x) (hm : Maps.IsMap D) (g : Int) (g0 : 0 ≤ g) (g1 : g < 4096 * M.n) (g2 : g % 64 = 0)
    (hown : w1.ownsMap Try.prog 23 unitElem (B + 2) (16384 + 1) (D.put (.int .u32 g) (.agg []))) (hturn : w.mapTurned w1 (B + 2)) :
    RamAt w1 B { M with nt := fun x => M.nt x || decide (x = g) } := by
  have hK : Kp (fun j => j = B + 2) w w1 := Kp.turned hturn rfl
  have hold : ∀ j, inRam B M.n j → j ≠ B + 2 → w1.heap[j]? = w.heap[j]? := fun j hj hne => hK.block j (by have := h.lt; have := hj.2; omega) hne
  have hb : ∀ x, (M.nt x || decide (x = g)) = true → 0 ≤ x ∧ x < 4096 * M.n ∧ x % 64 = 0 := fun x hx => by
    simp at hx
    rcases hx with hx | rfl
    · exact h.nb x hx
    · exact ⟨g0, g1, g2⟩
  have hhas : ∀ x : Int, Maps.has (D.put (.int .u32 g) (.agg [])) (.int .u32 x) = (M.nt x || decide (x = g)) := fun x => by
    by_cases e : x = g
    · subst e; rw [Maps.has_put_same hm (by simp [WideAt.IsKeyLit])]; simp
    · rw [Maps.has_put_other (by simpa using e), hD]; simp [e]
  have hle := h.le
  exact {
    le := h.le
    r := (hold _ ⟨by omega, by omega⟩ (by omega)).trans h.r
    p := by obtain ⟨D', h1, h2⟩ := h.p; exact ⟨D', owns_at h1 (hold _ ⟨by omega, by omega⟩ (by omega)), h2⟩
    pg := fun i hi => by obtain ⟨cs, h1, h2⟩ := h.pg i hi; exact ⟨cs, (hold _ ⟨by omega, by have : i < M.n := hi; omega⟩ (by omega)).trans h1, h2⟩
    wm := by obtain ⟨D', h1, h2⟩ := h.wm; exact ⟨D', owns_at h1 (hold _ ⟨by omega, by omega⟩ (by omega)), h2⟩
    nm := ⟨_, owns_tight hown (set_size hown _ hhas (fun x hx => by have := hb x hx; omega)), hhas⟩
    wb := h.wb
    nb := hb
    bb := h.bb }

theorem note_pt (a b : Bool) (P Q E : Prop) [Decidable P] [Decidable Q] [Decidable E] (k : a = true → (P ↔ Q ∨ E)) (e : E → a = true) :
    (a && !decide P) = ((a && !decide Q) && !decide E) ∧ (b || (a && decide P)) = ((b || (a && decide Q)) || decide E) := by
  cases a
  · have : ¬ E := fun h => by simpa using e h
    simp [this]
  · have := k rfl
    by_cases hq : Q <;> by_cases he : E <;> simp_all

theorem note_pu (a b : Bool) (P Q : Prop) [Decidable P] [Decidable Q] (k : a = true → (P ↔ Q)) :
    (a && !decide P) = (a && !decide Q) ∧ (b || (a && decide P)) = (b || (a && decide Q)) := by
  cases a
  · simp
  · have := k rfl
    by_cases hq : Q <;> simp_all

theorem note_step (M : Mem) (lo g : Int) (hg : lo ≤ g) (hw : ∀ x, M.wt x = true → (x - g) % 64 = 0) :
    M.note lo (g + 64) = if M.wt g = true then { M.note lo g with wt := fun x => (M.note lo g).wt x && !decide (x = g), nt := fun x => (M.note lo g).nt x || decide (x = g) } else M.note lo g := by
  have key : ∀ x, M.wt x = true → (lo ≤ x ∧ x < g + 64 ↔ (lo ≤ x ∧ x < g) ∨ x = g) := fun x hx => by have := hw x hx; omega
  split
  · rename_i hg1
    have q := fun x => note_pt (M.wt x) (M.nt x) (lo ≤ x ∧ x < g + 64) (lo ≤ x ∧ x < g) (x = g) (key x) (fun e => by rw [e]; exact hg1)
    unfold Mem.note
    congr 1
    · funext x; exact (q x).1
    · funext x; exact (q x).2
  · rename_i hg1
    have q := fun x => note_pu (M.wt x) (M.nt x) (lo ≤ x ∧ x < g + 64) (lo ≤ x ∧ x < g) (fun hx => by
      have := key x hx
      have e : x ≠ g := fun e => hg1 (e ▸ hx)
      omega)
    unfold Mem.note
    congr 1
    · funext x; exact (q x).1
    · funext x; exact (q x).2

theorem note_none (M : Mem) (lo : Int) : M.note lo lo = M := by
  have f : ∀ x, decide (lo ≤ x ∧ x < lo) = false := fun x => decide_eq_false (by omega)
  unfold Mem.note
  simp [f]

theorem note_any (w : World) (B : Nat) (M : Mem) (h : RamAt w B M) (pl n : Int) (h0 : 0 ≤ pl) (n1 : 1 ≤ n) (h1 : pl + n ≤ 4096 * M.n) :
    Calls Try.prog 64 #[.pointer (some ⟨B + 3, 0, none⟩), .int .u32 pl, .int .i64 n] w fun e w' => e = .returned (.tuple #[]) ∧ RamAt w' B (M.note (pl - pl % 64) ((pl + n - 1) - (pl + n - 1) % 64 + 64)) ∧ Kp (fun j => j = B + 1 ∨ j = B + 2) w w' := by
  have hle := h.le
  have a1 : pl + n < 4294967296 := by omega
  have a2 : n < 4294967296 := by omega
  go_enter Try.func64, Try.ntmps64
  go_wp2_with (first
    | (go_at_call 70; refine (granuleOf_any _ _ (by omega) (by omega)).mono ?_; rintro e w' ⟨rfl, hw⟩; replace hw := hw.symm; subst hw)
    | go_in)
  obtain ⟨lo, hlo⟩ : ∃ lo, lo = pl - pl % 64 := ⟨_, rfl⟩
  obtain ⟨hi, hhi⟩ : ∃ hi, hi = pl + n - 1 - (pl + n - 1) % 64 := ⟨_, rfl⟩
  rw [← hlo, ← hhi]
  have b0 : 0 ≤ lo := by omega
  have b1 : lo ≤ hi := by omega
  have b2 : hi + 64 ≤ 4096 * M.n := by omega
  have b3 : lo % 64 = 0 := by omega
  have b4 : hi % 64 = 0 := by omega
  have HLO : Hid (lo = pl - pl % 64) := hlo
  have HHI : Hid (hi = pl + n - 1 - (pl + n - 1) % 64) := hhi
  clear hlo hhi
  go_loopw [7] (fun i wr => ∃ g : Int, i = .int .u32 g ∧ lo ≤ g ∧ g ≤ hi + 64 ∧ g % 64 = 0 ∧ RamAt wr B (M.note lo g) ∧ Kp (fun j => j = B + 1 ∨ j = B + 2) w wr) (fun i _ => (hi + 64 - intOf i).toNat)
  case atStart => exact ⟨lo, rfl, Int.le_refl _, by omega, b3, h.as (note_none M lo).symm, Kp.refl _ _⟩
  case round =>
    obtain ⟨g, rfl, g0, g1, g2, hr, hk⟩ := hrel
    have c2 := hr.c2
    obtain ⟨D, hown, hD⟩ := hr.wm
    have hra := hr.alloc (.cells #[] 136)
    have c2a := hra.c2
    have hka : Kp (fun j => j = B + 1 ∨ j = B + 2) w (wr.alloc (.cells #[] 136)) := hk.trans (Kp.alloc _ wr _)
    have hwt : ∀ x, M.wt x = true → (x - g) % 64 = 0 := fun x hx => by have := h.wb x hx; omega
    have hstep := note_step M lo g g0 hwt
    have hng : (M.note lo g).wt g = M.wt g := by simp [Mem.note]
    have HS : Hid (M.note lo (g + 64) = if M.wt g = true then { M.note lo g with wt := fun x => (M.note lo g).wt x && !decide (x = g), nt := fun x => (M.note lo g).nt x || decide (x = g) } else M.note lo g) := hstep
    have HN : Hid ((M.note lo g).wt g = M.wt g) := hng
    clear hstep hng
    go_wp2_with (first
      | (at_lookup; refine wpList_lookup_own_unit _ rfl _ _ 90 rfl 23 136 (int_keyed u32T) setT (zeroUnit _) (B + 1) 16384 D rfl hown _ _ rfl (keyU (x := g) (by omega) (by omega)) ?_)
      | (at_delete; refine wpList_delete_own _ rfl _ _ 90 23 rfl 136 (int_keyed u32T) setT unitElem (B + 1) 16384 D rfl (hown.alloc _) _ _ rfl (keyU (x := g) (by omega) (by omega)) ?_; intro w2 hown2 hturn2; have hr2 := ram_unwatch hra hD g hown2 hturn2; have hk2 : Kp (fun j => j = B + 1 ∨ j = B + 2) w w2 := hka.trans (Kp.turned hturn2 (Or.inl rfl)); have c3 := hr2.c3; obtain ⟨D3, hown3, hD3⟩ := hr2.nm; clear hown2 hturn2)
      | (at_mapUpdate; refine wpList_mapUpdate_in _ rfl _ _ _ 90 rfl 23 136 (int_keyed u32T) setT unitElem (B + 2) 16384 D3 rfl hown3 (by unfold maxLen; omega) _ _ _ rfl rfl (keyU (x := g) (by omega) (by omega)) _ [] unitElem_mk ?_; intro w3 hown4 hturn4; have hr4 := ram_mark hr2 hD3 hown3.isMap g (by omega) (by show g < 4096 * M.n; omega) g2 hown4 hturn4; have hk4 : Kp (fun j => j = B + 1 ∨ j = B + 2) w w3 := hk2.trans (Kp.turned hturn4 (Or.inr rfl)); clear hown4 hturn4)
      | go_in)
    · have hwg : M.wt g = true := by rw [← HN.out]; assumption
      go_roundw
      case rel =>
        refine ⟨g + 64, rfl, by omega, by omega, by omega, hr4.as ?_, hk4⟩
        rw [HS.out, if_pos hwg]
      case measure => simp [intOf]; omega
    · have hwg : ¬ M.wt g = true := by rw [← HN.out]; simp; assumption
      go_roundw
      case rel =>
        refine ⟨g + 64, rfl, by omega, by omega, by omega, hra.as ?_, hka⟩
        rw [HS.out, if_neg hwg]
      case measure => simp [intOf]; omega
    · have e : g = hi + 64 := by omega
      subst e
      go_end0
      refine ⟨rfl, ?_, hk⟩
      rw [← HLO.out, ← HHI.out]
      exact hr
end Go.Proofs.Ytmmnnafjikilpaa
