/- The contracts of the document's small functions: bit, byteOf, asking, tells. -/
import Derived.Test.YtfpgijdfbgfkcaaRcBase
import Derived.Test.YtfpgijdfbgfkcaaPcBits
import Derived.Test.YtfpgijdfbgfkcaaPcAwake
import Derived.LoopTactic
namespace Go.Proofs.Ytfpgijdfbgfkcaa
open Go.ChangeShapes Go.WideShapes Go.ChangeAt Go.RowKit
set_option linter.unusedVariables false

theorem rb_div {L : Int} (L0 : 0 ≤ L) (i : Nat) : ∃ y, 0 ≤ y ∧ L / 2 ^ i = y ∧ tb L i = decide (y % 2 = 1) := by
  have e : (2 : Int) ^ i = ((2 ^ i : Nat) : Int) := by simp
  refine ⟨L / 2 ^ i, ?_, rfl, ?_⟩
  · rw [e]; exact Int.ediv_nonneg L0 (Int.natCast_nonneg _)
  · rw [tb_div L L0 i, e]

theorem rb_one {L : Int} (L0 : 0 ≤ L) (i : Nat) : ((L / 2 ^ i).tmod 2 == 1) = tb L i := by
  obtain ⟨y, y0, e1, e2⟩ := rb_div L0 i
  rw [e1, e2, Int.tmod_eq_emod_of_nonneg y0]
  by_cases h : y % 2 = 1 <;> simp [h]

theorem bit_any (w : World) (v : Int) (hv : By v) (n : Nat) (hn : n < 8) : Calls Try.prog 41 #[.int .u8 v, .int .i64 n] w fun e w' => e = .returned (.bool (tb v n)) ∧ w' = w := by
  have e := rb_one hv.1 n
  obtain ⟨v0, v1⟩ := hv
  go_enter Try.func41, Try.ntmps41
  go_wp2
  go_ret
  exact ⟨rfl, rfl⟩

/-- The document's chip and the plain one say the same (of the first chip but for whether line 2 asks). -/
structure Rel (r : RC) (c : Ch) (s : Bool) : Prop where
  asks : ∀ k, k < 8 → (s = true → k ≠ 2) → r.asks k = tb c.asks k
  srv : ∀ k, k < 8 → r.srv k = tb c.srv k
  msk : ∀ k, k < 8 → r.msk k = tb c.msk k
  up : ∀ k, k < 8 → (s = true → k ≠ 2) → r.up k = tb c.up k
  base : r.base = c.base
  told : r.told = c.sh
  ends : r.ends = c.ends

def row8 (f : Nat → Bool) : Array Value := #[.bool (f 0), .bool (f 1), .bool (f 2), .bool (f 3), .bool (f 4), .bool (f 5), .bool (f 6), .bool (f 7)]

theorem row8_get (f : Nat → Bool) {k : Nat} (h : k < 8) : (row8 f)[k]? = some (.bool (f k)) := by
  rcases (by omega : k = 0 ∨ k = 1 ∨ k = 2 ∨ k = 3 ∨ k = 4 ∨ k = 5 ∨ k = 6 ∨ k = 7) with rfl | rfl | rfl | rfl | rfl | rfl | rfl | rfl <;> rfl

/-- Eight bools in a block of their own. -/
def R8 (w : World) (q : Nat) (f : Nat → Bool) : Prop := w.heap[q]? = some (.cells (row8 f) 50 (0, 0))
theorem row8_kept {w w' : World} {q : Nat} {f : Nat → Bool} (h : R8 w q f) (k : Kp noB w w') : R8 w' q f := heap_kept h k id
theorem row8_old (w : World) (f : Nat → Bool) (o : Obj) : R8 ((w.alloc (.cells (row8 f) 50)).alloc o) w.heap.size f := heap_alloc2_old w _ _
theorem row8_new2 (w : World) (f : Nat → Bool) (o : Obj) : R8 ((w.alloc o).alloc (.cells (row8 f) 50)) (w.heap.size + 1) f := heap_alloc2_new w _ _
theorem R8.cells {w : World} {q : Nat} {f : Nat → Bool} (h : R8 w q f) : w.cell? ⟨q, 0, none⟩ = some (.bool (f 0)) ∧ w.cell? ⟨q, 1, none⟩ = some (.bool (f 1)) ∧ w.cell? ⟨q, 2, none⟩ = some (.bool (f 2)) ∧ w.cell? ⟨q, 3, none⟩ = some (.bool (f 3)) ∧ w.cell? ⟨q, 4, none⟩ = some (.bool (f 4)) ∧ w.cell? ⟨q, 5, none⟩ = some (.bool (f 5)) ∧ w.cell? ⟨q, 6, none⟩ = some (.bool (f 6)) ∧ w.cell? ⟨q, 7, none⟩ = some (.bool (f 7)) := by
  refine ⟨?_, ?_, ?_, ?_, ?_, ?_, ?_, ?_⟩ <;> (rw [cell_of_row w q _ _ _ _ h]; rfl)
theorem R8.fz {w : World} {q : Nat} {f : Nat → Bool} (h : R8 w q f) (j : Nat) : w.frozen? ⟨q, j, none⟩ = false := frozen_of_row w q j _ _ h
theorem Kp.new {S : Nat → Prop} {w W : World} (h : Kp S w W) {b i : Nat} (hb : w.heap.size ≤ b) (v : Value) : Kp S w (W.setCell ⟨b, i, none⟩ v) := h.own (kpB b W i v) hb

theorem mod_step {x : Int} (h : By x) {i : Nat} (hi : i < 8) : x % 2 ^ (i + 1) = x % 2 ^ i + (if tb x i then 2 ^ i else 0) ∧ 0 ≤ x % 2 ^ i ∧ x % 2 ^ i < 2 ^ i := by
  obtain ⟨h0, h1⟩ := h
  have e := tb_div x h0 i
  rcases (by omega : i = 0 ∨ i = 1 ∨ i = 2 ∨ i = 3 ∨ i = 4 ∨ i = 5 ∨ i = 6 ∨ i = 7) with rfl | rfl | rfl | rfl | rfl | rfl | rfl | rfl
  all_goals
    simp only [Nat.reduceAdd, Nat.reducePow, Int.reducePow] at e ⊢
    refine ⟨?_, by omega, by omega⟩
    rw [e]
    split <;> rename_i g <;> simp at g <;> omega

theorem mod_lt256 {x : Int} (h : By x) {k : Nat} (hk : k < 8) : 0 ≤ x % 2 ^ (k + 1) ∧ x % 2 ^ (k + 1) < 256 ∧ (2 : Int) ^ k % 256 = 2 ^ k := by
  obtain ⟨h0, h1⟩ := h
  rcases (by omega : k = 0 ∨ k = 1 ∨ k = 2 ∨ k = 3 ∨ k = 4 ∨ k = 5 ∨ k = 6 ∨ k = 7) with rfl | rfl | rfl | rfl | rfl | rfl | rfl | rfl
  all_goals
    simp only [Nat.reduceAdd, Int.reducePow]
    refine ⟨by omega, by omega, by decide⟩

theorem byteOf_ok (w : World) (f : Nat → Bool) (x : Int) (hx : By x) (hf : ∀ k, k < 8 → f k = tb x k) : Calls Try.prog 30 #[.agg (row8 f)] w fun e w' => e = .returned (.int .u8 x) ∧ Kp noB w w' := by
  have hc : ∀ k, k < 8 → (w.alloc (.cells (row8 f) 50)).cell? ⟨w.heap.size, k, none⟩ = some (.bool (tb x k)) := fun k hk => by
    rw [cell_of_row _ _ k _ _ _ (heap_new w _), row8_get f hk, hf k hk]
  have HC : Hid _ := hc
  have HK : Hid (Kp noB w (w.alloc (.cells (row8 f) 50))) := Kp.alloc _ _ _
  have HX : Hid (By x) := hx
  clear hc hf
  unfold row8 at *
  go_enter Try.func30, Try.ntmps30
  go_wp2
  generalize w.alloc (.cells #[.bool (f 0), .bool (f 1), .bool (f 2), .bool (f 3), .bool (f 4), .bool (f 5), .bool (f 6), .bool (f 7)] 50) = w1 at HC HK ⊢
  go_loop [3, 4] (fun o i => ∃ k : Nat, k ≤ 8 ∧ i = .int .i64 k ∧ o = .int .u8 (x % 2 ^ k)) (fun _ i => 8 - (intOf i).toNat)
  case atStart => exact ⟨0, by omega, rfl, by simp⟩
  case round =>
    obtain ⟨k, hk, rfl, rfl⟩ := hrel
    by_cases hlt : k < 8
    · have hc := HC.out k hlt
      have hs := mod_step HX.out hlt
      have hp := pw_mod (n := (k : Int)) (by omega) (by omega)
      cases e : tb x k
      · rw [e] at hc
        go_wp2
        go_round
        case rel => exact ⟨k + 1, by omega, by go_num, by rw [hs.1, e]; simp⟩
        case measure => simp [intOf]; omega
      · rw [e] at hc
        go_wp2
        go_round
        case rel =>
          refine ⟨k + 1, by omega, by go_num, ?_⟩
          have e1 : x % 2 ^ (k + 1) = x % 2 ^ k + 2 ^ k := by rw [hs.1, e]; rfl
          obtain ⟨q1, q2, e3⟩ := mod_lt256 HX.out hlt
          rw [e3, ← e1]
          exact congrArg _ (by omega)
        case measure => simp [intOf]; omega
    · obtain rfl : k = 8 := by omega
      have e8 : x % 256 = x := by have := HX.out.1; have := HX.out.2; omega
      go_wp2
      go_ret
      exact ⟨rfl, HK.out⟩

/-! ### the second chip -/
theorem asking_b (w : World) (R : Nat) (a b : RC) (h : RAt w R a b) : Calls Try.prog 31 #[.pointer (some ⟨R, 0, none⟩), .int .i64 1] w fun e w' => e = .returned (.agg (row8 b.asks)) ∧ Kp noB w w' := by
  have lR := h.lt
  have c0 := h.cellB (ch_asks b (k := 0) (by decide))
  have c1 := h.cellB (ch_asks b (k := 1) (by decide))
  have c2 := h.cellB (ch_asks b (k := 2) (by decide))
  have c3 := h.cellB (ch_asks b (k := 3) (by decide))
  have c4 := h.cellB (ch_asks b (k := 4) (by decide))
  have c5 := h.cellB (ch_asks b (k := 5) (by decide))
  have c6 := h.cellB (ch_asks b (k := 6) (by decide))
  have c7 := h.cellB (ch_asks b (k := 7) (by decide))
  simp only [Nat.reduceAdd] at c0 c1 c2 c3 c4 c5 c6 c7
  go_enter Try.func31, Try.ntmps31
  go_wp2
  refine bodyPost_ret (v := .agg (row8 b.asks)) ?_ rfl ⟨rfl, (Kp.alloc _ _ _).trans (Kp.alloc _ _ _)⟩
  simp [results, Try.results31, go_sem, row8]

theorem tells_b (w : World) (R : Nat) (a b : RC) (c : Ch) (l : Nat → Bool) (h : RAt w R a b) (hr : Rel b c false) (k : c.Ok) (hl : ∀ j, j < 8 → l j = tb c.asks j) (HA : Hid (Calls Try.prog 31 #[.pointer (some ⟨R, 0, none⟩), .int .i64 1] w fun e w' => e = .returned (.agg (row8 l)) ∧ Kp noB w w')) : Calls Try.prog 38 #[.pointer (some ⟨R, 0, none⟩), .int .i64 1] w fun e w' => e = .returned (.int .i64 c.next) ∧ Kp noB w w' := by
  have H0 : Hid (∀ (i : Nat), i < 8 → (∀ j, j < i → tb c.srv j = false ∧ c.eff j = false) → tb c.srv i = true → c.next = -1) := fun i hi f g => next_none k (by omega) (fun j hj => (f j hj).2) (.inr ⟨hi, g⟩)
  have H1 : Hid (∀ (i : Nat), i < 8 → (∀ j, j < i → tb c.srv j = false ∧ c.eff j = false) → tb c.srv i = false → c.eff i = true → c.next = i) := fun i hi f g e => next_is k hi e (fun j hj => (f j hj).2) (fun j hj => by
    by_cases q : j < i
    · exact (f j q).1
    · obtain rfl : j = i := by omega
      exact g)
  have H2 : Hid ((∀ j, j < 8 → tb c.srv j = false ∧ c.eff j = false) → c.next = -1) := fun f => next_none k (k := 8) (by decide) (fun j hj => (f j hj).2) (.inl rfl)
  have HR : Hid (RAt w R a b) := h
  have HE : Hid (Rel b c false) := hr
  have HL : Hid (∀ j, j < 8 → l j = tb c.asks j) := hl
  clear h hr k hl
  go_enter Try.func38, Try.ntmps38
  go_wp2_with fail
  refine Calls.mono HA.out ?_; rintro e w1 ⟨rfl, k1⟩
  have hR1 : Hid (RAt (w1.alloc (.cells (row8 l) 50)) R a b) := (HR.out.kept k1 id).kept (Kp.alloc noB _ _) id
  have hC : Hid (∀ j, j < 8 → (w1.alloc (.cells (row8 l) 50)).cell? ⟨w1.heap.size, j, none⟩ = some (.bool (tb c.asks j))) := fun j hj => by
    rw [cell_of_row _ _ j _ _ _ (heap_new w1 _), row8_get l hj, HL.out j hj]
  have hK : Hid (Kp noB w (w1.alloc (.cells (row8 l) 50))) := k1.trans (Kp.alloc _ _ _)
  clear HR HL k1 HA
  unfold row8 at *
  go_wp2_with fail
  generalize w1.alloc (.cells #[.bool (l 0), .bool (l 1), .bool (l 2), .bool (l 3), .bool (l 4), .bool (l 5), .bool (l 6), .bool (l 7)] 50) = w2 at hR1 hC hK ⊢
  go_loop [6] (fun i => ∃ k : Nat, k ≤ 8 ∧ i = .int .i64 k ∧ Hid (∀ j, j < k → tb c.srv j = false ∧ c.eff j = false)) (fun i => 8 - (intOf i).toNat)
  case atStart => exact ⟨0, by omega, rfl, fun j hj => absurd hj (by omega)⟩
  case round =>
    obtain ⟨i, hi, rfl, hI⟩ := hrel
    by_cases hlt : i < 8
    · have c1 := hR1.out.cellB (ch_srv b hlt)
      have c2 := hR1.out.cellB (ch_msk b hlt)
      have c3 := hC.out i hlt
      rw [HE.out.srv i hlt] at c1
      rw [HE.out.msk i hlt] at c2
      rw [show 36 + (8 + i) = 44 + i by omega] at c1
      rw [show 36 + (16 + i) = 52 + i by omega] at c2
      cases es : tb c.srv i
      · rw [es] at c1
        cases ea : tb c.asks i
        · rw [ea] at c3
          have hI' : Hid (∀ j, j < i + 1 → tb c.srv j = false ∧ c.eff j = false) := fun j hj => by
            by_cases q : j < i
            · exact hI.out j q
            · obtain rfl : j = i := by omega
              exact ⟨es, by unfold Ch.eff; rw [ea]; rfl⟩
          go_wp2
          go_round
          case rel => exact ⟨i + 1, by omega, by go_num, hI'⟩
          case measure => simp [intOf]; omega
        · rw [ea] at c3
          cases em : tb c.msk i
          · rw [em] at c2
            have e := H1.out i hlt hI.out es (by unfold Ch.eff; rw [ea, em]; rfl)
            have E : Hid _ := e
            clear e
            go_wp2
            go_ret
            exact ⟨ret_int E.out.symm, hK.out⟩
          · rw [em] at c2
            have hI' : Hid (∀ j, j < i + 1 → tb c.srv j = false ∧ c.eff j = false) := fun j hj => by
              by_cases q : j < i
              · exact hI.out j q
              · obtain rfl : j = i := by omega
                exact ⟨es, by unfold Ch.eff; rw [ea, em]; rfl⟩
            go_wp2
            go_round
            case rel => exact ⟨i + 1, by omega, by go_num, hI'⟩
            case measure => simp [intOf]; omega
      · rw [es] at c1
        have e := H0.out i hlt hI.out es
        have E : Hid _ := e
        clear e
        go_wp2
        go_ret
        exact ⟨ret_int E.out.symm, hK.out⟩
    · obtain rfl : i = 8 := by omega
      have e := H2.out hI.out
      have E : Hid _ := e
      clear e
      go_wp2
      go_ret
      exact ⟨ret_int E.out.symm, hK.out⟩

theorem tellsB (w : World) (R : Nat) (a b : RC) (c : Ch) (h : RAt w R a b) (hr : Rel b c false) (k : c.Ok) : Calls Try.prog 38 #[.pointer (some ⟨R, 0, none⟩), .int .i64 1] w fun e w' => e = .returned (.int .i64 c.next) ∧ Kp noB w w' :=
  tells_b w R a b c b.asks h hr k (fun j hj => hr.asks j hj (fun f => by cases f)) (asking_b w R a b h)

theorem tells_a (w : World) (R : Nat) (a b : RC) (c : Ch) (l : Nat → Bool) (h : RAt w R a b) (hr : Rel a c true) (k : c.Ok) (hl : ∀ j, j < 8 → l j = tb c.asks j) (HA : Hid (Calls Try.prog 31 #[.pointer (some ⟨R, 0, none⟩), .int .i64 0] w fun e w' => e = .returned (.agg (row8 l)) ∧ Kp noB w w')) : Calls Try.prog 38 #[.pointer (some ⟨R, 0, none⟩), .int .i64 0] w fun e w' => e = .returned (.int .i64 c.next) ∧ Kp noB w w' := by
  have H0 : Hid (∀ (i : Nat), i < 8 → (∀ j, j < i → tb c.srv j = false ∧ c.eff j = false) → tb c.srv i = true → c.next = -1) := fun i hi f g => next_none k (by omega) (fun j hj => (f j hj).2) (.inr ⟨hi, g⟩)
  have H1 : Hid (∀ (i : Nat), i < 8 → (∀ j, j < i → tb c.srv j = false ∧ c.eff j = false) → tb c.srv i = false → c.eff i = true → c.next = i) := fun i hi f g e => next_is k hi e (fun j hj => (f j hj).2) (fun j hj => by
    by_cases q : j < i
    · exact (f j q).1
    · obtain rfl : j = i := by omega
      exact g)
  have H2 : Hid ((∀ j, j < 8 → tb c.srv j = false ∧ c.eff j = false) → c.next = -1) := fun f => next_none k (k := 8) (by decide) (fun j hj => (f j hj).2) (.inl rfl)
  have HR : Hid (RAt w R a b) := h
  have HE : Hid (Rel a c true) := hr
  have HL : Hid (∀ j, j < 8 → l j = tb c.asks j) := hl
  clear h hr k hl
  go_enter Try.func38, Try.ntmps38
  go_wp2_with fail
  refine Calls.mono HA.out ?_; rintro e w1 ⟨rfl, k1⟩
  have hR1 : Hid (RAt (w1.alloc (.cells (row8 l) 50)) R a b) := (HR.out.kept k1 id).kept (Kp.alloc noB _ _) id
  have hC : Hid (∀ j, j < 8 → (w1.alloc (.cells (row8 l) 50)).cell? ⟨w1.heap.size, j, none⟩ = some (.bool (tb c.asks j))) := fun j hj => by
    rw [cell_of_row _ _ j _ _ _ (heap_new w1 _), row8_get l hj, HL.out j hj]
  have hK : Hid (Kp noB w (w1.alloc (.cells (row8 l) 50))) := k1.trans (Kp.alloc _ _ _)
  clear HR HL k1 HA
  unfold row8 at *
  go_wp2_with fail
  generalize w1.alloc (.cells #[.bool (l 0), .bool (l 1), .bool (l 2), .bool (l 3), .bool (l 4), .bool (l 5), .bool (l 6), .bool (l 7)] 50) = w2 at hR1 hC hK ⊢
  go_loop [6] (fun i => ∃ k : Nat, k ≤ 8 ∧ i = .int .i64 k ∧ Hid (∀ j, j < k → tb c.srv j = false ∧ c.eff j = false)) (fun i => 8 - (intOf i).toNat)
  case atStart => exact ⟨0, by omega, rfl, fun j hj => absurd hj (by omega)⟩
  case round =>
    obtain ⟨i, hi, rfl, hI⟩ := hrel
    by_cases hlt : i < 8
    · have c1 := hR1.out.cellA (ch_srv a hlt)
      have c2 := hR1.out.cellA (ch_msk a hlt)
      have c3 := hC.out i hlt
      rw [HE.out.srv i hlt] at c1
      rw [HE.out.msk i hlt] at c2
      rw [show 8 + i = 8 + i by omega] at c1
      rw [show 16 + i = 16 + i by omega] at c2
      cases es : tb c.srv i
      · rw [es] at c1
        cases ea : tb c.asks i
        · rw [ea] at c3
          have hI' : Hid (∀ j, j < i + 1 → tb c.srv j = false ∧ c.eff j = false) := fun j hj => by
            by_cases q : j < i
            · exact hI.out j q
            · obtain rfl : j = i := by omega
              exact ⟨es, by unfold Ch.eff; rw [ea]; rfl⟩
          go_wp2
          go_round
          case rel => exact ⟨i + 1, by omega, by go_num, hI'⟩
          case measure => simp [intOf]; omega
        · rw [ea] at c3
          cases em : tb c.msk i
          · rw [em] at c2
            have e := H1.out i hlt hI.out es (by unfold Ch.eff; rw [ea, em]; rfl)
            have E : Hid _ := e
            clear e
            go_wp2
            go_ret
            exact ⟨ret_int E.out.symm, hK.out⟩
          · rw [em] at c2
            have hI' : Hid (∀ j, j < i + 1 → tb c.srv j = false ∧ c.eff j = false) := fun j hj => by
              by_cases q : j < i
              · exact hI.out j q
              · obtain rfl : j = i := by omega
                exact ⟨es, by unfold Ch.eff; rw [ea, em]; rfl⟩
            go_wp2
            go_round
            case rel => exact ⟨i + 1, by omega, by go_num, hI'⟩
            case measure => simp [intOf]; omega
      · rw [es] at c1
        have e := H0.out i hlt hI.out es
        have E : Hid _ := e
        clear e
        go_wp2
        go_ret
        exact ⟨ret_int E.out.symm, hK.out⟩
    · obtain rfl : i = 8 := by omega
      have e := H2.out hI.out
      have E : Hid _ := e
      clear e
      go_wp2
      go_ret
      exact ⟨ret_int E.out.symm, hK.out⟩

theorem asking_a (w : World) (R : Nat) (a b : RC) (m : M2) (h : RAt w R a b) (hb : Rel b m.b false) (k : m.Ok) : Calls Try.prog 31 #[.pointer (some ⟨R, 0, none⟩), .int .i64 0] w fun e w' => e = .returned (.agg (row8 (upd a.asks 2 (m.b.next != -1)))) ∧ Kp noB w w' := by
  have lR := h.lt
  have c0 := h.cellA (ch_asks a (k := 0) (by decide))
  have c1 := h.cellA (ch_asks a (k := 1) (by decide))
  have c2 := h.cellA (ch_asks a (k := 2) (by decide))
  have c3 := h.cellA (ch_asks a (k := 3) (by decide))
  have c4 := h.cellA (ch_asks a (k := 4) (by decide))
  have c5 := h.cellA (ch_asks a (k := 5) (by decide))
  have c6 := h.cellA (ch_asks a (k := 6) (by decide))
  have c7 := h.cellA (ch_asks a (k := 7) (by decide))
  have HT : Hid (∀ w, RAt w R a b → _) := fun w h => tellsB w R a b m.b h hb k.b
  have HR : Hid (RAt w R a b) := h
  have ge : decide (m.b.next ≥ 0) = (m.b.next != -1) := by
    have := next_bd k.b
    by_cases g : m.b.next = -1
    · rw [g]; rfl
    · have g1 : (m.b.next != -1) = true := by simp [g]
      rw [g1]; exact decide_eq_true (by omega)
  obtain ⟨X, hX⟩ : ∃ X, X = (m.b.next != -1) := ⟨_, rfl⟩
  rw [← hX] at ge ⊢
  have hk : Hid (∀ o1 o2, RAt ((w.alloc o1).alloc o2) R a b) := fun o1 o2 => (h.kept (Kp.alloc noB _ _) id).kept (Kp.alloc noB _ _) id
  clear h hb k hX
  go_enter Try.func31, Try.ntmps31
  go_wp2_with fail
  refine Calls.mono (HT.out _ (hk.out _ _)) ?_; rintro e w1 ⟨rfl, k1⟩
  have hq0 := row8_kept (row8_old w (fun _ => false) (.cells (row8 a.asks) 50)) k1
  have hq1 := row8_kept (row8_new2 w a.asks (.cells (row8 (fun _ => false)) 50)) k1
  obtain ⟨d0, d1, d2, d3, d4, d5, d6, d7⟩ := hq1.cells
  obtain ⟨e0, e1, e2, e3, e4, e5, e6, e7⟩ := hq0.cells
  have z1 := hq1.fz 2
  have y0 := hq0.fz 0
  have y1 := hq0.fz 1
  have y2 := hq0.fz 2
  have y3 := hq0.fz 3
  have y4 := hq0.fz 4
  have y5 := hq0.fz 5
  have y6 := hq0.fz 6
  have y7 := hq0.fz 7
  have K1 : Hid (Kp noB w w1) := ((Kp.alloc noB _ _).trans (Kp.alloc noB _ _)).trans k1
  clear hq0 hq1 k1 c0 c1 c2 c3 c4 c5 c6 c7 HT HR hk lR
  go_wp2
  refine bodyPost_ret (v := .agg (row8 (upd a.asks 2 X))) ?_ rfl ⟨rfl, ?_⟩
  · simp [results, Try.results31, go_sem, row8, upd, *]
  · exact ((((((((K1.out.new (by omega) _).new (Nat.le_refl _) _).new (Nat.le_refl _) _).new (Nat.le_refl _) _).new (Nat.le_refl _) _).new (Nat.le_refl _) _).new (Nat.le_refl _) _).new (Nat.le_refl _) _).new (Nat.le_refl _) _
end Go.Proofs.Ytfpgijdfbgfkcaa
