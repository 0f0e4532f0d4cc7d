/- A row of numbers that is sorted in place: how it lies in the world, what an exchange does; cmp.Less and insertion sort at uint32. -/
import Derived.Test.YtankfdcpnhociaaRamSort1
import Derived.Sort.LotA
import Derived.Sort.LotB
import Derived.Sort.LotC
import Derived.BigGuard
import Derived.BigCall
import Derived.CellFam
import Derived.BigRegion
namespace Go.Proofs.Ytankfdcpnhociaa
open Go.ChangeShapes Go.WideShapes Go.ChangeAt Go.RowKit Go.Maps Go.Shelf
open Go.Sort (swp ltInt insInner insOuter insertionSort PermIn SortedIn)
set_option linter.unusedVariables false

/-- The numbers of d stand at the head of block blk. -/
def Rw (w : World) (blk : Nat) (d : Array Int) : Prop :=
  ∃ cur, w.heap[blk]? = some (.cells cur 32 (0, 0)) ∧ d.size ≤ cur.size ∧ ∀ j, j < d.size → cur[j]? = some (.int .u32 d[j]!)

theorem Rw.cell {w : World} {blk : Nat} {d : Array Int} (h : Rw w blk d) {j : Nat} (hj : j < d.size) : w.cell? ⟨blk, j, none⟩ = some (.int .u32 d[j]!) := by
  obtain ⟨cur, h1, h2, h3⟩ := h
  rw [cell_at h1]; exact h3 j hj
theorem Rw.frozen {w : World} {blk : Nat} {d : Array Int} (h : Rw w blk d) (j : Nat) : w.frozen? ⟨blk, j, none⟩ = false := by
  obtain ⟨cur, h1, h2, h3⟩ := h
  exact frozen_at h1
theorem Rw.heap {w w' : World} {blk : Nat} {d : Array Int} (h : Rw w blk d) (e : w'.heap[blk]? = w.heap[blk]?) : Rw w' blk d := by
  obtain ⟨cur, h1, h2⟩ := h
  exact ⟨cur, e.trans h1, h2⟩
theorem Rw.drewN {w : World} {blk : Nat} {d : Array Int} (h : Rw w blk d) (n : Nat) : Rw (w.drewN n) blk d := h.heap rfl
theorem Rw.lt {w : World} {blk : Nat} {d : Array Int} (h : Rw w blk d) : blk < w.heap.size := by
  obtain ⟨cur, h1, _⟩ := h
  exact (Array.getElem?_eq_some_iff.1 h1).1

theorem Rw.set {w : World} {blk : Nat} {d : Array Int} (h : Rw w blk d) {i : Nat} (hi : i < d.size) (x : Int) : Rw (w.setCell ⟨blk, i, none⟩ (.int .u32 x)) blk (d.setIfInBounds i x) := by
  obtain ⟨cur, h1, h2, h3⟩ := h
  refine ⟨cur.setIfInBounds i (.int .u32 x), heap_setCell_at h1 _, by simpa using h2, fun j hj => ?_⟩
  have hj' : j < d.size := by simpa using hj
  rw [Array.getElem?_setIfInBounds]
  by_cases e : i = j
  · subst e
    rw [if_pos rfl, if_pos (by omega)]
    simp [hj']
  · rw [if_neg e, h3 j hj']
    simp [hj', e]

/-- An exchange. -/
theorem Rw.swap {w : World} {blk : Nat} {d : Array Int} (h : Rw w blk d) {i j : Nat} (hi : i < d.size) (hj : j < d.size) : Rw ((w.setCell ⟨blk, i, none⟩ (.int .u32 d[j]!)).setCell ⟨blk, j, none⟩ (.int .u32 d[i]!)) blk (swp d i j) :=
  (h.set hi _).set (by simpa using hj) _

def oneB (blk k : Nat) : Prop := k = blk

/-- An exchange, draws on. -/
theorem Rw.swapN {w : World} {blk : Nat} {d : Array Int} (h : Rw w blk d) {G : Nat → Int} (hG : ∀ t, G t = d[t]!) {i j : Nat} (hi : i < d.size) (hj : j < d.size) (n : Nat) :
    Rw (((w.drewN n).setCell ⟨blk, i, none⟩ (.int .u32 (G j))).setCell ⟨blk, j, none⟩ (.int .u32 (G i))) blk (swp d i j) := by
  rw [hG, hG]; exact (h.drewN n).swap hi hj

theorem kp_set {w w' : World} {blk i : Nat} (h : Kp (oneB blk) w w') (v : Value) : Kp (oneB blk) w (w'.setCell ⟨blk, i, none⟩ v) := h.trans (Kp.setCell (S := oneB blk) w' (p := ⟨blk, i, none⟩) rfl v)

theorem kp_swapN {w w' : World} {blk i j n : Nat} (h : Kp (oneB blk) w w') (u v : Value) : Kp (oneB blk) w (((w'.drewN n).setCell ⟨blk, i, none⟩ u).setCell ⟨blk, j, none⟩ v) := kp_set (kp_set (h.drewN n) u) v

theorem nan_any (w : World) (x : Int) : Calls Try.prog 66 #[.int .u32 x] w fun e w' => e = .returned (.bool false) ∧ w' = w := by
  go_enter Try.func66, Try.ntmps66
  go_wp2
  go_ret
  exact ⟨ret_bool (by simp), rfl⟩

theorem less_any (w : World) (x y : Int) : Calls Try.prog 56 #[.int .u32 x, .int .u32 y] w fun e w' => e = .returned (.bool (ltInt x y)) ∧ w' = w := by
  have c := nan_any w x
  go_enter Try.func56, Try.ntmps56
  go_wp2_with fail
  refine c.mono ?_; rintro e w' ⟨rfl, hw⟩; replace hw := hw.symm; subst hw
  go_wp2
  go_ret
  exact ⟨rfl, rfl⟩

theorem inner_go (a j : Nat) (d : Array Int) (hj : a < j) (hl : ltInt d[j]! d[j - 1]! = true) : insInner ltInt a j d = insInner ltInt a (j - 1) (swp d j (j - 1)) := by
  cases j with
  | zero => omega
  | succ k =>
    simp only [Nat.add_sub_cancel] at hl ⊢
    rw [insInner, if_pos (by simp [hl]; omega)]
theorem inner_stop (a j : Nat) (d : Array Int) (h : j ≤ a ∨ ltInt d[j]! d[j - 1]! = false) : insInner ltInt a j d = d := by
  cases j with
  | zero => rw [insInner]
  | succ k =>
    simp only [Nat.add_sub_cancel] at h
    rw [insInner, if_neg]
    rcases h with h | h
    · simp; omega
    · simp [h]

set_option maxRecDepth 100000 in
set_option maxHeartbeats 2000000 in
theorem ins_any (w : World) (blk cap a b : Nat) (d : Array Int) (h : Rw w blk d) (hab : a ≤ b) (hb : b ≤ d.size) (hs : d.size ≤ 16384) :
    Calls Try.prog 50 #[.slice (some ⟨blk, 0, none⟩) d.size cap, .int .i64 a, .int .i64 b] w fun e w' =>
      e = .returned (.tuple #[]) ∧ Rw w' blk (insertionSort ltInt d a b) ∧ Kp (oneB blk) w w' := by
  obtain ⟨L, hL⟩ : ∃ L, L = d.size := ⟨_, rfl⟩
  rw [← hL] at hb hs ⊢
  have HL : Hid (L = d.size) := hL
  clear hL
  go_enter Try.func50, Try.ntmps50
  go_wp2
  go_loopw [6] (fun vi wr => ∃ (i : Nat) (dk : Array Int), vi = .int .i64 i ∧ a < i ∧ i ≤ b + 1 ∧ dk.size = L ∧ Rw wr blk dk ∧ insOuter ltInt a b i dk = insertionSort ltInt d a b ∧ Kp (oneB blk) w wr) (fun vi _ => b + 1 - (intOf vi).toNat)
  case atStart => exact ⟨a + 1, d, by go_num, by omega, by omega, HL.out.symm, h, rfl, Kp.refl _ _⟩
  case round =>
    obtain ⟨i, dk, rfl, hai, hib, hsk, hrk, hO, kk⟩ := hrel
    by_cases hilt : i < b
    · have HO : Hid (insOuter ltInt a b (i + 1) (insInner ltInt a i dk) = insertionSort ltInt d a b) := by
        show _ = _
        rw [← hO]; conv => rhs; rw [insOuter, if_pos hilt]
      clear hO
      go_wp2
      go_loopw [7] (fun vj wr2 => ∃ (j : Nat) (dj : Array Int), vj = .int .i64 j ∧ a ≤ j ∧ j ≤ i ∧ dj.size = L ∧ Rw wr2 blk dj ∧ insInner ltInt a j dj = insInner ltInt a i dk ∧ Kp (oneB blk) w wr2) (fun vj _ => (intOf vj).toNat)
      case atStart => exact ⟨i, dk, rfl, by omega, Nat.le_refl _, hsk, hrk, rfl, kk⟩
      case round =>
        obtain ⟨j, dj, rfl, haj, hji, hsj, hrj, hI, kj⟩ := hrel
        obtain ⟨G, hG⟩ : ∃ G : Nat → Int, ∀ t, G t = dj[t]! := ⟨fun t => dj[t]!, fun _ => rfl⟩
        have hcw : ∀ t, t < L → wr.cell? ⟨blk, t, none⟩ = some (.int .u32 (G t)) := fun t ht => by rw [hG]; exact hrj.cell (by omega)
        have hfw : ∀ t, t < L → wr.frozen? ⟨blk, t, none⟩ = false := fun t _ => hrj.frozen t
        have HG : Hid (∀ t, G t = dj[t]!) := hG
        have HI : Hid (insInner ltInt a j dj = insInner ltInt a i dk) := hI
        clear hG hI
        have q1 : (j : Int) < (L : Int) := by omega
        go_wp2
        by_cases hja : a < j
        · have q2 : (0 : Int) ≤ (j : Int) - 1 := by omega
          have q3 : (j : Int) - 1 < (L : Int) := by omega
          have x1 := hcw j (by omega)
          have x2 := hcw (j - 1) (by omega)
          have y1 := hfw j (by omega)
          have y2 := hfw (j - 1) (by omega)
          go_quiet (first | (go_at_call 56; refine Calls.quiet_of_same (less_any _ _ _)))
          go_wp2
          · have hl : ltInt (G j) (G (j - 1)) = true := by assumption
            go_region
            all_goals go_wp2
            go_roundw
            case rel => exact ⟨j - 1, swp dj j (j - 1), by congr 1; omega, by omega, by omega, by rw [Go.Sort.size_swp]; exact hsj, hrj.swapN HG.out (by omega) (by omega) _, by rw [← HI.out, inner_go a j dj hja (by rw [← HG.out, ← HG.out]; exact hl)], kp_swapN kj _ _⟩
            case measure => simp [intOf]; omega
          · have hl : ltInt (G j) (G (j - 1)) = false := by assumption
            go_roundw
            case rel => exact ⟨i + 1, dj, by go_num, by omega, by omega, hsj, hrj.drewN _, by rw [← HO.out, ← HI.out, inner_stop a j dj (Or.inr (by rw [← HG.out, ← HG.out]; exact hl))], kj.drewN _⟩
            case measure => simp [intOf]; omega
        · go_quiet (fail)
          go_wp2
          go_roundw
          case rel => exact ⟨i + 1, dj, by go_num, by omega, by omega, hsj, hrj.drewN _, by rw [← HO.out, ← HI.out, inner_stop a j dj (Or.inl (by omega))], kj.drewN _⟩
          case measure => simp [intOf]; omega
    · have e : insOuter ltInt a b i dk = dk := by rw [insOuter, if_neg hilt]
      rw [e] at hO
      go_wp2
      go_end0
      exact ⟨rfl, hO ▸ hrk, kk⟩
end Go.Proofs.Ytankfdcpnhociaa
