/- The choice of a pivot, and the turning round of a row, in the library's sort at uint32. -/
import Derived.Test.YtankfdcpnhociaaRamPiv
namespace Go.Proofs.Ytankfdcpnhociaa
open Go.ChangeShapes Go.WideShapes Go.ChangeAt Go.RowKit Go.Maps Go.Shelf
open Go.Sort (swp ltInt PermIn SortedIn)
set_option linter.unusedVariables false

def Chosen (w : World) (blk a b : Nat) (d : Array Int) (e : Ending) (w' : World) : Prop :=
  ∃ x t : Nat, e = .returned (.tuple #[.int .i64 x, .int .i64 t]) ∧ a ≤ x ∧ x < b ∧ t ≤ 2 ∧ Rw w' blk d ∧ Kp noB w w'

set_option maxRecDepth 100000 in
set_option maxHeartbeats 2000000 in
theorem choose_any (w : World) (blk cap a b : Nat) (d : Array Int) (h : Rw w blk d) (hab : a + 12 < b) (hb : b ≤ d.size) (hs : d.size ≤ 16384) :
    Calls Try.prog 53 #[.slice (some ⟨blk, 0, none⟩) d.size cap, .int .i64 a, .int .i64 b] w (Chosen w blk a b d) := by
  obtain ⟨l, hl⟩ : ∃ l : Nat, l = b - a := ⟨_, rfl⟩
  obtain ⟨f, hf⟩ : ∃ f : Nat, f = l / 4 := ⟨_, rfl⟩
  obtain ⟨i, hi⟩ : ∃ i : Nat, i = a + f := ⟨_, rfl⟩
  obtain ⟨j, hj⟩ : ∃ j : Nat, j = a + f * 2 := ⟨_, rfl⟩
  obtain ⟨k, hk⟩ : ∃ k : Nat, k = a + f * 3 := ⟨_, rfl⟩
  have e1 : (b : Int) - (a : Int) = (l : Int) := by omega
  have e2 : Int.tdiv (l : Int) 4 = (f : Int) := by rw [hf]; rfl
  have e3 : (a : Int) + (f : Int) = (i : Int) := by omega
  have e4 : (a : Int) + (f : Int) * 2 = (j : Int) := by omega
  have e5 : (a : Int) + (f : Int) * 3 = (k : Int) := by omega
  have e6 : (l : Int) / 4 = (f : Int) := by omega
  have b1 : i + 1 < b ∧ a + 1 ≤ i ∧ j + 1 < b ∧ a + 1 ≤ j ∧ k + 1 < b ∧ a + 1 ≤ k := by omega
  have l8 : (8 : Int) ≤ (l : Int) := by omega
  have hlt := h.lt
  have hnew : Cnt (w.alloc (.cells #[.int .i64 0] 3)) w.heap.size 0 := (MapKept.heap_alloc w _).1
  have hr0 : Rw (w.alloc (.cells #[.int .i64 0] 3)) blk d := h.heap (Below.heap_alloc _ _ _ hlt)
  have k0 : Kp noB w (w.alloc (.cells #[.int .i64 0] 3)) := Kp.alloc _ _ _
  have hne : blk ≠ w.heap.size := by omega
  have up : ∀ j, j < w.heap.size → oneB w.heap.size j → noB j := fun j hj e => by unfold oneB at e; omega
  obtain ⟨b11, b12, b13, b14, b15, b16⟩ := b1
  clear hl hf hi hj hk
  obtain ⟨wa, hwa⟩ : ∃ wa, wa = w.alloc (.cells #[.int .i64 0] 3) := ⟨_, rfl⟩
  rw [← hwa] at hnew hr0 k0
  have HWA : Hid (wa = w.alloc (.cells #[.int .i64 0] 3)) := hwa
  clear hwa
  by_cases h50 : (50 : Int) ≤ (l : Int)
  · have c1 := medianAdj_any wa blk cap w.heap.size a b 0 i d hr0 hnew (by omega) hne b12 b11 hb hs
    rw [HWA.out] at c1
    go_enter Try.func53, Try.ntmps53
    go_wp2_with fail
    refine c1.mono ?_; rintro e w1 ⟨x1, u1, rfl, x10, x11, u11, hc1, hr1, k1⟩
    rw [← HWA.out] at k1
    replace k1 := k0.over k1 up
    go_wp2_with fail
    refine (medianAdj_any w1 blk cap w.heap.size a b u1 j d hr1 hc1 (by omega) hne b14 b13 hb hs).mono ?_; rintro e w2 ⟨x2, u2, rfl, x20, x21, u21, hc2, hr2, k2⟩
    replace k2 := k1.over k2 up
    go_wp2_with fail
    refine (medianAdj_any w2 blk cap w.heap.size a b u2 k d hr2 hc2 (by omega) hne b16 b15 hb hs).mono ?_; rintro e w3 ⟨x3, u3, rfl, x30, x31, u31, hc3, hr3, k3⟩
    replace k3 := k2.over k3 up
    go_wp2_with fail
    refine (median_any w3 blk cap w.heap.size a b u3 x1 x2 x3 d hr3 hc3 (by omega) hne x10 x11 x20 x21 x30 x31 hb hs).mono ?_; rintro e w4 ⟨x4, u4, rfl, x40, x41, u41, hc4, hr4, k4⟩
    replace k4 := k3.over k4 up
    have cc := hc4.cell
    clear hc4 c1
    go_wp2
    · exact bodyPost_ret (v := .tuple #[.int .i64 x4, .int .i64 (1 : Nat)]) (by simp [results, Try.results53, go_sem]) rfl ⟨x4, 1, rfl, x40, x41, by omega, hr4, k4⟩
    · exact bodyPost_ret (v := .tuple #[.int .i64 x4, .int .i64 (2 : Nat)]) (by simp [results, Try.results53, go_sem]) rfl ⟨x4, 2, rfl, x40, x41, by omega, hr4, k4⟩
    · exact bodyPost_ret (v := .tuple #[.int .i64 x4, .int .i64 (0 : Nat)]) (by simp [results, Try.results53, go_sem]) rfl ⟨x4, 0, rfl, x40, x41, by omega, hr4, k4⟩
  · have c1 := median_any wa blk cap w.heap.size a b 0 i j k d hr0 hnew (by omega) hne (by omega) (by omega) (by omega) (by omega) (by omega) (by omega) hb hs
    rw [HWA.out] at c1
    go_enter Try.func53, Try.ntmps53
    go_wp2_with fail
    refine c1.mono ?_; rintro e w4 ⟨x4, u4, rfl, x40, x41, u41, hc4, hr4, k4⟩
    rw [← HWA.out] at k4
    replace k4 := k0.over k4 up
    have cc := hc4.cell
    clear hc4 c1
    go_wp2
    · exact bodyPost_ret (v := .tuple #[.int .i64 x4, .int .i64 (1 : Nat)]) (by simp [results, Try.results53, go_sem]) rfl ⟨x4, 1, rfl, x40, x41, by omega, hr4, k4⟩
    · exact bodyPost_ret (v := .tuple #[.int .i64 x4, .int .i64 (0 : Nat)]) (by simp [results, Try.results53, go_sem]) rfl ⟨x4, 0, rfl, x40, x41, by omega, hr4, k4⟩

set_option maxRecDepth 100000 in
set_option maxHeartbeats 2000000 in
theorem rev_any (w : World) (blk cap a b : Nat) (d : Array Int) (h : Rw w blk d) (hab : a < b) (hb : b ≤ d.size) (hs : d.size ≤ 16384) :
    Calls Try.prog 54 #[.slice (some ⟨blk, 0, none⟩) d.size cap, .int .i64 a, .int .i64 b] w fun e w' =>
      e = .returned (.tuple #[]) ∧ ∃ d', PermIn a b d d' ∧ Rw w' blk d' ∧ Kp (oneB blk) w w' := by
  obtain ⟨L, hL⟩ : ∃ L, L = d.size := ⟨_, rfl⟩
  have hdb : b ≤ d.size := hb
  rw [← hL] at hb hs ⊢
  have HL : Hid (L = d.size) := hL
  clear hL
  go_enter Try.func54, Try.ntmps54
  go_wp2
  go_loopw [6, 7] (fun vi vj wr => ∃ (i j : Nat) (dk : Array Int), vi = .int .i64 i ∧ vj = .int .i64 j ∧ a ≤ i ∧ j < b ∧ i ≤ j + 1 ∧ dk.size = L ∧ PermIn a b d dk ∧ Rw wr blk dk ∧ Kp (oneB blk) w wr) (fun vi vj _ => (intOf vj + 1 - intOf vi).toNat)
  case atStart => exact ⟨a, b - 1, d, rfl, by congr 1; omega, by omega, by omega, by omega, HL.out.symm, Go.Sort.permIn_refl _ _ _, h, Kp.refl _ _⟩
  case round =>
    obtain ⟨i, j, dk, rfl, rfl, hai, hjb, hij, sz, hp, hr, kk⟩ := hrel
    by_cases hlt : i < j
    · have hlt' : (i : Int) < (j : Int) := by omega
      obtain ⟨G, hG⟩ : ∃ G : Nat → Int, ∀ t, G t = dk[t]! := ⟨fun t => dk[t]!, fun _ => rfl⟩
      have xi : wr.cell? ⟨blk, i, none⟩ = some (.int .u32 (G i)) := by rw [hG]; exact hr.cell (by omega)
      have xj : wr.cell? ⟨blk, j, none⟩ = some (.int .u32 (G j)) := by rw [hG]; exact hr.cell (by omega)
      have yi := hr.frozen i
      have yj := hr.frozen j
      have bi : (i : Int) < (L : Int) := by omega
      have bj : (j : Int) < (L : Int) := by omega
      have hne : ¬ i = j := by omega
      have hne' : ¬ j = i := by omega
      have HG : Hid (∀ t, G t = dk[t]!) := hG
      clear hG
      go_wp2
      go_region
      all_goals go_wp2
      go_roundw
      case rel => exact ⟨i + 1, j - 1, swp dk i j, by go_num, by congr 1; omega, by omega, by omega, by omega, by rw [Go.Sort.size_swp]; exact sz, Go.Sort.permIn_trans _ _ _ _ _ hp (Go.Sort.swp_permIn dk a b i j (by omega) (by omega) (by omega) (by omega) (by omega)), hr.swapN HG.out (by omega) (by omega) _, kp_swapN kk _ _⟩
      case measure => simp [intOf]; omega
    · have hlt' : ¬ (i : Int) < (j : Int) := by omega
      go_wp2
      go_end0
      exact ⟨rfl, dk, hp, hr, kk⟩
end Go.Proofs.Ytankfdcpnhociaa
