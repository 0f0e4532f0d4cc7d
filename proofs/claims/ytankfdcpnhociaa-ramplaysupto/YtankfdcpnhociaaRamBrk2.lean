/- The breaking of patterns in the library's sort at uint32: the three exchanges. -/
import Derived.Test.YtankfdcpnhociaaRamBrk
namespace Go.Proofs.Ytankfdcpnhociaa
open Go.ChangeShapes Go.WideShapes Go.ChangeAt Go.RowKit Go.Maps Go.Shelf
open Go.Sort (swp ltInt PermIn SortedIn)
set_option linter.unusedVariables false

def Reg (w : World) (rb : Nat) : Prop := ∃ v : Nat, v < 18446744073709551616 ∧ w.heap[rb]? = some (.cells #[.int .u64 v] 98 (0, 0))
theorem Reg.kept {w w' : World} {rb blk : Nat} (h : Reg w rb) (k : Kp (oneB blk) w w') (hne : blk ≠ rb) : Reg w' rb := by
  obtain ⟨v, hv, hh⟩ := h
  exact ⟨v, hv, (k.block rb (Array.getElem?_eq_some_iff.1 hh).1 (fun e => hne e.symm)).trans hh⟩
def BrkPost (w : World) (blk a b : Nat) (d : Array Int) (e : Ending) (w' : World) : Prop :=
  e = .returned (.tuple #[]) ∧ ∃ d', PermIn a b d d' ∧ Rw w' blk d' ∧ Kp (oneB blk) w w'

set_option maxRecDepth 100000 in
set_option maxHeartbeats 2000000 in
theorem brk_any (w : World) (blk cap a b : Nat) (d : Array Int) (h : Rw w blk d) (hab : a + 12 < b) (hb : b ≤ d.size) (hs : d.size ≤ 16384) :
    Calls Try.prog 52 #[.slice (some ⟨blk, 0, none⟩) d.size cap, .int .i64 a, .int .i64 b] w (BrkPost w blk a b d) := by
  obtain ⟨L, hL⟩ : ∃ L, L = d.size := ⟨_, rfl⟩
  obtain ⟨n, hn⟩ : ∃ n : Nat, n = b - a := ⟨_, rfl⟩
  obtain ⟨f, hf⟩ : ∃ f : Nat, f = n / 4 := ⟨_, rfl⟩
  obtain ⟨m, hm⟩ : ∃ m : Nat, m = a + f * 2 := ⟨_, rfl⟩
  obtain ⟨i0, hi0⟩ : ∃ i0 : Nat, i0 = m - 1 := ⟨_, rfl⟩
  obtain ⟨i2, hi2⟩ : ∃ i2 : Nat, i2 = m + 1 := ⟨_, rfl⟩
  have e1 : (b : Int) - (a : Int) = (n : Int) := by omega
  have e2 : Int.tdiv (n : Int) 4 = (f : Int) := by rw [hf]; rfl
  have e6 : (n : Int) / 4 = (f : Int) := by omega
  have e4 : (a : Int) + (f : Int) * 2 = (m : Int) := by omega
  have e7 : (m : Int) - 1 = (i0 : Int) := by omega
  have e8 : (m : Int) + 1 = (i2 : Int) := by omega
  have l8 : (8 : Int) ≤ (n : Int) := by omega
  have j1 : a ≤ i0 := by omega
  have j2 : i2 < b := by omega
  have j3 : i0 ≤ i2 := by omega
  have hdb : b ≤ d.size := hb
  rw [← hL] at hb hs ⊢
  have HL : Hid (L = d.size) := hL
  have hlt := h.lt
  have hne : blk ≠ w.heap.size := by omega
  have n1 : 1 ≤ n := by omega
  have n2 : n ≤ 16384 := by omega
  clear hL hf hm hi0 hi2 hn
  obtain ⟨wa, hwa⟩ : ∃ wa, wa = w.alloc (.cells #[.int .u64 n] 98) := ⟨_, rfl⟩
  have hr0 : Rw wa blk d := by rw [hwa]; exact h.heap (Below.heap_alloc _ _ _ hlt)
  have hreg : Reg wa w.heap.size := by rw [hwa]; exact ⟨n, by omega, (MapKept.heap_alloc w _).1⟩
  have k0 : Kp (oneB blk) w wa := by rw [hwa]; exact Kp.alloc _ _ _
  have c1 := npow_mid wa n n1 n2
  have HWA : Hid (wa = w.alloc (.cells #[.int .u64 n] 98)) := hwa
  clear hwa
  rw [HWA.out] at c1
  go_enter Try.func52, Try.ntmps52
  go_wp2_with fail
  refine c1.mono ?_; rintro e w1 ⟨⟨k, rfl, hk⟩, hw⟩
  rw [← HWA.out] at hw
  subst hw
  obtain ⟨M, hM⟩ : ∃ M : Nat, M = 2 ^ k := ⟨_, rfl⟩
  have hM1 : M ≤ 2 * n := by rw [hM]; exact hk.2
  have hM0 : 1 ≤ M := by rw [hM]; exact Nat.one_le_two_pow
  rw [← hM]
  clear hM hk c1
  obtain ⟨M1, hM2⟩ : ∃ M1 : Nat, M1 = M - 1 := ⟨_, rfl⟩
  have eM : (M : Int) - 1 = (M1 : Int) := by omega
  have hM3 : M1 < 2 * n := by omega
  clear hM2 hM1
  go_wp2
  go_loopw [9] (fun vi wr => ∃ (i : Nat) (dk : Array Int), vi = .int .i64 i ∧ i0 ≤ i ∧ i ≤ i2 + 1 ∧ dk.size = L ∧ PermIn a b d dk ∧ Rw wr blk dk ∧ Reg wr w.heap.size ∧ Kp (oneB blk) w wr) (fun vi _ => (i2 + 1 - intOf vi).toNat)
  case atStart => exact ⟨i0, d, rfl, by omega, by omega, HL.out.symm, Go.Sort.permIn_refl _ _ _, hr0, hreg, k0⟩
  case round =>
    obtain ⟨i, dk, rfl, hi1, hi2, sz, hp, hr, hg, kk⟩ := hrel
    by_cases hlt2 : (i : Int) ≤ (i2 : Int)
    · obtain ⟨v, hv, hgv⟩ := hg
      have cN := next_any wr w.heap.size v hgv hv
      go_wp2_with fail
      refine cN.mono ?_; rintro e w2 ⟨u, rfl, hu, hgu, k2⟩
      have hg2 : Reg w2 w.heap.size := ⟨u, hu, hgu⟩
      have hr2 : Rw w2 blk dk := hr.other k2 hne
      have k3 : Kp (oneB blk) w w2 := kk.over k2 (fun j hj e => by unfold oneB at e; omega)
      obtain ⟨o, ho⟩ : ∃ o : Nat, o = u &&& M1 := ⟨_, rfl⟩
      have eo : bits .and .u64 (u : Int) (M1 : Int) = (o : Int) := by rw [bits_and_u64_nat _ _ hu (by omega), ho]
      have ho1 : o < 2 * n := by rw [ho]; exact Nat.lt_of_le_of_lt Nat.and_le_right hM3
      clear ho cN hgv hgu kk k2 hr
      obtain ⟨G, hG⟩ : ∃ G : Nat → Int, ∀ t, G t = dk[t]! := ⟨fun t => dk[t]!, fun _ => rfl⟩
      have HG : Hid (∀ t, G t = dk[t]!) := hG
      clear hG
      by_cases hon : (n : Int) ≤ (o : Int)
      · obtain ⟨p, hp2⟩ : ∃ p : Nat, p = o - n := ⟨_, rfl⟩
        have ep : (o : Int) - (n : Int) = (p : Int) := by omega
        have hp3 : p < n := by omega
        clear hp2
        obtain ⟨q, hq⟩ : ∃ q : Nat, q = a + p := ⟨_, rfl⟩
        have q0 : a ≤ q := by omega
        have q1 : q < b := by omega
        have eq1 : (a : Int) + (p : Int) = (q : Int) := by omega
        clear hq
        have bi : (i : Int) < (L : Int) := by omega
        have bj : (q : Int) < (L : Int) := by omega
        have xi : w2.cell? ⟨blk, i, none⟩ = some (.int .u32 (G i)) := by rw [HG.out]; exact hr2.cell (by omega)
        have yi := hr2.frozen i
        by_cases hiq : i = q
        · subst hiq
          go_wp2
          go_region
          all_goals go_wp2
          go_roundw
          case rel => exact ⟨i + 1, swp dk i i, by go_num, by omega, by omega, by rw [Go.Sort.size_swp]; exact sz, Go.Sort.permIn_trans _ _ _ _ _ hp (Go.Sort.swp_permIn dk a b i i (by omega) (by omega) (by omega) (by omega) (by omega)), hr2.swapN HG.out (by omega) (by omega) _, hg2.kept (kp_swapN (Kp.refl _ w2) _ _) hne, kp_swapN k3 _ _⟩
          case measure => simp [intOf]; omega
        · have hne' : ¬ q = i := by omega
          have xj : w2.cell? ⟨blk, q, none⟩ = some (.int .u32 (G q)) := by rw [HG.out]; exact hr2.cell (by omega)
          have yj := hr2.frozen q
          go_wp2
          go_region
          all_goals go_wp2
          go_roundw
          case rel => exact ⟨i + 1, swp dk i q, by go_num, by omega, by omega, by rw [Go.Sort.size_swp]; exact sz, Go.Sort.permIn_trans _ _ _ _ _ hp (Go.Sort.swp_permIn dk a b i q (by omega) (by omega) (by omega) (by omega) (by omega)), hr2.swapN HG.out (by omega) (by omega) _, hg2.kept (kp_swapN (Kp.refl _ w2) _ _) hne, kp_swapN k3 _ _⟩
          case measure => simp [intOf]; omega
      · have hp3 : o < n := by omega
        obtain ⟨q, hq⟩ : ∃ q : Nat, q = a + o := ⟨_, rfl⟩
        have q0 : a ≤ q := by omega
        have q1 : q < b := by omega
        have eq1 : (a : Int) + (o : Int) = (q : Int) := by omega
        clear hq
        have bi : (i : Int) < (L : Int) := by omega
        have bj : (q : Int) < (L : Int) := by omega
        have xi : w2.cell? ⟨blk, i, none⟩ = some (.int .u32 (G i)) := by rw [HG.out]; exact hr2.cell (by omega)
        have yi := hr2.frozen i
        by_cases hiq : i = q
        · subst hiq
          go_wp2
          go_region
          all_goals go_wp2
          go_roundw
          case rel => exact ⟨i + 1, swp dk i i, by go_num, by omega, by omega, by rw [Go.Sort.size_swp]; exact sz, Go.Sort.permIn_trans _ _ _ _ _ hp (Go.Sort.swp_permIn dk a b i i (by omega) (by omega) (by omega) (by omega) (by omega)), hr2.swapN HG.out (by omega) (by omega) _, hg2.kept (kp_swapN (Kp.refl _ w2) _ _) hne, kp_swapN k3 _ _⟩
          case measure => simp [intOf]; omega
        · have hne' : ¬ q = i := by omega
          have xj : w2.cell? ⟨blk, q, none⟩ = some (.int .u32 (G q)) := by rw [HG.out]; exact hr2.cell (by omega)
          have yj := hr2.frozen q
          go_wp2
          go_region
          all_goals go_wp2
          go_roundw
          case rel => exact ⟨i + 1, swp dk i q, by go_num, by omega, by omega, by rw [Go.Sort.size_swp]; exact sz, Go.Sort.permIn_trans _ _ _ _ _ hp (Go.Sort.swp_permIn dk a b i q (by omega) (by omega) (by omega) (by omega) (by omega)), hr2.swapN HG.out (by omega) (by omega) _, hg2.kept (kp_swapN (Kp.refl _ w2) _ _) hne, kp_swapN k3 _ _⟩
          case measure => simp [intOf]; omega
    · go_wp2
      go_end0
      exact ⟨rfl, dk, hp, hr, kk⟩
end Go.Proofs.Ytankfdcpnhociaa
