/- The statements' own Disk: its bytes. -/
import Derived.Test.YtddalplpmgmplaaIdW
namespace Go.Proofs.Ytddalplpmgmplaa
open Go.ChangeShapes Go.WideShapes Go.ChangeAt Go.RowKit
set_option linter.unusedVariables false

def foldN (s : Int) : Int := if s < 0 then -(s + 1) else s
/-- How many sectors. -/
def secN (s : Int) : Nat := (foldN s % 5).toNat
theorem secN_lt (s : Int) : secN s < 5 := by unfold secN; omega
def dskS (seed : Int) (i : Nat) : Int := (((i : Int) / 512 + 1) * 16 + (i : Int) % 7 + seed) % 256
theorem dskS_byt (seed : Int) (i : Nat) : byt (dskS seed i) := byt_m

/-- A block of bytes of its own. -/
structure RowB (w : World) (g L : Nat) (bt : Nat → Int) : Prop where
  ex : ∃ cur, w.heap[g]? = some (.cells cur 5 (0, 0)) ∧ cur.size = L ∧ ∀ j, j < L → cur[j]? = some (.int .u8 (bt j))

theorem RowB.at {w : World} {g L : Nat} {bt : Nat → Int} (h : RowB w g L bt) : BytAt w (some ⟨g, 0, none⟩) L bt := fun j hj => by
  obtain ⟨cur, h1, h2, h3⟩ := h.ex
  exact ⟨g, 0, rfl, heap_lt h1, by rw [cell_at h1, Nat.zero_add]; exact h3 j hj⟩

theorem RowB.kept {S : Nat → Prop} {w w' : World} {g L : Nat} {bt : Nat → Int} (h : RowB w g L bt) (k : Kp S w w') (hS : ¬ S g) : RowB w' g L bt := by
  obtain ⟨cur, h1, h2⟩ := h.ex
  exact ⟨cur, heap_kept h1 k hS, h2⟩

theorem RowB.lt {w : World} {g L : Nat} {bt : Nat → Int} (h : RowB w g L bt) : g < w.heap.size := by
  obtain ⟨cur, h1, h2⟩ := h.ex
  exact heap_lt h1

theorem RowB.cell {w : World} {g L : Nat} {bt : Nat → Int} (h : RowB w g L bt) {j : Nat} (hj : j < L) : w.cell? ⟨g, j, none⟩ = some (.int .u8 (bt j)) := by
  obtain ⟨cur, h1, h2, h3⟩ := h.ex
  rw [cell_at h1]
  exact h3 j hj

theorem RowB.fz {w : World} {g L : Nat} {bt : Nat → Int} (h : RowB w g L bt) (j : Nat) : w.frozen? ⟨g, j, none⟩ = false := by
  obtain ⟨cur, h1, h2, h3⟩ := h.ex
  exact frozen_at h1

theorem RowB.set {w : World} {g L : Nat} {bt : Nat → Int} (h : RowB w g L bt) (k : Nat) (x : Int) : RowB (w.setCell ⟨g, k, none⟩ (.int .u8 x)) g L (setB bt k x) := by
  obtain ⟨cur, h1, h2, h3⟩ := h.ex
  refine ⟨_, heap_set h1, by rw [Array.size_setIfInBounds]; exact h2, fun j hj => ?_⟩
  rw [Array.getElem?_setIfInBounds]
  unfold setB
  by_cases e : k = j
  · subst e
    rw [if_pos rfl, if_pos (by omega), if_pos rfl]
  · rw [if_neg e, if_neg (by omega)]
    exact h3 j hj

theorem RowB.of {w : World} {g L : Nat} {bt bt' : Nat → Int} (h : RowB w g L bt) (e : ∀ j, j < L → bt j = bt' j) : RowB w g L bt' := by
  obtain ⟨cur, h1, h2, h3⟩ := h.ex
  exact ⟨cur, h1, h2, fun j hj => by rw [h3 j hj, e j hj]⟩

theorem DskPost.row {w w' : World} {d : Id} (h : DskPost w d w') : RowB w' w.heap.size (512 * d.n) d.D := by
  obtain ⟨h1, _, cur, h3, h4⟩ := h
  refine ⟨cur, h3, h4, fun j hj => ?_⟩
  obtain ⟨b, o, e, _, hc⟩ := h1 j hj
  injection e with e
  injection e with e1 e2
  subst e1; subst e2
  rw [cell_at h3, Nat.zero_add] at hc
  exact hc

theorem made_row (w : World) (n : Nat) : RowB (w.alloc (.cells (made8 n) 5)) w.heap.size n (fun _ => 0) :=
  ⟨_, heap_new _ _, (made8_at n).1, (made8_at n).2⟩

set_option maxHeartbeats 1000000 in
theorem lDisk_any (w : World) (s seed : Int) (s0 : -9223372036854775808 ≤ s) (s1 : s ≤ 9223372036854775807) (hs : byt seed) : Calls Try.prog 17 #[.int .i64 s, .int .u8 seed] w fun e w' => e = .returned (.slice (some ⟨w.heap.size, 0, none⟩) (512 * secN s) (512 * secN s)) ∧ RowB w' w.heap.size (512 * secN s) (dskS seed) ∧ Kp noB w w' := by
  obtain ⟨m, hm⟩ : ∃ m, m = secN s := ⟨_, rfl⟩
  have m5 := secN_lt s
  rw [← hm] at m5 ⊢
  have hmk : ∀ w, _ := fun w => make8 w (512 * m) (by omega)
  have em : ((512 * m : Nat) : Int) = (m : Int) * 512 := by omega
  rw [em] at hmk
  have hw : IntKind.i64.wrap ((m : Int) * 512) = (m : Int) * 512 := by rw [IntKind.wrap_i64]; omega
  have r0 : Hid (RowB (w.alloc (.cells (made8 (512 * m)) 5)) w.heap.size (512 * m) (fun _ => 0)) := made_row w (512 * m)
  have k0 : Hid (Kp noB w (w.alloc (.cells (made8 (512 * m)) 5))) := Kp.alloc _ _ _
  obtain ⟨h0, h1⟩ := hs
  have hq : foldN s % 5 = m := by rw [hm]; unfold secN foldN; split <;> omega
  clear hm
  have hw2 : wrap64 ((m : Int) * 512) = (m : Int) * 512 := IntWalk.wrap64_in _ ⟨by omega, by omega⟩
  by_cases neg : s < 0
  · have hf : -((s + 1).tmod 5) = m := by
      unfold foldN at hq
      rw [if_pos neg] at hq
      rw [← Int.neg_tmod, Int.tmod_eq_emod_of_nonneg (by omega)]
      exact hq
    clear hq
    go_enter Try.func17, Try.ntmps17
    go_wp2
    generalize w.alloc (.cells (made8 (512 * m)) 5) = w0 at r0 k0 ⊢
    clear hmk
    go_loopw [6] (fun s6 wr => ∃ i : Nat, i ≤ 512 * m ∧ s6 = .int .i64 i ∧ RowB wr w.heap.size (512 * m) (fun j => if j < i then dskS seed j else 0) ∧ Kp noB w wr) (fun s6 _ => 512 * m - (intOf s6).toNat)
    case atStart => exact ⟨0, by omega, rfl, r0.out.of (fun j hj => by rw [if_neg (by omega)]), k0.out⟩
    case round =>
      clear r0 k0
      obtain ⟨i, hi, rfl, hr, kr⟩ := hrel
      by_cases hiL : i < 512 * m
      · have c1 := hr.cell hiL
        have z1 := hr.fz i
        have hlt : (i : Int) < ((512 * m : Nat) : Int) := by omega
        have H : Hid (RowB (wr.setCell ⟨w.heap.size, i, none⟩ (.int .u8 (dskS seed i))) w.heap.size (512 * m) (fun j => if j < i + 1 then dskS seed j else 0) ∧ Kp noB w (wr.setCell ⟨w.heap.size, i, none⟩ (.int .u8 (dskS seed i)))) := by
          refine ⟨(hr.set i (dskS seed i)).of (fun j hj => ?_), kr.over (kpB w.heap.size _ _ _) (fun j hj (e : j = _) => by omega)⟩
          unfold setB
          by_cases e : j = i
          · subst e
            rw [if_pos rfl, if_pos (by omega)]
          · rw [if_neg e]
            show (if j < i then dskS seed j else 0) = _
            by_cases e2 : j < i
            · rw [if_pos e2, if_pos (by omega)]
            · rw [if_neg e2, if_neg (by omega)]
        clear hr kr
        go_wp2
        go_roundw
        case rel => exact ⟨i + 1, by omega, by go_num, H.out.1, H.out.2⟩
        case measure => simp [intOf]; omega
      · have e : i = 512 * m := by omega
        subst e
        have H : Hid (RowB wr w.heap.size (512 * m) (dskS seed) ∧ Kp noB w wr) := ⟨hr.of (fun j hj => by rw [if_pos hj]), kr⟩
        clear hr kr
        go_wp2
        go_ret
        exact ⟨rfl, H.out⟩
  · have hf : s % 5 = m := by unfold foldN at hq; rw [if_neg neg] at hq; exact hq
    clear hq
    go_enter Try.func17, Try.ntmps17
    go_wp2
    generalize w.alloc (.cells (made8 (512 * m)) 5) = w0 at r0 k0 ⊢
    clear hmk
    go_loopw [6] (fun s6 wr => ∃ i : Nat, i ≤ 512 * m ∧ s6 = .int .i64 i ∧ RowB wr w.heap.size (512 * m) (fun j => if j < i then dskS seed j else 0) ∧ Kp noB w wr) (fun s6 _ => 512 * m - (intOf s6).toNat)
    case atStart => exact ⟨0, by omega, rfl, r0.out.of (fun j hj => by rw [if_neg (by omega)]), k0.out⟩
    case round =>
      clear r0 k0
      obtain ⟨i, hi, rfl, hr, kr⟩ := hrel
      by_cases hiL : i < 512 * m
      · have c1 := hr.cell hiL
        have z1 := hr.fz i
        have hlt : (i : Int) < ((512 * m : Nat) : Int) := by omega
        have H : Hid (RowB (wr.setCell ⟨w.heap.size, i, none⟩ (.int .u8 (dskS seed i))) w.heap.size (512 * m) (fun j => if j < i + 1 then dskS seed j else 0) ∧ Kp noB w (wr.setCell ⟨w.heap.size, i, none⟩ (.int .u8 (dskS seed i)))) := by
          refine ⟨(hr.set i (dskS seed i)).of (fun j hj => ?_), kr.over (kpB w.heap.size _ _ _) (fun j hj (e : j = _) => by omega)⟩
          unfold setB
          by_cases e : j = i
          · subst e
            rw [if_pos rfl, if_pos (by omega)]
          · rw [if_neg e]
            show (if j < i then dskS seed j else 0) = _
            by_cases e2 : j < i
            · rw [if_pos e2, if_pos (by omega)]
            · rw [if_neg e2, if_neg (by omega)]
        clear hr kr
        go_wp2
        go_roundw
        case rel => exact ⟨i + 1, by omega, by go_num, H.out.1, H.out.2⟩
        case measure => simp [intOf]; omega
      · have e : i = 512 * m := by omega
        subst e
        have H : Hid (RowB wr w.heap.size (512 * m) (dskS seed) ∧ Kp noB w wr) := ⟨hr.of (fun j hj => by rw [if_pos hj]), kr⟩
        clear hr kr
        go_wp2
        go_ret
        exact ⟨rfl, H.out⟩
end Go.Proofs.Ytddalplpmgmplaa
