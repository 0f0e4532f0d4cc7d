/- The document's own memory: the list of what was noted. -/
import Derived.Test.YtankfdcpnhociaaRefLoop
import Derived.Test.YtankfdcpnhociaaRamNotesLaw
namespace Go.Proofs.Ytankfdcpnhociaa
open Go.ChangeShapes Go.WideShapes Go.ChangeAt Go.RowKit Go.Maps Go.Shelf
set_option linter.unusedVariables false

def Mem.since (M : Mem) (i : Nat) : Mem := { M with nt := fun y => M.nt y && decide ((64 * i : Int) ≤ y) }

def WtL (w : World) (R : Rf) (M : Mem) (k : Nat) (v s : Value) (wr : World) : Prop :=
  ∃ i : Nat, s = .int .i64 i ∧ i ≤ 64 * M.n ∧ 64 * M.n - i ≤ k ∧ wr.ownsRow w.heap.size 32 1 v (wantL M.nt i).length ((wantL M.nt i).map (Value.int .u32)) ∧ w.heap.size ≤ wr.heap.size ∧ RefAt wr R (M.since i) ∧ Kp R.has w wr

def WtPost (w : World) (R : Rf) (M : Mem) (e : Ending) (w' : World) : Prop :=
  ∃ p c, e = .returned (.slice p (wantL M.nt (64 * M.n)).length c) ∧ SlP (fromL w.heap.size) w' p (wantL M.nt (64 * M.n)) ∧ RefAt w' R M.asked ∧ Kp R.has w w'

set_option maxRecDepth 100000 in
set_option maxHeartbeats 1000000 in
theorem refWritten_ok (w : World) (R : Rf) (M : Mem) (h : RefAt w R M) :
    Calls Try.prog 15 #[.pointer (some ⟨R.r, 0, none⟩)] w (WtPost w R M) := by
  have hle := h.le
  have hlt : ∀ k, R.has k → k < w.heap.size := fun k hk => h.lt hk
  obtain ⟨i0, hi, hz0, hz1, hz2⟩ := info_parts info32
  go_enter Try.func15, Try.ntmps15
  go_wp2_with fail
  go_loopg [3, 4] (64 * M.n) (WtL w R M)
  case atStart => exact ⟨0, rfl, Nat.zero_le _, Nat.le_refl _, World.ownsRow_nil _ _ _ _, Nat.le_refl _, h.like rfl rfl (fun _ _ => rfl) (fun _ _ => rfl) (fun _ _ => rfl) (fun j hj => by show (M.nt (64 * j) && decide ((64 * (0 : Nat) : Int) ≤ 64 * j)) = _; rw [decide_eq_true (by omega), Bool.and_true]), Kp.refl _ _⟩
  case round =>
    obtain ⟨i, rfl, hi1, hi2, hown, hsz, hr, kk⟩ := hrel
    have c3 := hr.c3
    have en : (M.since i).n = M.n := rfl
    rw [en] at c3
    obtain ⟨N, hN⟩ : ∃ N : Nat, N = 64 * M.n := ⟨_, rfl⟩
    rw [← hN] at c3
    have N1 : N ≤ 16384 := by omega
    have hwl := want_len M.nt i
    by_cases hil : i < 64 * M.n
    · have hz : (i : Int) < (N : Int) := by omega
      have cc := hr.cq.cell (j := i) hil
      have cf := hr.cq.frozen i
      have e1 : (M.since i).nt (64 * i) = M.nt (64 * i) := by show (M.nt (64 * i) && decide ((64 * i : Int) ≤ 64 * i)) = _; rw [decide_eq_true (by omega), Bool.and_true]
      rw [e1] at cc
      have hnext : ∀ j : Nat, j < 64 * M.n → (M.since (i + 1)).nt (64 * j) = if j = i then false else (M.since i).nt (64 * j) := fun j hj => by
        show (M.nt (64 * j) && decide ((64 * (i + 1 : Nat) : Int) ≤ 64 * j)) = if j = i then false else (M.nt (64 * j) && decide ((64 * i : Int) ≤ 64 * j))
        by_cases e : j = i
        · rw [if_pos e, decide_eq_false (by omega), Bool.and_false]
        · rw [if_neg e]
          congr 1
          exact decide_eq_decide.2 ⟨fun f => by omega, fun f => by omega⟩
      have HO : Hid (wantL M.nt (i + 1) = wantL M.nt i ++ (if M.nt (64 * i) = true then [(64 * i : Int)] else [])) := rfl
      cases hb : M.nt (64 * i)
      · rw [hb] at cc
        have hr2 : RefAt wr R (M.since (i + 1)) := hr.like rfl rfl (fun _ _ => rfl) (fun _ _ => rfl) (fun _ _ => rfl) (fun j hj => by
          rw [hnext j hj]
          by_cases e : j = i
          · rw [if_pos e, e, e1, hb]
          · rw [if_neg e])
        have eo : wantL M.nt (i + 1) = wantL M.nt i := by rw [HO.out, hb]; simp
        have hown2 := hown
        rw [← eo] at hown2
        have HW : Hid (wr.ownsRow w.heap.size 32 1 u3 (wantL M.nt (i + 1)).length ((wantL M.nt (i + 1)).map (Value.int .u32))) := hown2
        clear hown2 eo hb e1 hnext hr hown en hN
        go_wp2_with fail
        go_roundg (64 * M.n - (i + 1))
        case measure => omega
        case rel => exact ⟨i + 1, by go_num, by omega, Nat.le_refl _, HW.out, hsz, hr2, kk⟩
      · rw [hb] at cc
        have hr2 := hr.setNt (i := i) hil false (M.since (i + 1)).nt (fun j hj => hnext j hj)
        have k2 := kp_has (i := i) kk (has_q R) (.bool false)
        obtain ⟨w2, hw2⟩ : ∃ w2, w2 = wr.setCell ⟨R.q, i, none⟩ (.bool false) := ⟨_, rfl⟩
        have hown2 : w2.ownsRow w.heap.size 32 1 u3 (wantL M.nt i).length ((wantL M.nt i).map (Value.int .u32)) := by
          rw [hw2]; exact owns_kp hown (Kp.setCell (S := R.has) wr (p := ⟨R.q, i, none⟩) (has_q R) (.bool false)) (fun b hb f => by have := hlt b f; omega)
        have hsz2 : w.heap.size ≤ w2.heap.size := by rw [hw2]; simpa [World.setCell] using hsz
        rw [← hw2] at hr2 k2
        have eo : wantL M.nt (i + 1) = wantL M.nt i ++ [(64 * i : Int)] := by rw [HO.out, hb]; simp
        have EO : Hid (wantL M.nt (i + 1) = wantL M.nt i ++ [(64 * i : Int)]) := eo
        obtain ⟨g, hg⟩ : ∃ g : Nat, g = i * 64 := ⟨_, rfl⟩
        have eg : (i : Int) * 64 = (g : Int) := by omega
        have EG : Hid ((64 * i : Int) = (g : Int)) := by show (64 * i : Int) = (g : Int); omega
        have gl : (g : Int) < 4294967296 := by omega
        have HW2 : Hid (w2 = wr.setCell ⟨R.q, i, none⟩ (.bool false)) := hw2
        clear eo hb e1 hnext hr hown en hN hg hw2
        have hres := hown2
        rw [HW2.out] at hres
        have hsw : (wr.setCell ⟨R.q, i, none⟩ (.bool false)).heap.size = wr.heap.size := by simp [World.setCell]
        go_wp2_with (at_builtin; refine wpList_append_own _ rfl _ _ 41 rfl w.heap.size 32 i0 (.int .u32 0) 1 4 slice32T hi hz0 hz1 hz2 rfl (by decide) _ _ _ rfl (hres.alloc _) ⟨wr.heap.size, 0, none⟩ 1 1 [.int .u32 g] rfl rfl (by rw [← hsw]; exact cell_one_new _ _ _) (by simp [Value.oneCell']) (by unfold maxLen; omega) (by omega) (by have := hsz2; rw [HW2.out] at this; simp at this ⊢; omega) ?_; intro v' w5 hown' hgrow _)
        have kg := kp_grown (hres.alloc _) hgrow
        have hsg := hgrow.size
        have kA : Kp R.has w2 (w2.alloc (.cells #[.int .u32 g] 32)) := Kp.alloc _ _ _
        rw [← HW2.out] at kg hsg
        have k5 : Kp R.has w w5 := (k2.trans kA).over kg (fun b hb f => by unfold fromL at f; omega)
        have h5 : RefAt w5 R (M.since (i + 1)) := (hr2.kp (Kp.alloc (fun _ => False) w2 _) (fun _ _ f => f)).kp kg (fun b hb f => by have := hlt b hb; unfold fromL at f; omega)
        go_roundg (64 * M.n - (i + 1))
        case measure => omega
        case rel =>
          refine ⟨i + 1, by go_num, by omega, Nat.le_refl _, ?_, ?_, h5, k5⟩
          · rw [EO.out, EG.out]
            simpa using hown'
          · simp at hsg; omega
    · have hiN : i = 64 * M.n := by omega
      rw [hiN] at hown
      obtain ⟨p, c, hv, hsl⟩ := owns_slP hown
      subst hv
      have hr2 : RefAt wr R M.asked := hr.like rfl rfl (fun _ _ => rfl) (fun _ _ => rfl) (fun _ _ => rfl) (fun j hj => by
        show false = (M.nt (64 * j) && decide ((64 * i : Int) ≤ 64 * j))
        have hj' : j < 64 * M.n := hj
        rw [decide_eq_false (by omega), Bool.and_false])
      have hz : ¬ (i : Int) < (N : Int) := by omega
      clear hN hr hown en
      go_wp2
      go_ret
      exact ⟨p, c, rfl, hsl, hr2, kk⟩
end Go.Proofs.Ytankfdcpnhociaa
