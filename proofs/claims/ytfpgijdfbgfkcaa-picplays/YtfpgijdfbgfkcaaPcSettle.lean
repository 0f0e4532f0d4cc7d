/- The contracts of settle, Pending and New. -/
import Derived.Test.YtfpgijdfbgfkcaaPcLeaf
import Derived.MapKept
namespace Go.Proofs.Ytfpgijdfbgfkcaa
open Go.ChangeShapes Go.WideShapes Go.ChangeAt Go.RowKit
set_option linter.unusedVariables false

theorem settle_ok (w : World) (B : Nat) (m : M2) (h : PAt w B m) (k : m.b.Ok) : Calls Try.prog 39 #[.pointer (some ⟨B, 0, none⟩)] w fun e w' => e = .returned (.tuple #[]) ∧ PAt w' B m.settle ∧ Kp (isB B) w w' := by
  have c1 := h.c1
  have z1 := h.fz 1
  have r1 : PAt (w.setCell ⟨B, 1, none⟩ (.int .u8 (bits .andNot .u8 m.a.asks 4))).drew B ⟨{ m.a with asks := bits .andNot .u8 m.a.asks 4 }, m.b⟩ := PAt.drew (h.set 1 _ _ rfl)
  have HN : Hid _ := next_b _ B _ r1 k
  have k1 : Kp (isB B) w (w.setCell ⟨B, 1, none⟩ (.int .u8 (bits .andNot .u8 m.a.asks 4))).drew := (kpB B w _ _).drew
  have hs : (⟨{ m.a with asks := bits .andNot .u8 m.a.asks 4 }, m.b⟩ : M2).b = m.b := rfl
  rw [hs] at HN
  by_cases g : m.b.next = -1
  · have hX : m.settle = ⟨{ m.a with asks := bits .andNot .u8 m.a.asks 4 }, m.b⟩ := by unfold M2.settle; rw [if_pos g]
    rw [hX]
    rw [g] at HN
    go_enter Try.func39, Try.ntmps39
    go_wp2
    go_region
    all_goals
      go_wp2_with fail
      refine Calls.mono HN.out ?_; rintro e w1 ⟨rfl, k2⟩
      go_wp2
      go_end0
      exact ⟨rfl, r1.kept k2 id, k1.trans k2.any⟩
  · have hX : m.settle = ⟨{ m.a with asks := bits .or .u8 (bits .andNot .u8 m.a.asks 4) 4 }, m.b⟩ := by unfold M2.settle; rw [if_neg g]
    rw [hX]
    have g' : (m.b.next != -1) = true := by simp [g]
    obtain ⟨N, hN⟩ : ∃ N, N = m.b.next := ⟨_, rfl⟩
    rw [← hN] at HN g'
    clear hN g
    go_enter Try.func39, Try.ntmps39
    go_wp2
    go_region
    all_goals
      go_wp2_with fail
      refine Calls.mono HN.out ?_; rintro e w1 ⟨rfl, k2⟩
      have r2 := r1.kept k2 id
      have d1 := r2.c1
      have y1 := r2.fz 1
      replace k1 := k1.trans k2.any
      clear c1 z1
      go_wp2
      go_region
      all_goals
        go_wp2
        go_end0
        exact ⟨rfl, PAt.drew (r2.set 1 _ _ rfl), (k1.trans (kpB B _ _ _)).drew⟩

theorem pend_nil (w : World) : Calls Try.prog 19 #[.pointer none] w fun e w' => e = .returned (.bool false) ∧ w' = w := by
  go_enter Try.func19, Try.ntmps19
  go_wp2
  go_ret
  exact ⟨rfl, rfl⟩

theorem pend_ok (w : World) (B : Nat) (m : M2) (h : PAt w B m) (k : m.a.Ok) : Calls Try.prog 19 #[.pointer (some ⟨B, 0, none⟩)] w fun e w' => e = .returned (.bool (m.a.next != -1)) ∧ Kp noB w w' := by
  have HN : Hid _ := next_a _ B _ h k
  go_enter Try.func19, Try.ntmps19
  go_wp2_with fail
  refine Calls.mono HN.out ?_; rintro e w1 ⟨rfl, k2⟩
  go_wp2
  go_ret
  exact ⟨rfl, k2⟩

def ch0 : Ch := ⟨0, 0, 0, 0, 0, 0, false, false⟩

theorem new_ok (w : World) : Calls Try.prog 9 #[] w fun e w' => e = .returned (.pointer (some ⟨w.heap.size, 0, none⟩)) ∧ PAt w' w.heap.size ⟨ch0, ch0⟩ ∧ Kp noB w w' := by
  go_enter Try.func9, Try.ntmps9
  go_wp2
  go_ret
  exact ⟨rfl, ⟨(MapKept.heap_alloc w _).1⟩, Kp.alloc _ _ _⟩
end Go.Proofs.Ytfpgijdfbgfkcaa
