/- The walk of BusNil. -/
import Derived.Test.YtclejmdmbanedaaGreatBp35
namespace Go.Proofs.YtclejmdmbanedaaGreat.Bs
open Go.ChangeShapes Go.WideShapes Go.ChangeAt Go.RowKit
open Go.Proofs.YtclejmdmbanedaaGreat.Ut (Kp heap_lt heap_kept heap_set heap_new noB isB kpB)
set_option linter.unusedVariables false
set_option maxRecDepth 20000

set_option maxHeartbeats 1000000 in
theorem BusNil_walk (W : World) (kd pt sz v : Int) (a : Option Addr) (Ld cd : Nat) (bt : Nat → Int) (hb : Dk.BytIn W a Ld bt) : Calls Tryz.prog 6 #[.agg #[.int .i64 kd, .int .u16 pt, .int .i64 sz, .int .u32 v], .slice a Ld cd] W fun e w' => e = .returned (.bool true) ∧ Below W.heap.size W w' := by
  have HA : Hid (∀ w, _) := awake_ok
  clear hb
  obtain ⟨w0, hw0⟩ : ∃ w0, w0 = W.alloc (.cells #[.int .i64 kd, .int .u16 pt, .int .i64 sz, .int .u32 v] 44) := ⟨_, rfl⟩
  obtain ⟨X, hX⟩ : ∃ X, X = W.heap.size := ⟨_, rfl⟩
  have b0 : w0.heap[X]? = some (.cells #[.int .i64 kd, .int .u16 pt, .int .i64 sz, .int .u32 v] 44 (0, 0)) := by rw [hw0, hX]; exact heap_new _ _
  have k0 : Kp noB W w0 := by rw [hw0]; exact Kp.alloc _ _ _
  have HE : Hid (∀ w', Kp noB w0 w' → Below W.heap.size W w') := fun w' h => kpE (k0.trans h)
  have HC : Hid (∀ w', Kp noB w0 w' → w'.cell? ⟨X, 1, none⟩ = some (.int .u16 pt) ∧ w'.cell? ⟨X, 2, none⟩ = some (.int .i64 sz) ∧ w'.cell? ⟨X, 3, none⟩ = some (.int .u32 v)) := fun w' h => by
    have b := heap_kept b0 h id
    exact ⟨cell_of b rfl, cell_of b rfl, cell_of b rfl⟩
  have hw0' : Hid (W.alloc (.cells #[.int .i64 kd, .int .u16 pt, .int .i64 sz, .int .u32 v] 44) = w0) := hw0.symm
  have hX' : Hid (W.heap.size = X) := hX.symm
  clear hw0 hX b0 k0
  go_enter Tryz.func6, Tryz.ntmps6
  go_wp2_with fail
  rw [hw0'.out, hX'.out]
  refine Calls.mono (HA.out _) ?_; rintro e w1 ⟨rfl, k1⟩
  have K1 : Hid _ := HE.out _ k1
  obtain ⟨c1, c2, c3⟩ := HC.out _ k1
  clear k1 HE HC HA hw0' hX'
  go_wp2_with fail
  refine Calls.mono (new_nil w1 a Ld cd) ?_; rintro e z ⟨rfl, hz⟩; replace hz := hz.symm; subst hz
  go_wp2_with fail
  refine Calls.mono (in_nil w1 pt sz) ?_; rintro e z ⟨rfl, hz⟩; replace hz := hz.symm; subst hz
  go_wp2_with fail
  refine Calls.mono (tick_nil w1 1) ?_; rintro e z ⟨rfl, hz⟩; replace hz := hz.symm; subst hz
  go_wp2_with fail
  refine Calls.mono (push_nil w1 1) ?_; rintro e z ⟨rfl, hz⟩; replace hz := hz.symm; subst hz
  go_wp2_with fail
  refine Calls.mono (out_nil w1 pt sz v) ?_; rintro e z ⟨rfl, hz⟩; replace hz := hz.symm; subst hz
  go_wp2_with fail
  refine Calls.mono (now_nil w1) ?_; rintro e z ⟨rfl, hz⟩; replace hz := hz.symm; subst hz
  go_wp2_with fail
  refine Calls.mono (pending_nil w1) ?_; rintro e z ⟨rfl, hz⟩; replace hz := hz.symm; subst hz
  go_wp2_with fail
  refine Calls.mono (ack_nil w1) ?_; rintro e z ⟨rfl, hz⟩; replace hz := hz.symm; subst hz
  go_wp2_with fail
  refine Calls.mono (sent_nil w1) ?_; rintro e z ⟨rfl, hz⟩; replace hz := hz.symm; subst hz
  go_wp2_with fail
  refine Calls.mono (written_nil w1) ?_; rintro e z ⟨rfl, hz⟩; replace hz := hz.symm; subst hz
  go_wp2_with fail
  refine Calls.mono (disk_nil w1) ?_; rintro e z ⟨rfl, hz⟩; replace hz := hz.symm; subst hz
  clear c1 c2 c3
  go_wp2
  go_ret
  exact ⟨rfl, K1.out⟩
end Go.Proofs.YtclejmdmbanedaaGreat.Bs
