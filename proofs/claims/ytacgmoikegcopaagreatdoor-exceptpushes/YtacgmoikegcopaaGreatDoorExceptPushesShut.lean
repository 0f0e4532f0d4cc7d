/- ExceptPushes: the closed facts of its row. -/
import Derived.Test.YtacgmoikegcopaaGreatDoorRows
import Derived.WalkKit
import Derived.ProofKit
import Derived.OpenShut
namespace Go.Proofs.YtacgmoikegcopaaGreatDoor.exceptPushes
open Go.ChangeShapes Go.WideShapes Go.ChangeAt Go.RowKit
set_option linter.unusedVariables false
set_option maxRecDepth 20000

theorem andT {a b : Bool} (ha : a = true) (hb : b = true) : (a && b) = true := by rw [ha, hb]; rfl
set_option maxHeartbeats 40000000 in
theorem closed : joinedFacts Tryz.pinned.checked.prog 7 Tryz.f7 Rows.exceptPushesSpec Rows.exceptPushesRow = true := by
  unfold joinedFacts
  repeat' (with_reducible refine andT ?_ ?_)
  all_goals as_aux_lemma => kernel_rfl
theorem inst : Tryz.f7.isInstance Tryz.pinned.checked.prog Rows.exceptPushesRow.origin Rows.exceptPushesRow.targs := of_decide_eq_true (by kernel_rfl)
theorem wrapper : Tryz.f7.isWrapper Tryz.pinned.checked.prog Rows.exceptPushesRow.wrapper Rows.exceptPushesRow.mainSum := by unfold Func.isWrapper; first | (rw [if_pos (by decide +kernel)]; kernel_rfl) | (rw [if_neg (by decide +kernel)]; exact ⟨rfl, rfl⟩)
theorem named : Tryz.pinned.checked.prog.funcNamed Rows.exceptPushesRow.func = some 7 := by kernel_rfl
end Go.Proofs.YtacgmoikegcopaaGreatDoor.exceptPushes
