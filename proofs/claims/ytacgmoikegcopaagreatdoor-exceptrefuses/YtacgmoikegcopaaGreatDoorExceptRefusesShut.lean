/- ExceptRefuses: the closed facts of its row. -/
import Derived.Test.YtacgmoikegcopaaGreatDoorRows
import Derived.WalkKit
import Derived.ProofKit
import Derived.OpenShut
namespace Go.Proofs.YtacgmoikegcopaaGreatDoor.exceptRefuses
open Go.ChangeShapes Go.WideShapes Go.ChangeAt Go.RowKit
set_option linter.unusedVariables false
set_option maxRecDepth 20000

theorem andT {a b : Bool} (ha : a = true) (hb : b = true) : (a && b) = true := by rw [ha, hb]; rfl
set_option maxHeartbeats 40000000 in
theorem closed : joinedFacts Tryz.pinned.checked.prog 8 Tryz.f8 Rows.exceptRefusesSpec Rows.exceptRefusesRow = true := by
  unfold joinedFacts
  repeat' (with_reducible refine andT ?_ ?_)
  all_goals as_aux_lemma => kernel_rfl
theorem inst : Tryz.f8.isInstance Tryz.pinned.checked.prog Rows.exceptRefusesRow.origin Rows.exceptRefusesRow.targs := of_decide_eq_true (by kernel_rfl)
theorem wrapper : Tryz.f8.isWrapper Tryz.pinned.checked.prog Rows.exceptRefusesRow.wrapper Rows.exceptRefusesRow.mainSum := by unfold Func.isWrapper; first | (rw [if_pos (by decide +kernel)]; kernel_rfl) | (rw [if_neg (by decide +kernel)]; exact ⟨rfl, rfl⟩)
theorem named : Tryz.pinned.checked.prog.funcNamed Rows.exceptRefusesRow.func = some 8 := by kernel_rfl
end Go.Proofs.YtacgmoikegcopaaGreatDoor.exceptRefuses
