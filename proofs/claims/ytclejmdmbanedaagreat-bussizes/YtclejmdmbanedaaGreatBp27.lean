/- The bus and its devices: UrRead. -/
import Derived.Test.YtclejmdmbanedaaGreatBp26
namespace Go.Proofs.YtclejmdmbanedaaGreat.Ut
open Go.ChangeShapes Go.WideShapes Go.ChangeAt Go.RowKit
set_option linter.unusedVariables false
set_option maxRecDepth 20000
section
variable {w : World} {R : Nat} {cq sv : Value} {u : U}
/-- Behind a call that may have made blocks. -/
def ROut (w : World) (R : Nat) (cq sv : Value) (u : U) (w' : World) : Prop :=
  ∃ cq' sv', RAt w' R cq' sv' u ∧ (∀ k, rfoot R cq' sv' k → rfoot R cq sv k ∨ w.heap.size ≤ k) ∧ Kp (rfoot R cq sv) w w'
theorem Kp.rfoot {w' : World} (h : Kp (isB R) w w') : Kp (rfoot R cq sv) w w' := h.mono fun k _ e => .inl e
theorem RAt.out {w' : World} (h : RAt w' R cq sv u) (k : Kp (isB R) w w') : ROut w R cq sv u w' := ⟨cq, sv, h, fun _ g => .inl g, k.rfoot⟩
end
end Go.Proofs.YtclejmdmbanedaaGreat.Ut
