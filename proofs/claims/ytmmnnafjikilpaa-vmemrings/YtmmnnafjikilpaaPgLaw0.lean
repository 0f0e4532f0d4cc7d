/- What the statements on page take: an ask in a block of its own, a walk by letters. -/
import Derived.Test.YtmmnnafjikilpaaPgAwake
namespace Go.Proofs.Ytmmnnafjikilpaa
open Go.ChangeShapes Go.WideShapes Go.ChangeAt Go.RowKit Go.Maps
set_option linter.unusedVariables false

theorem Kp.every {w w' : World} (h : Kp noB w w') : Below w.heap.size w w' := h.below (Nat.le_refl _) (fun k f => f.elim)

def askV (c l : Int) (wr us wp : Bool) : Value := .agg #[.int .u32 c, .int .u32 l, .bool wr, .bool us, .bool wp]

theorem fWalk_is (M : Mem) (c l : Int) (wr us wp : Bool) : ∃ (f p q : Int) (a b : Bool), fWalk M c l wr us wp = walkV f p q a b := by
  unfold fWalk
  split
  · exact ⟨_, _, _, _, _, rfl⟩
  · exact ⟨_, _, _, _, _, rfl⟩

theorem fCode_bd (M : Mem) (c l : Int) (wr us wp : Bool) : -1 ≤ fCode M c l wr us wp ∧ fCode M c l wr us wp ≤ 7 := by
  have := codeW_bd wr us
  unfold fCode
  split
  · split <;> omega
  · omega
end Go.Proofs.Ytmmnnafjikilpaa
