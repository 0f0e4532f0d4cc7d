/- The walks of IdeNames, IdeNil. -/
import Derived.Test.YtddalplpmgmplaaIdAwake
namespace Go.Proofs.Ytddalplpmgmplaa
open Go.ChangeShapes Go.WideShapes Go.ChangeAt Go.RowKit
set_option linter.unusedVariables false

theorem Kp.every {W w : World} (h : Kp noB W w) : Below W.heap.size W w := h.below (Nat.le_refl _) (fun k f => f.elim)

end Go.Proofs.Ytddalplpmgmplaa
