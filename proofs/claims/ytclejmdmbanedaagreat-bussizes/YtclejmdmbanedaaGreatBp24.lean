/- The bus and its devices: RtIn. -/
import Derived.Test.YtclejmdmbanedaaGreatBp20
namespace Go.Proofs.YtclejmdmbanedaaGreat.Pt
open Go.ChangeShapes Go.WideShapes Go.ChangeAt Go.RowKit
set_option linter.unusedVariables false
theorem w8 (n : Int) : IntKind.u8.wrap n = n % 256 := by simp [IntKind.wrap, IntKind.bits, IntKind.signed]
end Go.Proofs.YtclejmdmbanedaaGreat.Pt
