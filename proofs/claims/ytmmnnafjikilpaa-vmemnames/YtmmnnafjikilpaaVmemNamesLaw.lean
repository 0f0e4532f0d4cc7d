/- VmemNames: the bits of Cr0, and what is no fault, are the document's. -/
import Derived.Test.YtmmnnafjikilpaaVmAwake
import Derived.Test.YtmmnnafjikilpaaPgLaw0
namespace Go.Proofs.Ytmmnnafjikilpaa
open Go.ChangeShapes Go.WideShapes Go.ChangeAt Go.RowKit Go.Maps
set_option linter.unusedVariables false
set_option maxRecDepth 20000

theorem VmemNames_walk (w : World) : Calls Try.prog 3 #[] w fun e w' => e = .returned (.bool true) ∧ Below w.heap.size w w' := by
  have cA := vmAwake_any w
  go_enter Try.func3, Try.ntmps3
  go_wp2_with fail
  refine cA.mono ?_; rintro e w1 ⟨rfl, k1⟩
  clear cA
  have cN := none_any w1
  go_wp2_with fail
  refine cN.mono ?_; rintro e w2 ⟨rfl, k2⟩
  replace k2 := k1.trans k2
  clear cN
  go_wp2
  go_ret
  exact ⟨rfl, k2.every⟩
end Go.Proofs.Ytmmnnafjikilpaa
