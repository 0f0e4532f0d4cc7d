/- The contract of Watch, and what calls of none answer. -/
import Derived.Test.YtmmnnafjikilpaaRamOps
import Derived.Laws.MakeOwn
namespace Go.Proofs.Ytmmnnafjikilpaa
open Go.ChangeShapes Go.WideShapes Go.ChangeAt Go.RowKit Go.Maps
set_option linter.unusedVariables false

theorem RamAt.drewN {w : World} {B : Nat} {M : Mem} (h : RamAt w B M) (n : Nat) : RamAt (w.drewN n) B M := h.kept (fun _ _ => rfl)

theorem dump_nil (w : World) (x n : Int) : Calls Try.prog 13 #[.pointer none, .int .u32 x, .int .i64 n] w fun e w' => e = .returned (.slice none 0 0) ∧ w' = w := by
  go_enter Try.func13, Try.ntmps13
  go_wp2
  go_ret
  exact ⟨rfl, rfl⟩

end Go.Proofs.Ytmmnnafjikilpaa
