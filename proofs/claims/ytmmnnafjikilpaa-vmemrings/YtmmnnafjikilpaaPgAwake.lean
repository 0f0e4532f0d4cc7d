/- awake: the calls at the head of all statements answer as the document fixes. -/
import Derived.Test.YtmmnnafjikilpaaPgAlike
import Derived.Test.YtmmnnafjikilpaaPgFind
namespace Go.Proofs.Ytmmnnafjikilpaa
open Go.ChangeShapes Go.WideShapes Go.ChangeAt Go.RowKit Go.Maps
set_option linter.unusedVariables false

def exF (i : Nat) : Int := if i = 0 then 4100 else 8200
def exG (i : Nat) : Int := if i = 0 then 8199 else 20485
def memX : Mem := memOf exF exG (fun _ => 0) 2 0
def memY : Mem := fMem memX 4096 4202787 false false false

theorem memX_ok : fOk memX 4096 4202787 false false false = true := by decide +kernel
theorem memX_fr : fFr memX 4096 4202787 = 20480 ∧ pdeA 4096 4202787 = 4100 ∧ fPte memX 4096 4202787 = 8200 ∧ fW memX 4096 4202787 = false ∧ fU memX 4096 4202787 = true := by decide +kernel
theorem memX_code : fCode memX 4096 4202787 false false false = -1 := by decide +kernel
theorem memX_walk : fWalk memX 4096 4202787 false false false = walkV 20480 4100 8200 false true := by
  unfold fWalk
  obtain ⟨h1, h2, h3, h4, h5⟩ := memX_fr
  rw [if_pos memX_ok, h1, h2, h3, h4, h5]
theorem memY_ok : fOk memY 4096 4202787 true true false = false := by decide +kernel
theorem memY_code : fCode memY 4096 4202787 true true false = 7 := by decide +kernel
theorem memY_walk : fWalk memY 4096 4202787 true true false = walkV 0 0 0 false false := by
  unfold fWalk
  rw [if_neg (by rw [memY_ok]; decide)]
theorem memY_mem : fMem memY 4096 4202787 true true false = memY := by
  unfold fMem
  rw [if_neg (by rw [memY_ok]; decide)]
theorem memY_one : memY.read 4100 4 = 8231 := by decide +kernel
theorem memY_two : memY.read 8200 4 = 20517 := by decide +kernel
theorem memX_n : memX.n = 16 := by decide +kernel
theorem memY_n : memY.n = 16 := by decide +kernel

end Go.Proofs.Ytmmnnafjikilpaa
