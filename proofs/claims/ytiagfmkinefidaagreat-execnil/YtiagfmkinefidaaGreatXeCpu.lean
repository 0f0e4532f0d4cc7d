/- A processor as it comes in: its 83 cells are one cell each. -/
import Derived.Test.YtiagfmkinefidaaGreatEx04
import Derived.OpenShut
namespace Go.Proofs.YtiagfmkinefidaaGreat.Rm
open Go.ChangeShapes Go.WideShapes Go.ChangeAt Go.RowKit
set_option linter.unusedVariables false
set_option maxRecDepth 20000

theorem ok_int {P : Program} {w : World} {r : Reach} {b : Nat} {t : TypeId} {k : IntKind} {v : Value} (ht : P.underlying t = some (.int k)) (h : Cell.okWide P w r b t v) : ∃ n, v = .int k n ∧ k.has n := by
  unfold Cell.okWide Cell.ok at h
  rw [ht] at h
  cases v <;> simp at h
  rename_i k' n
  exact ⟨n, by rw [h.1], h.2⟩
theorem ok_bool {P : Program} {w : World} {r : Reach} {b : Nat} {t : TypeId} {v : Value} (ht : P.underlying t = some .bool) (h : Cell.okWide P w r b t v) : ∃ x, v = .bool x := by
  unfold Cell.okWide Cell.ok at h
  rw [ht] at h
  cases v <;> simp at h
  exact ⟨_, rfl⟩

def sgT : List TypeId := [25, 4, 23, 23, 3, 4, 3, 4, 4]
def cpuT : List TypeId := List.replicate 10 23 ++ (sgT ++ sgT ++ sgT ++ sgT ++ sgT ++ sgT) ++ [23, 23, 23, 23, 25, 23, 25] ++ sgT ++ [4, 4, 4]
theorem cpu_types : Tryz.prog.cellTypes Tryz.prog.depth 34 = some cpuT := by kernel_rfl
theorem cpuT_len : cpuT.length = 83 := by kernel_rfl
theorem cpu_size : Tryz.prog.cellsOf 34 = 83 := by kernel_rfl
theorem cpuT_all : ∀ u ∈ cpuT, u = 23 ∨ u = 25 ∨ u = 3 ∨ u = 4 := by decide

theorem cpu_wf {W : World} {b : Nat} {cs : Array Value} (h : Row.okWide Tryz.prog W .any b 34 cs) (hs : cs.size = 83) : WfC cs := by
  refine ⟨hs, fun v hv => ?_⟩
  obtain ⟨ts, e, _, hc⟩ := h
  rw [cpu_types] at e
  obtain rfl := Option.some.inj e
  obtain ⟨i, hi, rfl⟩ := List.getElem_of_mem hv
  obtain ⟨u, hu, ho⟩ := hc i cs.toList[i] (by rw [← Array.getElem?_toList]; exact List.getElem?_eq_getElem hi)
  rcases cpuT_all u (List.mem_of_getElem? hu) with rfl | rfl | rfl | rfl
  · obtain ⟨n, en, _⟩ := ok_int Tryz.underlying23 ho; rw [en]; rfl
  · obtain ⟨n, en, _⟩ := ok_int Tryz.underlying25 ho; rw [en]; rfl
  · obtain ⟨n, en, _⟩ := ok_int Tryz.underlying3 ho; rw [en]; rfl
  · obtain ⟨n, en⟩ := ok_bool Tryz.underlying4 ho; rw [en]; rfl
end Go.Proofs.YtiagfmkinefidaaGreat.Rm
