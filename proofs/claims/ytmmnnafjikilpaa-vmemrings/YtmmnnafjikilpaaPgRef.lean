/- The document's own walk through two tables: has, mark. -/
import Derived.Test.YtmmnnafjikilpaaPgMath
import Derived.Test.YtmmnnafjikilpaaRefNew
import Derived.LoopN
import Derived.Deep.RegionWith
import Derived.Deep.Cut
namespace Go.Proofs.Ytmmnnafjikilpaa
open Go.ChangeShapes Go.WideShapes Go.ChangeAt Go.RowKit Go.Maps
set_option linter.unusedVariables false

theorem cell_kp {S : Nat → Prop} {w w' : World} {b o : Nat} {v : Value} (h : w.cell? ⟨b, o, none⟩ = some v) (k : Kp S w w') (hS : ¬ S b) : w'.cell? ⟨b, o, none⟩ = some v := by
  have hb : b < w.heap.size := by
    rcases Nat.lt_or_ge b w.heap.size with g | g
    · exact g
    · simp [World.cell?, Array.getElem?_eq_none g] at h
  exact (World.cell?_of_block (k.block b hb hS)).trans h

theorem set_yes {n k : Int} (h : hasF n k = true) : setF n k true = n := by
  unfold hasF at h
  unfold setF flg
  rw [if_pos (by simpa using h), if_pos rfl]
  omega
theorem set_no {n k : Int} (h : hasF n k = false) : setF n k true = n + k := by
  unfold hasF at h
  unfold setF flg
  rw [if_neg (by simpa using h), if_pos rfl]


/-- The list of bits that is handed on. -/
def BitsAt (w : World) (Y : Nat) (wr : Bool) : Prop := w.cell? ⟨Y, 0, none⟩ = some (.int .i64 5) ∧ (wr = true → w.cell? ⟨Y, 1, none⟩ = some (.int .i64 6))

end Go.Proofs.Ytmmnnafjikilpaa
