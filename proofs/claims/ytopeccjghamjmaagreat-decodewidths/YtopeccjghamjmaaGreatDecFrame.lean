/- What the frames of the statements take: bytes that came in; what was there is not written. -/
import Derived.Test.YtopeccjghamjmaaGreatRows
import Derived.WalkKit
import Derived.ProofKit
import Derived.OpenShut
import Derived.Below
import Derived.SizedLaws
import Derived.Test.YtopeccjghamjmaaGreatDecTab
import Derived.Test.YtopeccjghamjmaaGreatDecLaw0
namespace Go.Proofs.YtopeccjghamjmaaGreat
open Go.ChangeShapes Go.WideShapes Go.ChangeAt Go.RowKit
set_option linter.unusedVariables false

theorem Kp.below {w w' : World} (h : Kp noB w w') : Below w.heap.size w w' := ⟨h.os, h.tape, h.output, h.size, fun k hk => h.block k hk id⟩

structure BytIn (w : World) (a : Option Addr) (L : Nat) (bt : Nat → Int) : Prop where
  at' : BytAt w a L bt
  bd : ∀ j, j < L → 0 ≤ bt j ∧ bt j < 256
  le : L ≤ 140737488351232

theorem bytesIn {H : Type} {enc : TypeId × Value → H} {w : World} {fuel : Nat} {a : Option Addr} {len cap : Nat} {d : DataW H} {p : List MemPlace} (h : DataW.trod enc Tryz.prog w 0 (fun _ => true) true fuel 23 (Value.slice a len cap).cells.toList = some (d, p))
    (hz : ∀ elems spare, d = .slice elems spare → (elems.length + spare.length) * Tryz.prog.bytesOf 5 ≤ reachBytes) : ∃ bt, BytIn w a len bt := by
  rcases open_ints Tryz.underlying23 Tryz.underlying5 (by kernel_rfl) h with ⟨hcs, _⟩ | ⟨y, l, c, zs, hcs, _, hl, hm, hzl, hx, hcell, hwz⟩
  · simp [Value.cells] at hcs
    obtain ⟨rfl, rfl, rfl⟩ := hcs
    exact ⟨fun _ => 0, fun j hj => absurd hj (by simp), fun j hj => absurd hj (by simp), by simp⟩
  · simp [Value.cells] at hcs
    obtain ⟨rfl, rfl, rfl⟩ := hcs
    have hz' : zs.length = cap := by simpa using hzl
    injection hx with hd hp
    have hs := hz _ _ hd
    have hb : Tryz.prog.bytesOf 5 = 1 := by kernel_rfl
    have hr : reachBytes = 140737488351232 := rfl
    have hlen : len ≤ 140737488351232 := by
      rw [hb] at hs
      have e : (lits (H := H) .u8 (List.take len zs)).length = len := by unfold lits; rw [List.length_map, List.length_take]; omega
      rw [e] at hs
      omega
    refine ⟨fun j => zs.getD j 0, fun j hj => ?_, fun j hj => ?_, hlen⟩
    · obtain ⟨b, off, rfl, hc⟩ := ints_at hcell (by omega)
      have := hc j (by omega)
      exact ⟨b, off, rfl, cell_lt this, this⟩
    · have hj' : j < zs.length := by omega
      have e : zs.getD j 0 ∈ zs := by rw [List.getD_eq_getElem?_getD, List.getElem?_eq_getElem hj']; exact List.getElem_mem hj'
      have := bounds_u8 (hwz _ e)
      omega

end Go.Proofs.YtopeccjghamjmaaGreat
