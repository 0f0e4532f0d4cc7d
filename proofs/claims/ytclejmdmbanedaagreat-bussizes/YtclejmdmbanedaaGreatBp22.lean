/- The bus and its devices: RcBegin. -/
import Derived.Test.YtclejmdmbanedaaGreatBp21
namespace Go.Proofs.YtclejmdmbanedaaGreat.Pc
open Go.ChangeShapes Go.WideShapes Go.ChangeAt Go.RowKit
set_option linter.unusedVariables false
set_option maxRecDepth 20000
theorem OwnN.kept {w w' : World} {base : Nat} {v : Value} {l : List Int} {S : Nat → Prop} (h : OwnN w base v l) (k : Kp S w w') (hS : ∀ g, base ≤ g → ¬ S g) : OwnN w' base v l := by
  refine ⟨h.1, ?_⟩
  rcases h.2 with h2 | ⟨g, cap, cur, hv, hb, hg, r⟩
  · exact .inl h2
  · exact .inr ⟨g, cap, cur, hv, hb, heap_kept hg k (hS g hb), r⟩
/-- A chip whose set-up begins, in a block of its own, with what it wants so far. -/
structure BegS (w W : World) (r : RC) (f0 f1 f2 : Nat → Bool) (p : Option Addr) (n c : Nat) (l : List Int) : Prop where
  hC : CAt W w.heap.size ⟨f0, f1, f2, r.up, r.base, false, false, p, n, c⟩
  hZ : ZAt W (w.heap.size + 1)
  hO : OwnN W (w.heap.size + 2) (.slice p n c) l
  hK : Kp noB w W
theorem BegS.fin {w W : World} {r : RC} {f0 f1 f2 : Nat → Bool} {p : Option Addr} {n c : Nat} {l : List Int} (h : BegS w W r f0 f1 f2 p n c l) (hn : n = l.length) : CAt (W.setRow (w.heap.size + 1) (chV ⟨f0, f1, f2, r.up, r.base, false, false, p, n, c⟩)) (w.heap.size + 1) ⟨f0, f1, f2, r.up, r.base, false, false, p, n, c⟩ ∧ Wn (W.setRow (w.heap.size + 1) (chV ⟨f0, f1, f2, r.up, r.base, false, false, p, n, c⟩)) w.heap.size p n c l ∧ Kp noB w (W.setRow (w.heap.size + 1) (chV ⟨f0, f1, f2, r.up, r.base, false, false, p, n, c⟩)) := by
  refine ⟨h.hZ.got _, ?_, h.hK.newRow (by omega) _⟩
  obtain ⟨p', c', e, hw⟩ := h.hO.wn
  injection e with e1 e2 e3
  subst e1; subst e2; subst e3
  exact (hw.kept (Kp.setRow (S := isB (w.heap.size + 1)) W rfl _) (fun g hg f => by have : g = w.heap.size + 1 := f; omega)).mono (by omega)
end Go.Proofs.YtclejmdmbanedaaGreat.Pc
