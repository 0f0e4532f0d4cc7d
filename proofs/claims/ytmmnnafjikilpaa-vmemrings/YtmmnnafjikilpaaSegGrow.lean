/- 'Grown' with the tape, for the segments' texts: what only made new blocks turned no tape either. -/
import Derived.Test.YtmmnnafjikilpaaGrow
import Derived.Carry
namespace Go.Proofs.Ytmmnnafjikilpaa.Sg

def Grown (W w' : World) : Prop := W.keptBut w' (fun _ => False) ∧ (∀ a, w'.frozen? a = W.frozen? a) ∧ (W.heap.size ≤ w'.heap.size ∧ w'.tape = W.tape)

theorem Grown.to {W w' : World} (h : Grown W w') : Go.RowKit.Grown W w' := ⟨h.1, h.2.1, h.2.2.1⟩
theorem Grown.of {W w' : World} (h : Go.RowKit.Grown W w') (t : w'.tape = W.tape) : Grown W w' := ⟨h.1, h.2.1, h.2.2, t⟩
theorem Grown.refl (W : World) : Grown W W := .of (Go.RowKit.Grown.refl W) rfl
theorem Grown.alloc {W w' : World} (h : Grown W w') (c : Array Value) (t : TypeId) : Grown W (w'.alloc (.cells c t)) := .of (h.to.alloc c t) h.2.2.2
theorem Grown.allocMap {W w' : World} (h : Grown W w') (es : Array MapEntry) (c : Nat) : Grown W (w'.alloc (.map es c)) := .of (Go.RowKit.Grown.allocMap h.to es c) h.2.2.2
theorem Grown.drew {W w' : World} (h : Grown W w') : Grown W w'.drew := h
theorem Grown.trans {a b c : World} (h : Grown a b) (k : Grown b c) : Grown a c := .of (_root_.Go.Proofs.Ytmmnnafjikilpaa.Grown.trans h.to k.to) (k.2.2.2.trans h.2.2.2)
theorem Grown.cell {W w' : World} (h : Grown W w') {p : Addr} (hp : p.block < W.heap.size) : w'.cell? p = W.cell? p := _root_.Go.Proofs.Ytmmnnafjikilpaa.Grown.cell h.to hp
end Go.Proofs.Ytmmnnafjikilpaa.Sg
