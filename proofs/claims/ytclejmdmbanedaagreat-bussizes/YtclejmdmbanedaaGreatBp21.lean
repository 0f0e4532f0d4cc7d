/- The bus and its devices: RcData, RcApp. -/
import Derived.Test.YtclejmdmbanedaaGreatBp08
import Derived.Maps.AppendAt
import Derived.OwnWalk
namespace Go.Proofs.YtclejmdmbanedaaGreat.Pc
open Go.ChangeShapes Go.WideShapes Go.ChangeAt Go.RowKit
set_option linter.unusedVariables false
/-- A chip's room in a block of its own, not filled yet. -/
def ZAt (w : World) (q : Nat) : Prop := w.heap[q]? = some (.cells (chV RC.zero) 143 (0, 0))
theorem ZAt.kept {S : Nat → Prop} {w w' : World} {q : Nat} (h : ZAt w q) (k : Kp S w w') (hS : ¬ S q) : ZAt w' q := heap_kept h k hS
theorem ZAt.put {w : World} {q : Nat} (h : ZAt w q) (r : RC) : (storeCells ⟨q, 0, none⟩ (chV r).toList).run Tryz.prog w = .ok () (w.setRow q (chV r)) := put_ch h rfl r
theorem ZAt.got {w : World} {q : Nat} (h : ZAt w q) (r : RC) : CAt (w.setRow q (chV r)) q r := setRow_heap w q _ _ _ _ h
theorem Kp.newRow {S : Nat → Prop} {w W : World} (h : Kp S w W) {b : Nat} (hb : w.heap.size ≤ b) (cs : Array Value) : Kp S w (W.setRow b cs) := h.own (Kp.setRow (S := isB b) W rfl cs) hb
end Go.Proofs.YtclejmdmbanedaaGreat.Pc
namespace Go.Proofs.YtclejmdmbanedaaGreat.Pc
open Go.ChangeShapes Go.WideShapes Go.ChangeAt Go.RowKit
set_option linter.unusedVariables false
set_option maxRecDepth 20000
def OwnN (w : World) (base : Nat) (v : Value) (l : List Int) : Prop := w.ownsRow base 3 1 v l.length (l.map (Value.int .i64))
theorem OwnN.new (w : World) (base : Nat) (hb : base ≤ w.heap.size) (l : List Int) (hl : l.length ≤ 100) : OwnN (w.alloc (.cells (l.map (Value.int .i64)).toArray 3)) base (.slice (some ⟨w.heap.size, 0, none⟩) l.length l.length) l :=
  ⟨by simp, .inr ⟨w.heap.size, l.length, _, rfl, hb, (MapKept.heap_alloc w _).1, Nat.le_refl _, by unfold maxLen; omega, by simp, by rw [Nat.mul_one]; exact List.take_of_length_le (by simp)⟩⟩
theorem Kp.grown {w0 w w' : World} {row : Option Nat} (h : Kp noB w0 w) (g : w.grownBy w' row) (hr : ∀ k, row = some k → w0.heap.size ≤ k) : Kp noB w0 w' :=
  ⟨g.os.trans h.os, g.tape.trans h.tape, g.output.trans h.output, Nat.le_trans h.size g.size, fun k hk _ => (g.block k (Nat.lt_of_lt_of_le hk h.size) (fun e => by have := hr k e.symm; omega)).trans (h.block k hk id)⟩
/-- What is wanted lies in a block of its own, behind 'base'. -/
def Wn (w : World) (base : Nat) (p : Option Addr) (n c : Nat) (l : List Int) : Prop := n = l.length ∧ n ≤ c ∧ ∀ j, j < l.length → ∃ g, p = some ⟨g, 0, none⟩ ∧ base ≤ g ∧ g < w.heap.size ∧ w.cell? ⟨g, j, none⟩ = some (.int .i64 (l.getD j 0))
theorem OwnN.wn {w : World} {base : Nat} {v : Value} {l : List Int} (h : OwnN w base v l) : ∃ p c, v = .slice p l.length c ∧ Wn w base p l.length c l := by
  rcases h.2 with ⟨e, h2⟩ | ⟨g, cap, cur, rfl, hb, hg, hc, hm, hsz, ht⟩
  · refine ⟨none, 0, ?_, rfl, by omega, fun j hj => by omega⟩
    rw [e]
    have : l.length = 0 := by omega
    rw [this]
  · refine ⟨_, _, rfl, rfl, hc, fun j hj => ⟨g, rfl, hb, heap_lt hg, ?_⟩⟩
    rw [cell_of_row _ _ _ _ _ _ hg]
    have hj' : j < l.length := hj
    have e := congrArg (fun L : List Value => L[j]?) ht
    simp only [Nat.mul_one] at e
    rw [List.getElem?_take_of_lt hj, List.getElem?_map, List.getElem?_eq_getElem hj'] at e
    rw [← Array.getElem?_toList, e, List.getD_eq_getElem?_getD, List.getElem?_eq_getElem hj']
    rfl
theorem Wn.kept {S : Nat → Prop} {w w' : World} {base : Nat} {p : Option Addr} {n c : Nat} {l : List Int} (h : Wn w base p n c l) (k : Kp S w w') (hS : ∀ g, base ≤ g → ¬ S g) : Wn w' base p n c l :=
  ⟨h.1, h.2.1, fun j hj => by
    obtain ⟨g, e, hb, hl, hc⟩ := h.2.2 j hj
    exact ⟨g, e, hb, Nat.lt_of_lt_of_le hl k.size, cell_kept hc k (hS g hb)⟩⟩
theorem Wn.mono {w : World} {base base' : Nat} {p : Option Addr} {n c : Nat} {l : List Int} (h : Wn w base p n c l) (hb : base' ≤ base) : Wn w base' p n c l :=
  ⟨h.1, h.2.1, fun j hj => by
    obtain ⟨g, e, hb', hl, hc⟩ := h.2.2 j hj
    exact ⟨g, e, Nat.le_trans hb hb', hl, hc⟩⟩
end Go.Proofs.YtclejmdmbanedaaGreat.Pc
