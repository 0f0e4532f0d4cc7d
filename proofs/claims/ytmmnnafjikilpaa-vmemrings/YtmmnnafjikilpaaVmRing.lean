/- Plain facts behind VmemRings; three memories in one world. -/
import Derived.Test.YtmmnnafjikilpaaVmFacts2
import Derived.Test.YtmmnnafjikilpaaVmOpen
namespace Go.Proofs.Ytmmnnafjikilpaa
open Go.ChangeShapes Go.WideShapes Go.ChangeAt Go.RowKit Go.Maps
set_option linter.unusedVariables false
set_option maxRecDepth 20000

theorem findQ_vec {M : Mem} {pg : Bool} {c l : Int} {n : Nat} {wr us wp : Bool} {f : Ft} (h : (findQ M pg c l n wr us wp).f = some f) : f.vec = 14 := by
  unfold findQ at h
  split at h
  · simp at h
  split at h
  · simp at h; rw [← h]
  split at h
  · simp at h
  split at h
  · simp at h; rw [← h]
  · simp at h
theorem segQ_vec {M : Mem} {c : Cp} {k off z : Int} {wr : Bool} {f : Ft} (h : (segQ M c k off z wr).f = some f) : 0 ≤ f.vec := by
  unfold segQ at h
  split at h
  · simp at h; rw [← h]; decide
  split at h
  · simp at h; rw [← h]
    show 0 ≤ vecB k
    unfold vecB
    split <;> decide
  · rw [findQ_vec h]; decide
theorem ft_sign (q : Qy) (h : ∀ f, q.f = some f → 0 ≤ f.vec) : q.f = none ∧ q.ft = noFt ∨ 0 ≤ q.ft.vec := by
  cases hq : q.f with
  | none => left; exact ⟨rfl, by unfold Qy.ft; rw [hq]⟩
  | some f => right; unfold Qy.ft; rw [hq]; exact h f hq

theorem rings_fact (M : Mem) {off z : Int} (wr : Bool) (o0 : 0 ≤ off) (o1 : off < 4294967296) (a : Int) (hpg : hasF a 2147483648 = true) (h : (segQ M (flatP 3 3 2147483649 4096) 3 off z wr).f = none) :
    segQ M (flatP 0 0 a 4096) 3 off z wr = segQ M (flatP 3 3 2147483649 4096) 3 off z wr ∧ sysQ M (flatP 3 3 2147483649 4096) off z wr = segQ M (flatP 3 3 2147483649 4096) 3 off z wr := by
  cases hz : okS z with
  | false =>
    exfalso
    unfold segQ at h
    rw [if_pos (.inl hz)] at h
    simp at h
  | true =>
    have hz' : z = 1 ∨ z = 2 ∨ z = 4 := of_decide_eq_true hz
    have u1 : (flatP 3 3 2147483649 4096).us = true := by decide
    have w1 : (flatP 3 3 2147483649 4096).wp = false := by decide
    have p1 : (flatP 3 3 2147483649 4096).pg = true := by decide
    have u2 : (flatP 0 0 a 4096).us = false := by show decide ((codS 0 0).sel % 4 = 3) = false; decide
    have p2 : (flatP 0 0 a 4096).pg = true := hpg
    rw [seg_flat M 3 3 _ _ wr o0 o1 hz', u1, w1, p1] at h ⊢
    rw [seg_flat M 0 0 _ _ wr o0 o1 hz', u2, p2]
    by_cases hr : off + z - 1 ≤ 4294967295
    · rw [if_pos hr] at h ⊢
      rw [if_pos hr]
      refine ⟨findQ_inner h _, ?_⟩
      unfold sysQ
      rw [if_neg (by rw [hz]; simp), p1, w1]
      exact findQ_inner h _
    · rw [if_neg hr] at h
      simp at h

theorem qput_n (q : Qy) (v : Int) : (q.put v).n = q.m.n := by
  unfold Qy.put
  split
  · rfl
  · exact (wrK_same _ _ _ _).1

/-- Memory and its keeper lie in these blocks. -/
def InR (V K B a b c d : Nat) : Prop := ∀ j, inVm V K B 16 j → a ≤ j ∧ j < b ∨ c ≤ j ∧ j < d
theorem inR_of {w1 w2 w3 w4 : World} {B V K pl tn : Nat} {R : Rf} {M : Mem} (h1 : ∀ j, both B 16 R j → w1.heap.size ≤ j) (h2 : RamAt w2 B M) (hn : M.n = 16) (hV : w3.heap.size < V) (hv : VmAt w4 V w3.heap.size B pl tn M) (hK : K = w3.heap.size) : InR V K B w1.heap.size w2.heap.size w3.heap.size w4.heap.size := by
  subst hK
  intro j hj
  have hl := h2.lt
  rw [hn] at hl
  have hv4 := hv.lt
  rcases hj with e | f | f
  · right; omega
  · left; exact ⟨h1 j (.inl f), by have := f.2; omega⟩
  · right
    obtain ⟨D, t⟩ := hv.tl
    have := t.lt
    rcases f with e | e <;> omega
end Go.Proofs.Ytmmnnafjikilpaa
