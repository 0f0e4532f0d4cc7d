/- Plain facts of flat processors: a wide value is its bytes; code is what is loaded. -/
import Derived.Test.YtmmnnafjikilpaaVmFacts
import Derived.Test.YtmmnnafjikilpaaVmAwake
namespace Go.Proofs.Ytmmnnafjikilpaa
open Go.ChangeShapes Go.WideShapes Go.ChangeAt Go.RowKit Go.Maps
set_option linter.unusedVariables false

theorem find1 (M : Mem) (pg : Bool) (c l : Int) (wr us wp : Bool) : findQ M pg c l 1 wr us wp = if pg = false then ⟨none, M, ⟨l, 0, 1, 1⟩⟩ else if fOk M c l wr us wp = false then ⟨some ⟨14, fCode M c l wr us wp, l⟩, M, ⟨0, 0, 0, 0⟩⟩ else ⟨none, fMem M c l wr us wp, ⟨plF M c l wr us wp, 0, 1, 1⟩⟩ := by
  have ha : ahd l 1 = 1 := by unfold ahd; omega
  unfold findQ
  rw [ha]
  simp only [Nat.le_refl, if_true]

theorem rdS1 (M : Mem) (a : Int) : M.rdS ⟨a, 0, 1, 1⟩ = M.rd (a % 4294967296) := by
  unfold Mem.rdS Mem.spB Sp.at
  simp

theorem find1_again {M : Mem} (g : Gd M) (pg : Bool) {c l : Int} (c0 : 0 ≤ c) (c1 : c < 4294967296) (l0 : 0 ≤ l) (l1 : l < 4294967296) (wr us wp : Bool) : findQ (findQ M pg c l 1 wr us wp).m pg c l 1 wr us wp = findQ M pg c l 1 wr us wp := by
  rw [find1 M]
  cases pg with
  | false => simp only [if_true]; rw [find1]; simp
  | true =>
    simp only [Bool.true_eq_false, if_false]
    cases ho : fOk M c l wr us wp with
    | false => simp only [if_true]; rw [find1, ho]; simp
    | true =>
      simp only [Bool.true_eq_false, if_false]
      have k := Lk.find g c0 c1 l0 l1 wr us wp
      obtain ⟨e1, e2, e3⟩ := k.ok g c0 c1 l0 l1 wr us wp
      rw [find1, e1, ho, e3, find_again g (g.find c l wr us wp) (Lk.refl _) c0 c1 l0 l1 ho]
      simp

theorem parts_byte {M : Mem} (g : Gd M) (pg : Bool) {c off : Int} (c0 : 0 ≤ c) (c1 : c < 4294967296) (o0 : 0 ≤ off) (o1 : off + 3 < 4294967296) (us wp : Bool) (hf : (findQ M pg c off 4 false us wp).f = none) (i : Nat) (hi : i < 4) :
    (findQ (findQ M pg c off 4 false us wp).m pg c (off + i) 1 false us wp).f = none ∧ (findQ (findQ M pg c off 4 false us wp).m pg c (off + i) 1 false us wp).m = (findQ M pg c off 4 false us wp).m ∧
    (findQ M pg c off 4 false us wp).m.rdS (findQ (findQ M pg c off 4 false us wp).m pg c (off + i) 1 false us wp).s = (findQ M pg c off 4 false us wp).m.spB (findQ M pg c off 4 false us wp).s i := by
  have l0 : 0 ≤ off + i := by omega
  have l1 : off + i < 4294967296 := by omega
  unfold findQ at hf
  split at hf
  · rename_i e
    have e' : findQ M pg c off 4 false us wp = ⟨none, M, ⟨off, 0, 4, 4⟩⟩ := by unfold findQ; rw [if_pos e]
    rw [e', find1, if_pos e]
    refine ⟨rfl, rfl, ?_⟩
    rw [rdS1]
    unfold Mem.spB Sp.at
    simp only
    rw [if_pos hi, if_pos hi]
  · rename_i e
    split at hf
    · simp at hf
    · rename_i e2
      have k1 : fOk M c off false us wp = true := by simpa using e2
      have g1 := g.find c off false us wp
      have L1 := Lk.find g c0 c1 o0 (by omega) false us wp
      obtain ⟨q1, q2, q3⟩ := L1.ok g c0 c1 o0 (by omega) false us wp
      split at hf
      · rename_i e3
        have e' : findQ M pg c off 4 false us wp = ⟨none, fMem M c off false us wp, ⟨plF M c off false us wp, 0, ahd off 4, 4⟩⟩ := by unfold findQ; rw [if_neg e, if_neg e2, if_pos e3]
        have hh : ahd off 4 = 4 := by unfold ahd at e3 ⊢; omega
        have hp : (off + i) / 4096 = off / 4096 := by unfold ahd at e3; omega
        obtain ⟨p1, p2, p3⟩ := page_same (M := fMem M c off false us wp) (c := c) hp false us wp
        rw [e', find1, if_neg e, p1, q1, if_neg e2, p2, find_again g g1 (Lk.refl _) c0 c1 o0 (by omega) k1]
        refine ⟨rfl, rfl, ?_⟩
        rw [rdS1]
        unfold Mem.spB Sp.at
        simp only
        rw [if_pos hi, hh, if_pos hi]
        congr 1
        unfold plF at q3 ⊢
        rw [p3]
        have : fFr (fMem M c off false us wp) c off = fFr M c off := by omega
        rw [this]
        unfold ahd at hh
        omega
      · rename_i e3
        split at hf
        · simp at hf
        · rename_i e4
          have e' : findQ M pg c off 4 false us wp = ⟨none, fMem (fMem M c off false us wp) c (nxt off 4) false us wp, ⟨plF M c off false us wp, plF (fMem M c off false us wp) c (nxt off 4) false us wp, ahd off 4, 4⟩⟩ := by unfold findQ; rw [if_neg e, if_neg e2, if_neg e3, if_neg e4]
          have k2 : fOk (fMem M c off false us wp) c (nxt off 4) false us wp = true := by simpa using e4
          have n0 : 0 ≤ nxt off 4 := by unfold nxt; omega
          have n1 : nxt off 4 < 4294967296 := by unfold nxt; omega
          have hn : nxt off 4 = off + ahd off 4 := by unfold nxt; unfold ahd at e3 ⊢; omega
          have hz : (nxt off 4) % 4096 = 0 := by rw [hn]; unfold ahd at e3 ⊢; omega
          have g2 := g1.find c (nxt off 4) false us wp
          have L2 := Lk.find g1 c0 c1 n0 n1 false us wp
          rw [e', find1, if_neg e]
          by_cases hih : i < ahd off 4
          · have hp : (off + i) / 4096 = off / 4096 := by unfold ahd at e3 hih; omega
            obtain ⟨p1, p2, p3⟩ := page_same (M := fMem (fMem M c off false us wp) c (nxt off 4) false us wp) (c := c) hp false us wp
            obtain ⟨r1, r2, r3⟩ := L2.ok g1 c0 c1 o0 (by omega) false us wp
            simp only
            rw [p1, r1, q1, if_neg e2, p2, find_again g g2 L2 c0 c1 o0 (by omega) k1]
            refine ⟨rfl, rfl, ?_⟩
            rw [rdS1]
            unfold Mem.spB Sp.at
            simp only
            rw [if_pos hi, if_pos hih]
            congr 1
            unfold plF at q3 r3 ⊢
            rw [p3]
            have : fFr (fMem (fMem M c off false us wp) c (nxt off 4) false us wp) c off = fFr M c off := by omega
            rw [this]
            unfold ahd at hih e3
            omega
          · have hp : (off + i) / 4096 = nxt off 4 / 4096 := by rw [hn]; unfold ahd at e3 hih ⊢; omega
            obtain ⟨p1, p2, p3⟩ := page_same (M := fMem (fMem M c off false us wp) c (nxt off 4) false us wp) (c := c) hp false us wp
            obtain ⟨r1, r2, r3⟩ := L2.ok g1 c0 c1 n0 n1 false us wp
            simp only
            rw [p1, r1, if_neg e4, p2, find_again g1 g2 (Lk.refl _) c0 c1 n0 n1 k2]
            refine ⟨rfl, rfl, ?_⟩
            rw [rdS1]
            unfold Mem.spB Sp.at
            simp only
            rw [if_pos hi, if_neg hih]
            congr 1
            unfold plF at r3 ⊢
            rw [p3]
            have : fFr (fMem (fMem M c off false us wp) c (nxt off 4) false us wp) c (nxt off 4) = fFr (fMem M c off false us wp) c (nxt off 4) := by omega
            rw [this, hz]
            unfold ahd at hih e3 hn hz ⊢
            omega

/-! ### flat segments -/
theorem reach_flat {off z : Int} (wr : Bool) (o0 : 0 ≤ off) (hz : z = 1 ∨ z = 2 ∨ z = 4) : Sg.reachB 4294967295 2 false true true off z wr = decide (off + z - 1 ≤ 4294967295) := by
  have r1 : Sg.rR false 2 = true := by decide
  have r2 : Sg.rW false 2 = true := by decide
  have r3 : Sg.rD false 2 = false := by decide
  have r4 : Sg.szB z = true := by rcases hz with rfl | rfl | rfl <;> decide
  unfold Sg.reachB Sg.reachX
  rw [r1, r2, r3, r4]
  cases wr <;> simp

theorem linB_zero {off : Int} (o0 : 0 ≤ off) (o1 : off < 4294967296) : linB 0 off = off := by unfold linB; omega

theorem seg_flat (M : Mem) (s d a b : Int) {off z : Int} (wr : Bool) (o0 : 0 ≤ off) (o1 : off < 4294967296) (hz : z = 1 ∨ z = 2 ∨ z = 4) :
    segQ M (flatP s d a b) 3 off z wr = if off + z - 1 ≤ 4294967295 then findQ M (flatP s d a b).pg b off z.toNat wr (flatP s d a b).us (flatP s d a b).wp else ⟨some (ftV 13), M, ⟨0, 0, 0, 0⟩⟩ := by
  have hok : okS z = true := by rcases hz with rfl | rfl | rfl <;> decide
  have e3 : (flatP s d a b).seg (3 : Int).toNat = datS s d := rfl
  unfold segQ
  rw [if_neg (by rw [hok]; simp), e3]
  have er : Sg.reachB (datS s d).l (datS s d).t (datS s d).s (datS s d).p (datS s d).g off z wr = decide (off + z - 1 ≤ 4294967295) := reach_flat wr o0 hz
  rw [er]
  by_cases h : off + z - 1 ≤ 4294967295
  · rw [if_pos h, if_neg (by simp [h, datS])]
    show findQ M _ b (linB 0 off) _ _ _ _ = _
    rw [linB_zero o0 o1]
  · rw [if_neg h, if_pos (by simp [h])]
    rfl

theorem cod_flat (M : Mem) (s d a b : Int) {off : Int} (o0 : 0 ≤ off) (o1 : off < 4294967296) : codQ M (flatP s d a b) off = findQ M (flatP s d a b).pg b off 1 false (flatP s d a b).us (flatP s d a b).wp := by
  have e1 : (flatP s d a b).seg 1 = codS s d := rfl
  unfold codQ
  rw [e1]
  have el : (codS s d).l = 4294967295 := rfl
  have eb : (codS s d).b = 0 := rfl
  rw [el, eb, if_neg (by omega), linB_zero o0 o1]
  rfl

theorem flat_cr {cs : Array Value} {s d a b a' b' : Int} (wf : WfC cs) (h : CpC cs (flatP s d a b)) : CpC ((cs.setIfInBounds 64 (.int .u32 a')).setIfInBounds 66 (.int .u32 b')) (flatP s d a' b') := by
  refine ⟨fun i hi => ?_, ?_, ?_⟩
  · exact ((h.sg i hi).past (by omega)).past (by omega)
  · rw [Array.getElem?_setIfInBounds_ne (by omega)]
    exact Array.getElem?_setIfInBounds_self_of_lt (by rw [wf.s]; omega)
  · exact Array.getElem?_setIfInBounds_self_of_lt (by rw [Array.size_setIfInBounds, wf.s]; omega)
theorem flat_c64 {cs : Array Value} {s d a b a' : Int} (wf : WfC cs) (h : CpC cs (flatP s d a b)) : CpC (cs.setIfInBounds 64 (.int .u32 a')) (flatP s d a' b) := by
  refine ⟨fun i hi => (h.sg i hi).past (by omega), Array.getElem?_setIfInBounds_self_of_lt (by rw [wf.s]; omega), ?_⟩
  rw [Array.getElem?_setIfInBounds_ne (by omega)]
  exact h.t
theorem flat_c66 {cs : Array Value} {s d a b b' : Int} (wf : WfC cs) (h : CpC cs (flatP s d a b)) : CpC (cs.setIfInBounds 66 (.int .u32 b')) (flatP s d a b') := by
  refine ⟨fun i hi => (h.sg i hi).past (by omega), ?_, Array.getElem?_setIfInBounds_self_of_lt (by rw [wf.s]; omega)⟩
  rw [Array.getElem?_setIfInBounds_ne (by omega)]
  exact h.z
end Go.Proofs.Ytmmnnafjikilpaa
