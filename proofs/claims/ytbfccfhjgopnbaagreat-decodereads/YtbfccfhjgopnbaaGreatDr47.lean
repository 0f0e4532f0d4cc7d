/- The document's reader, and the code's (DecodeReadsLaw). -/
import Derived.Test.YtbfccfhjgopnbaaGreatDr17
import Derived.Test.YtbfccfhjgopnbaaGreatDr18
import Derived.Test.YtbfccfhjgopnbaaGreatDr08
set_option linter.unusedSimpArgs false
namespace Go.Proofs.YtbfccfhjgopnbaaGreat
open Go.ChangeShapes Go.WideShapes Go.ChangeAt Go.RowKit
set_option linter.unusedVariables false
set_option maxRecDepth 20000
theorem BytAt.kp {w w' : World} {a : Option Addr} {L : Nat} {bt : Nat → Int} (h : BytAt w a L bt) (k : Kp noB w w') : BytAt w' a L bt := fun j hj => by
  obtain ⟨b, o, e, hb, hc⟩ := h j hj
  exact ⟨b, o, e, Nat.lt_of_lt_of_le hb k.size, cell_kept hc k id⟩
set_option maxHeartbeats 4000000 in
theorem DecodeReads_walk (w : World) (a0 : Option Addr) (L cap : Nat) (bt : Nat → Int) (hB : BytIn w a0 L bt) :
    Calls Tryz.prog 3 #[.slice a0 L cap] w fun e w' => e = .returned (.bool true) ∧ Below w.heap.size w w' := by
  obtain ⟨T, nI, Z, fsI, psI, h⟩ := vlF
  have H : Hid _ := h
  obtain ⟨vl, vs, vb, va, ve⟩ := h.ops
  have v1 := h.agg
  have v2 := h.size
  have v3 := h.zero
  have v4 := h.under
  have v5 := h.map
  have v6 := h.guard
  have v7 := h.zs
  have v8 := h.zn
  have cA := awake_ok tabOk w
  have hle : L ≤ 4611686018427387904 := by have := hB.le; omega
  have HD : Hid (∀ w1, Kp noB w w1 → Calls Tryz.prog 5 #[.slice a0 L cap] w1 fun e w' => e = .returned (.tuple #[.agg (insV (decM ruleOf L bt).1), .int .i64 (decM ruleOf L bt).2]) ∧ Kp noB w1 w') := fun w1 k => decode_ok ruleOf tabOk w1 a0 cap L bt hle (hB.at'.kp k) hB.bd
  have HE : Hid (∀ w1, Kp noB w w1 → Calls Tryz.prog 6 #[.slice a0 L cap] w1 fun e w' => e = .returned (.tuple #[.agg (insV (decM ruleOf L bt).1), .int .i64 (decM ruleOf L bt).2]) ∧ Kp noB w1 w') := fun w1 k => rdecode_ok w1 a0 cap L bt hle (hB.at'.kp k) hB.bd
  obtain ⟨D, hD⟩ : ∃ D, D = decM ruleOf L bt := ⟨_, rfl⟩
  rw [← hD] at HD HE
  obtain ⟨x, er⟩ := D
  have s1 := h.v.cells x
  have n1 := h.new x
  have q1 := fun w => h.eql w x x
  simp only [decide_true] at q1
  clear h hB hD hle
  go_enter Tryz.func3, Tryz.ntmps3
  simp only [vl, vs, va, ve]
  clear vl vs vb va ve
  go_wp2_with fail
  refine cA.mono ?_; rintro e w1 ⟨rfl, k1⟩
  have cD := HD.out w1 k1
  clear cA HD
  go_wp2_with fail
  refine cD.mono ?_; rintro e w2 ⟨rfl, k2⟩
  have k3 := (k1.trans k2).trans (Kp.alloc noB w2 (.cells (insV x) T))
  have hq := (MapKept.heap_alloc w2 (.cells (insV x) T)).1
  have cE := HE.out _ k3
  have HQ : Hid _ := hq
  have K3 : Hid _ := k3
  clear cD k1 k2 HE k3 hq
  go_wp2_with fail
  refine cE.mono ?_; rintro e w4 ⟨rfl, k4⟩
  have K5 : Hid _ := (K3.out.trans k4).trans (Kp.alloc noB w4 (.cells (insV x) T))
  have l1 := H.out.get (heap_kept HQ.out (k4.trans (Kp.alloc noB w4 (.cells (insV x) T))) id)
  have l2 := H.out.get (MapKept.heap_alloc w4 (.cells (insV x) T)).1
  clear cE k4 HQ K3
  go_wp2
  go_ret
  exact ⟨rfl, K5.out.below⟩
end Go.Proofs.YtbfccfhjgopnbaaGreat
