/- The walk of the statement BitopOrders: for every input within its kinds it returns true, and the world has at most new blocks. -/
import Derived.Test.YtelclgelooljlaaBitAwake
import Derived.Test.YtelclgelooljlaaADoes
import Derived.LoopN
namespace Go.Proofs.Ytelclgelooljlaa
open Go.ChangeShapes Go.WideShapes Go.ChangeAt Go.RowKit
set_option linter.unusedVariables false

theorem Do4 (op a b f : Int) (w : World) (o0 : 0 ≤ op) (o1 : op ≤ 12) (a0 : 0 ≤ a) (a1 : a < 4294967296) (b0 : 0 ≤ b) (b1 : b < 4294967296) (f0 : 0 ≤ f) (f1 : f < 4294967296) :
    Calls Try.prog 20 #[.int .i64 op, .int .i64 4, .int .u32 a, .int .u32 b, .int .u32 f] w fun e w' =>
      e = .returned (.tuple #[.int .u32 (doR op 4294967296 a b f), .int .u32 (doF op 4294967296 2147483648 a b f), .int .i64 0]) ∧ Grown w w' := by
  have h := Do_ok sz4 op a b f w o0 o1 a0 a1 b0 b1 f0 f1
  rw [Int.emod_eq_of_lt a0 a1, Int.emod_eq_of_lt b0 b1] at h
  exact h

/-- bitop.Cond answers so, whatever the world, and the world grows at most -/
def CondIs (cc f : Int) (b : Bool) : Prop := ∀ w, Calls Try.prog 10 #[.int .i64 cc, .int .u32 f] w fun e w' => e = .returned (.tuple #[.bool b, .int .i64 0]) ∧ Grown w w'

theorem Grown.holdsB {W w' : World} (h : Grown W w') {p : Addr} {v : Value} (hc : W.cell? p = some v) : w'.cell? p = some v := by
  have hp : p.block < W.heap.size := by
    refine Nat.lt_of_not_le fun hn => ?_
    have e : W.heap[p.block]? = none := Array.getElem?_eq_none hn
    unfold World.cell? at hc
    rw [e] at hc
    cases hc
  rw [Grown.cell h hp]; exact hc

/-- both slices' cells, behind whatever grew since -/
theorem held (p1 p2 p3 p4 p5 : Bool) {W w' : World} (g : Grown ((W.alloc (.cells #[.bool p1, .bool p2, .bool p3, .bool p4, .bool p5] 4)).alloc (.cells #[.int .i64 2, .int .i64 4, .int .i64 6, .int .i64 12, .int .i64 14] 3)) w') :
    (w'.cell? ⟨W.heap.size, 0, none⟩ = some (.bool p1) ∧ w'.cell? ⟨W.heap.size, 1, none⟩ = some (.bool p2) ∧ w'.cell? ⟨W.heap.size, 2, none⟩ = some (.bool p3) ∧ w'.cell? ⟨W.heap.size, 3, none⟩ = some (.bool p4) ∧ w'.cell? ⟨W.heap.size, 4, none⟩ = some (.bool p5)) ∧
    w'.cell? ⟨W.heap.size + 1, 0, none⟩ = some (.int .i64 2) ∧ w'.cell? ⟨W.heap.size + 1, 1, none⟩ = some (.int .i64 4) ∧ w'.cell? ⟨W.heap.size + 1, 2, none⟩ = some (.int .i64 6) ∧ w'.cell? ⟨W.heap.size + 1, 3, none⟩ = some (.int .i64 12) ∧ w'.cell? ⟨W.heap.size + 1, 4, none⟩ = some (.int .i64 14) := by
  refine ⟨⟨?_, ?_, ?_, ?_, ?_⟩, ?_, ?_, ?_, ?_, ?_⟩ <;> (refine Grown.holdsB g ?_; simp [go_sem])

set_option maxRecDepth 20000 in
set_option maxHeartbeats 2000000 in
theorem orders_core (a b r F : Int) (p1 p2 p3 p4 p5 : Bool) (w : World) (hD : ∀ w, Calls Try.prog 20 #[.int .i64 7, .int .i64 4, .int .u32 a, .int .u32 b, .int .u32 0] w fun e w' => e = .returned (.tuple #[.int .u32 r, .int .u32 F, .int .i64 0]) ∧ Grown w w')
    (c2 : CondIs 2 F p1) (c3 : CondIs 3 F (!p1)) (c4 : CondIs 4 F p2) (c5 : CondIs 5 F (!p2)) (c6 : CondIs 6 F p3) (c7 : CondIs 7 F (!p3)) (c12 : CondIs 12 F p4) (c13 : CondIs 13 F (!p4)) (c14 : CondIs 14 F p5) (c15 : CondIs 15 F (!p5))
    (a0 : 0 ≤ a) (a1 : a < 4294967296) (b0 : 0 ≤ b) (b1 : b < 4294967296) (e1 : decide (a < b) = p1) (e2 : (a == b) = p2) (e3 : decide (a ≤ b) = p3) (e4 : decide (wrap32 a < wrap32 b) = p4) (e5 : decide (wrap32 a ≤ wrap32 b) = p5) :
    Calls Try.prog 7 #[.int .u32 a, .int .u32 b] w fun e w' => e = .returned (.bool true) ∧ Grown w w' := by
  go_enter Try.func7, Try.ntmps7
  go_wp2_with fail
  refine (awake_any _).mono ?_; rintro e w1 ⟨rfl, g1⟩
  go_wp2_with fail
  refine (hD _).mono ?_; rintro e w2 ⟨rfl, g2⟩
  have gw := Grown.trans g1 g2
  clear g1 g2 hD
  go_wp2_with fail
  refine wp_loop_rounds 6 ?_
  rw [rounds_succ]
  go_wp2_with fail
  refine (c2 _).mono ?_; rintro e w3 ⟨rfl, g3⟩
  have G3 := g3
  clear g3
  obtain ⟨⟨q0, q1, q2, q3, q4⟩, u0, u1, u2, u3, u4⟩ := held p1 p2 p3 p4 p5 G3
  go_wp2_with fail
  refine (c3 _).mono ?_; rintro e w4 ⟨rfl, g4⟩
  have G4 := Grown.trans G3 g4
  clear g4
  clear q0 q1 q2 q3 q4 u0 u1 u2 u3 u4
  obtain ⟨⟨q0, q1, q2, q3, q4⟩, u0, u1, u2, u3, u4⟩ := held p1 p2 p3 p4 p5 G4
  go_wp2_with fail
  rw [rounds_succ]
  go_wp2_with fail
  refine (c4 _).mono ?_; rintro e w5 ⟨rfl, g5⟩
  have G5 := Grown.trans G4 g5
  clear g5
  clear q0 q1 q2 q3 q4 u0 u1 u2 u3 u4
  obtain ⟨⟨q0, q1, q2, q3, q4⟩, u0, u1, u2, u3, u4⟩ := held p1 p2 p3 p4 p5 G5
  go_wp2_with fail
  refine (c5 _).mono ?_; rintro e w6 ⟨rfl, g6⟩
  have G6 := Grown.trans G5 g6
  clear g6
  clear q0 q1 q2 q3 q4 u0 u1 u2 u3 u4
  obtain ⟨⟨q0, q1, q2, q3, q4⟩, u0, u1, u2, u3, u4⟩ := held p1 p2 p3 p4 p5 G6
  go_wp2_with fail
  rw [rounds_succ]
  go_wp2_with fail
  refine (c6 _).mono ?_; rintro e w7 ⟨rfl, g7⟩
  have G7 := Grown.trans G6 g7
  clear g7
  clear q0 q1 q2 q3 q4 u0 u1 u2 u3 u4
  obtain ⟨⟨q0, q1, q2, q3, q4⟩, u0, u1, u2, u3, u4⟩ := held p1 p2 p3 p4 p5 G7
  go_wp2_with fail
  refine (c7 _).mono ?_; rintro e w8 ⟨rfl, g8⟩
  have G8 := Grown.trans G7 g8
  clear g8
  clear q0 q1 q2 q3 q4 u0 u1 u2 u3 u4
  obtain ⟨⟨q0, q1, q2, q3, q4⟩, u0, u1, u2, u3, u4⟩ := held p1 p2 p3 p4 p5 G8
  go_wp2_with fail
  rw [rounds_succ]
  go_wp2_with fail
  refine (c12 _).mono ?_; rintro e w9 ⟨rfl, g9⟩
  have G9 := Grown.trans G8 g9
  clear g9
  clear q0 q1 q2 q3 q4 u0 u1 u2 u3 u4
  obtain ⟨⟨q0, q1, q2, q3, q4⟩, u0, u1, u2, u3, u4⟩ := held p1 p2 p3 p4 p5 G9
  go_wp2_with fail
  refine (c13 _).mono ?_; rintro e w10 ⟨rfl, g10⟩
  have G10 := Grown.trans G9 g10
  clear g10
  clear q0 q1 q2 q3 q4 u0 u1 u2 u3 u4
  obtain ⟨⟨q0, q1, q2, q3, q4⟩, u0, u1, u2, u3, u4⟩ := held p1 p2 p3 p4 p5 G10
  go_wp2_with fail
  rw [rounds_succ]
  go_wp2_with fail
  refine (c14 _).mono ?_; rintro e w11 ⟨rfl, g11⟩
  have G11 := Grown.trans G10 g11
  clear g11
  clear q0 q1 q2 q3 q4 u0 u1 u2 u3 u4
  obtain ⟨⟨q0, q1, q2, q3, q4⟩, u0, u1, u2, u3, u4⟩ := held p1 p2 p3 p4 p5 G11
  go_wp2_with fail
  refine (c15 _).mono ?_; rintro e w12 ⟨rfl, g12⟩
  have G12 := Grown.trans G11 g12
  clear g12
  clear q0 q1 q2 q3 q4 u0 u1 u2 u3 u4
  obtain ⟨⟨q0, q1, q2, q3, q4⟩, u0, u1, u2, u3, u4⟩ := held p1 p2 p3 p4 p5 G12
  go_wp2_with fail
  rw [rounds_succ]
  go_wp2
  go_ret
  exact ⟨rfl, Grown.trans gw (Grown.trans (Grown.alloc (Grown.alloc (Grown.refl _) _ _) _ _) G12)⟩

theorem condR_is {f : Int} {c z l : Bool} (hc : hasF f 1 = c) (hz : hasF f 64 = z) (hl : (hasF f 128 != hasF f 2048) = l) :
    condR 2 f = c ∧ condR 3 f = (!c) ∧ condR 4 f = z ∧ condR 5 f = (!z) ∧ condR 6 f = (c || z) ∧ condR 7 f = (!(c || z)) ∧ condR 12 f = l ∧ condR 13 f = (!l) ∧ condR 14 f = (z || l) ∧ condR 15 f = (!(z || l)) := by
  subst hc hz hl
  refine ⟨?_, ?_, ?_, ?_, ?_, ?_, ?_, ?_, ?_, ?_⟩ <;> simp [condR, condB]

theorem BitopOrders_walk (a0 a1 : Int) (w0 : (Lit.int .u32 a0).wf = true) (w1 : (Lit.int .u32 a1).wf = true) (w : World) :
    Calls Try.prog 7 #[.int .u32 a0, .int .u32 a1] w fun e w' => e = .returned (.bool true) ∧ Grown w w' := by
  have b0 := bounds_u32 w0
  have b1 := bounds_u32 w1
  have x0 : 0 ≤ a0 := b0.1
  have x1 : a0 < 4294967296 := by omega
  have y0 : 0 ≤ a1 := b1.1
  have y1 : a1 < 4294967296 := by omega
  clear w0 w1 b0 b1
  have hF := doF_bd (f := 0) (by decide) (by decide) 7 4294967296 2147483648 a0 a1
  obtain ⟨hc, hz, hl⟩ := orders sz4 (f := 0) x0 x1 y0 y1 (by decide) (by decide)
  obtain ⟨r2, r3, r4, r5, r6, r7, r12, r13, r14, r15⟩ := condR_is hc hz hl
  have hD := fun w => Do4 7 a0 a1 0 w (by decide) (by decide) x0 x1 y0 y1 (by decide) (by decide)
  generalize doF 7 4294967296 2147483648 a0 a1 0 = F at *
  have hs : ∀ x : Int, 0 ≤ x → x < 4294967296 → wrap32 x = sgv 4294967296 2147483648 x := fun x h0 h1 => by
    unfold wrap32 sgv; split <;> omega
  refine orders_core a0 a1 _ F _ _ _ _ _ w hD (fun w => r2 ▸ btCond_2 F w hF.1 hF.2) (fun w => r3 ▸ btCond_3 F w hF.1 hF.2) (fun w => r4 ▸ btCond_4 F w hF.1 hF.2) (fun w => r5 ▸ btCond_5 F w hF.1 hF.2) (fun w => r6 ▸ btCond_6 F w hF.1 hF.2) (fun w => r7 ▸ btCond_7 F w hF.1 hF.2)
    (fun w => r12 ▸ btCond_12 F w hF.1 hF.2) (fun w => r13 ▸ btCond_13 F w hF.1 hF.2) (fun w => r14 ▸ btCond_14 F w hF.1 hF.2) (fun w => r15 ▸ btCond_15 F w hF.1 hF.2) x0 x1 y0 y1 rfl rfl ?_ ?_ ?_
  · rw [Bool.eq_iff_iff]; simp; omega
  · rw [hs a0 x0 x1, hs a1 y0 y1]
  · rw [hs a0 x0 x1, hs a1 y0 y1, Bool.eq_iff_iff]
    have e : sgv 4294967296 2147483648 a0 = sgv 4294967296 2147483648 a1 ↔ a0 = a1 := by unfold sgv; constructor <;> intro h <;> (repeat' split at h) <;> (try split) <;> omega
    simp only [decide_eq_true_eq, Bool.or_eq_true, beq_iff_eq, ← e]
    omega
end Go.Proofs.Ytelclgelooljlaa
