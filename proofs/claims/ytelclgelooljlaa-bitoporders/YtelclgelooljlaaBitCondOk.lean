/- The contract of bitop.Cond: for every input within its kinds it returns what is named, and the world has at most new blocks. -/
import Derived.Test.YtelclgelooljlaaBitCond
namespace Go.Proofs.Ytelclgelooljlaa
open Go.ChangeShapes Go.WideShapes Go.ChangeAt Go.RowKit
set_option linter.unusedVariables false

theorem ret_bi {k : IntKind} {a b : Bool} {c : Int} (h : a = b) : Ending.returned (.tuple #[.bool a, .int k c]) = .returned (.tuple #[.bool b, .int k c]) := by rw [h]

theorem bidx0 (b0 b1 b2 b3 b4 b5 b6 b7 : Bool) (w : World) : Sem.run Try.prog (Instr.index 41 (.agg #[.bool b0, .bool b1, .bool b2, .bool b3, .bool b4, .bool b5, .bool b6, .bool b7]) (.int .i64 0)) w = .ok (.bool b0) w := by kernel_rfl

theorem bidx1 (b0 b1 b2 b3 b4 b5 b6 b7 : Bool) (w : World) : Sem.run Try.prog (Instr.index 41 (.agg #[.bool b0, .bool b1, .bool b2, .bool b3, .bool b4, .bool b5, .bool b6, .bool b7]) (.int .i64 1)) w = .ok (.bool b1) w := by kernel_rfl

theorem bidx2 (b0 b1 b2 b3 b4 b5 b6 b7 : Bool) (w : World) : Sem.run Try.prog (Instr.index 41 (.agg #[.bool b0, .bool b1, .bool b2, .bool b3, .bool b4, .bool b5, .bool b6, .bool b7]) (.int .i64 2)) w = .ok (.bool b2) w := by kernel_rfl

theorem bidx3 (b0 b1 b2 b3 b4 b5 b6 b7 : Bool) (w : World) : Sem.run Try.prog (Instr.index 41 (.agg #[.bool b0, .bool b1, .bool b2, .bool b3, .bool b4, .bool b5, .bool b6, .bool b7]) (.int .i64 3)) w = .ok (.bool b3) w := by kernel_rfl

theorem bidx4 (b0 b1 b2 b3 b4 b5 b6 b7 : Bool) (w : World) : Sem.run Try.prog (Instr.index 41 (.agg #[.bool b0, .bool b1, .bool b2, .bool b3, .bool b4, .bool b5, .bool b6, .bool b7]) (.int .i64 4)) w = .ok (.bool b4) w := by kernel_rfl

theorem bidx5 (b0 b1 b2 b3 b4 b5 b6 b7 : Bool) (w : World) : Sem.run Try.prog (Instr.index 41 (.agg #[.bool b0, .bool b1, .bool b2, .bool b3, .bool b4, .bool b5, .bool b6, .bool b7]) (.int .i64 5)) w = .ok (.bool b5) w := by kernel_rfl

theorem bidx6 (b0 b1 b2 b3 b4 b5 b6 b7 : Bool) (w : World) : Sem.run Try.prog (Instr.index 41 (.agg #[.bool b0, .bool b1, .bool b2, .bool b3, .bool b4, .bool b5, .bool b6, .bool b7]) (.int .i64 6)) w = .ok (.bool b6) w := by kernel_rfl

theorem bidx7 (b0 b1 b2 b3 b4 b5 b6 b7 : Bool) (w : World) : Sem.run Try.prog (Instr.index 41 (.agg #[.bool b0, .bool b1, .bool b2, .bool b3, .bool b4, .bool b5, .bool b6, .bool b7]) (.int .i64 7)) w = .ok (.bool b7) w := by kernel_rfl

theorem btCond_0 (f : Int) (w : World) (f0 : 0 ≤ f) (f1 : f < 4294967296) :
    Calls Try.prog 10 #[.int .i64 0, .int .u32 f] w fun e w' => e = .returned (.tuple #[.bool (condR 0 f), .int .i64 0]) ∧ Grown w w' := by
  have hi := bidx0
  go_enter Try.func10, Try.ntmps10
  go_wp2_with (go_at_call 21; refine (btConds_any _ _ f0 f1).mono ?_; rintro e w1 ⟨rfl, hg⟩)
  go_ret2
  refine ⟨ret_bi ?_, hg⟩
  simp [condR, condB]

theorem btCond_1 (f : Int) (w : World) (f0 : 0 ≤ f) (f1 : f < 4294967296) :
    Calls Try.prog 10 #[.int .i64 1, .int .u32 f] w fun e w' => e = .returned (.tuple #[.bool (condR 1 f), .int .i64 0]) ∧ Grown w w' := by
  have hi := bidx0
  go_enter Try.func10, Try.ntmps10
  go_wp2_with (go_at_call 21; refine (btConds_any _ _ f0 f1).mono ?_; rintro e w1 ⟨rfl, hg⟩)
  go_ret2
  refine ⟨ret_bi ?_, hg⟩
  simp [condR, condB]

theorem btCond_2 (f : Int) (w : World) (f0 : 0 ≤ f) (f1 : f < 4294967296) :
    Calls Try.prog 10 #[.int .i64 2, .int .u32 f] w fun e w' => e = .returned (.tuple #[.bool (condR 2 f), .int .i64 0]) ∧ Grown w w' := by
  have hi := bidx1
  go_enter Try.func10, Try.ntmps10
  go_wp2_with (go_at_call 21; refine (btConds_any _ _ f0 f1).mono ?_; rintro e w1 ⟨rfl, hg⟩)
  go_ret2
  refine ⟨ret_bi ?_, hg⟩
  simp [condR, condB]

theorem btCond_3 (f : Int) (w : World) (f0 : 0 ≤ f) (f1 : f < 4294967296) :
    Calls Try.prog 10 #[.int .i64 3, .int .u32 f] w fun e w' => e = .returned (.tuple #[.bool (condR 3 f), .int .i64 0]) ∧ Grown w w' := by
  have hi := bidx1
  go_enter Try.func10, Try.ntmps10
  go_wp2_with (go_at_call 21; refine (btConds_any _ _ f0 f1).mono ?_; rintro e w1 ⟨rfl, hg⟩)
  go_ret2
  refine ⟨ret_bi ?_, hg⟩
  simp [condR, condB]

theorem btCond_4 (f : Int) (w : World) (f0 : 0 ≤ f) (f1 : f < 4294967296) :
    Calls Try.prog 10 #[.int .i64 4, .int .u32 f] w fun e w' => e = .returned (.tuple #[.bool (condR 4 f), .int .i64 0]) ∧ Grown w w' := by
  have hi := bidx2
  go_enter Try.func10, Try.ntmps10
  go_wp2_with (go_at_call 21; refine (btConds_any _ _ f0 f1).mono ?_; rintro e w1 ⟨rfl, hg⟩)
  go_ret2
  refine ⟨ret_bi ?_, hg⟩
  simp [condR, condB]

theorem btCond_5 (f : Int) (w : World) (f0 : 0 ≤ f) (f1 : f < 4294967296) :
    Calls Try.prog 10 #[.int .i64 5, .int .u32 f] w fun e w' => e = .returned (.tuple #[.bool (condR 5 f), .int .i64 0]) ∧ Grown w w' := by
  have hi := bidx2
  go_enter Try.func10, Try.ntmps10
  go_wp2_with (go_at_call 21; refine (btConds_any _ _ f0 f1).mono ?_; rintro e w1 ⟨rfl, hg⟩)
  go_ret2
  refine ⟨ret_bi ?_, hg⟩
  simp [condR, condB]

theorem btCond_6 (f : Int) (w : World) (f0 : 0 ≤ f) (f1 : f < 4294967296) :
    Calls Try.prog 10 #[.int .i64 6, .int .u32 f] w fun e w' => e = .returned (.tuple #[.bool (condR 6 f), .int .i64 0]) ∧ Grown w w' := by
  have hi := bidx3
  go_enter Try.func10, Try.ntmps10
  go_wp2_with (go_at_call 21; refine (btConds_any _ _ f0 f1).mono ?_; rintro e w1 ⟨rfl, hg⟩)
  go_ret2
  refine ⟨ret_bi ?_, hg⟩
  simp [condR, condB]

theorem btCond_7 (f : Int) (w : World) (f0 : 0 ≤ f) (f1 : f < 4294967296) :
    Calls Try.prog 10 #[.int .i64 7, .int .u32 f] w fun e w' => e = .returned (.tuple #[.bool (condR 7 f), .int .i64 0]) ∧ Grown w w' := by
  have hi := bidx3
  go_enter Try.func10, Try.ntmps10
  go_wp2_with (go_at_call 21; refine (btConds_any _ _ f0 f1).mono ?_; rintro e w1 ⟨rfl, hg⟩)
  go_ret2
  refine ⟨ret_bi ?_, hg⟩
  simp [condR, condB]

theorem btCond_8 (f : Int) (w : World) (f0 : 0 ≤ f) (f1 : f < 4294967296) :
    Calls Try.prog 10 #[.int .i64 8, .int .u32 f] w fun e w' => e = .returned (.tuple #[.bool (condR 8 f), .int .i64 0]) ∧ Grown w w' := by
  have hi := bidx4
  go_enter Try.func10, Try.ntmps10
  go_wp2_with (go_at_call 21; refine (btConds_any _ _ f0 f1).mono ?_; rintro e w1 ⟨rfl, hg⟩)
  go_ret2
  refine ⟨ret_bi ?_, hg⟩
  simp [condR, condB]

theorem btCond_9 (f : Int) (w : World) (f0 : 0 ≤ f) (f1 : f < 4294967296) :
    Calls Try.prog 10 #[.int .i64 9, .int .u32 f] w fun e w' => e = .returned (.tuple #[.bool (condR 9 f), .int .i64 0]) ∧ Grown w w' := by
  have hi := bidx4
  go_enter Try.func10, Try.ntmps10
  go_wp2_with (go_at_call 21; refine (btConds_any _ _ f0 f1).mono ?_; rintro e w1 ⟨rfl, hg⟩)
  go_ret2
  refine ⟨ret_bi ?_, hg⟩
  simp [condR, condB]

theorem btCond_10 (f : Int) (w : World) (f0 : 0 ≤ f) (f1 : f < 4294967296) :
    Calls Try.prog 10 #[.int .i64 10, .int .u32 f] w fun e w' => e = .returned (.tuple #[.bool (condR 10 f), .int .i64 0]) ∧ Grown w w' := by
  have hi := bidx5
  go_enter Try.func10, Try.ntmps10
  go_wp2_with (go_at_call 21; refine (btConds_any _ _ f0 f1).mono ?_; rintro e w1 ⟨rfl, hg⟩)
  go_ret2
  refine ⟨ret_bi ?_, hg⟩
  simp [condR, condB]

theorem btCond_11 (f : Int) (w : World) (f0 : 0 ≤ f) (f1 : f < 4294967296) :
    Calls Try.prog 10 #[.int .i64 11, .int .u32 f] w fun e w' => e = .returned (.tuple #[.bool (condR 11 f), .int .i64 0]) ∧ Grown w w' := by
  have hi := bidx5
  go_enter Try.func10, Try.ntmps10
  go_wp2_with (go_at_call 21; refine (btConds_any _ _ f0 f1).mono ?_; rintro e w1 ⟨rfl, hg⟩)
  go_ret2
  refine ⟨ret_bi ?_, hg⟩
  simp [condR, condB]

theorem btCond_12 (f : Int) (w : World) (f0 : 0 ≤ f) (f1 : f < 4294967296) :
    Calls Try.prog 10 #[.int .i64 12, .int .u32 f] w fun e w' => e = .returned (.tuple #[.bool (condR 12 f), .int .i64 0]) ∧ Grown w w' := by
  have hi := bidx6
  go_enter Try.func10, Try.ntmps10
  go_wp2_with (go_at_call 21; refine (btConds_any _ _ f0 f1).mono ?_; rintro e w1 ⟨rfl, hg⟩)
  go_ret2
  refine ⟨ret_bi ?_, hg⟩
  simp [condR, condB]

theorem btCond_13 (f : Int) (w : World) (f0 : 0 ≤ f) (f1 : f < 4294967296) :
    Calls Try.prog 10 #[.int .i64 13, .int .u32 f] w fun e w' => e = .returned (.tuple #[.bool (condR 13 f), .int .i64 0]) ∧ Grown w w' := by
  have hi := bidx6
  go_enter Try.func10, Try.ntmps10
  go_wp2_with (go_at_call 21; refine (btConds_any _ _ f0 f1).mono ?_; rintro e w1 ⟨rfl, hg⟩)
  go_ret2
  refine ⟨ret_bi ?_, hg⟩
  simp [condR, condB]

theorem btCond_14 (f : Int) (w : World) (f0 : 0 ≤ f) (f1 : f < 4294967296) :
    Calls Try.prog 10 #[.int .i64 14, .int .u32 f] w fun e w' => e = .returned (.tuple #[.bool (condR 14 f), .int .i64 0]) ∧ Grown w w' := by
  have hi := bidx7
  go_enter Try.func10, Try.ntmps10
  go_wp2_with (go_at_call 21; refine (btConds_any _ _ f0 f1).mono ?_; rintro e w1 ⟨rfl, hg⟩)
  go_ret2
  refine ⟨ret_bi ?_, hg⟩
  simp [condR, condB]

theorem btCond_15 (f : Int) (w : World) (f0 : 0 ≤ f) (f1 : f < 4294967296) :
    Calls Try.prog 10 #[.int .i64 15, .int .u32 f] w fun e w' => e = .returned (.tuple #[.bool (condR 15 f), .int .i64 0]) ∧ Grown w w' := by
  have hi := bidx7
  go_enter Try.func10, Try.ntmps10
  go_wp2_with (go_at_call 21; refine (btConds_any _ _ f0 f1).mono ?_; rintro e w1 ⟨rfl, hg⟩)
  go_ret2
  refine ⟨ret_bi ?_, hg⟩
  simp [condR, condB]

theorem btCond_ok (cc f : Int) (w : World) (c0 : 0 ≤ cc) (c1 : cc ≤ 15) (f0 : 0 ≤ f) (f1 : f < 4294967296) :
    Calls Try.prog 10 #[.int .i64 cc, .int .u32 f] w fun e w' => e = .returned (.tuple #[.bool (condR cc f), .int .i64 0]) ∧ Grown w w' := by
  have cases : cc = 0 ∨ cc = 1 ∨ cc = 2 ∨ cc = 3 ∨ cc = 4 ∨ cc = 5 ∨ cc = 6 ∨ cc = 7 ∨ cc = 8 ∨ cc = 9 ∨ cc = 10 ∨ cc = 11 ∨ cc = 12 ∨ cc = 13 ∨ cc = 14 ∨ cc = 15 := by omega
  rcases cases with rfl | rfl | rfl | rfl | rfl | rfl | rfl | rfl | rfl | rfl | rfl | rfl | rfl | rfl | rfl | rfl
  · exact btCond_0 f w f0 f1
  · exact btCond_1 f w f0 f1
  · exact btCond_2 f w f0 f1
  · exact btCond_3 f w f0 f1
  · exact btCond_4 f w f0 f1
  · exact btCond_5 f w f0 f1
  · exact btCond_6 f w f0 f1
  · exact btCond_7 f w f0 f1
  · exact btCond_8 f w f0 f1
  · exact btCond_9 f w f0 f1
  · exact btCond_10 f w f0 f1
  · exact btCond_11 f w f0 f1
  · exact btCond_12 f w f0 f1
  · exact btCond_13 f w f0 f1
  · exact btCond_14 f w f0 f1
  · exact btCond_15 f w f0 f1

theorem btCond_no (cc f : Int) (w : World) (ho : cc < 0 ∨ 15 < cc) :
    Calls Try.prog 10 #[.int .i64 cc, .int .u32 f] w fun e w' => e = .returned (.tuple #[.bool false, .int .i64 3]) ∧ Grown w w' := by
  rcases ho with ho | ho
  · have g1 : decide (cc < 0) = true := by simpa using ho
    go_enter Try.func10, Try.ntmps10
    go_wp2
    go_ret2
    exact ⟨rfl, Grown.refl _⟩
  · have g1 : decide (cc < 0) = false := by simp; omega
    have g2 : decide (15 < cc) = true := by simpa using ho
    go_enter Try.func10, Try.ntmps10
    go_wp2
    go_ret2
    exact ⟨rfl, Grown.refl _⟩
end Go.Proofs.Ytelclgelooljlaa
