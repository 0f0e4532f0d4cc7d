/- Two descriptors that are the same; the calls at the head of all statements. -/
import Derived.Test.YtpgionhhjmlmmaaSegParse
import Derived.Test.YtpgionhhjmlmmaaSegReach
import Derived.Test.YtpgionhhjmlmmaaSegFitD
import Derived.Test.YtpgionhhjmlmmaaSegCode
import Derived.Laws.StructEq
namespace Go.Proofs.Ytpgionhhjmlmmaa
open Go.ChangeShapes Go.WideShapes Go.ChangeAt Go.RowKit
set_option linter.unusedVariables false

theorem guardD (w : World) (a b : Operand) (A B : Array Value) : (eqGuard .eql 25 a b (.agg A) (.agg B)).run Try.prog w = .ok () w := run_eqGuard_agg w _ _ _ _ _ _ (by kernel_rfl)

theorem eqD (b l t : Int) (s : Bool) (d : Int) (p g : Bool) (w : World) : (binOp .eql 25 (.agg #[.int .u32 b, .int .u32 l, .int .i64 t, .bool s, .int .i64 d, .bool p, .bool g]) (.agg #[.int .u32 b, .int .u32 l, .int .i64 t, .bool s, .int .i64 d, .bool p, .bool g])).run Try.prog w = .ok (.bool true) w := by
  have u3 := Try.underlying3
  have a3 := Try.isAgg3
  have z3 := Try.sizeOf3
  have u4 := Try.underlying4
  have a4 := Try.isAgg4
  have z4 := Try.sizeOf4
  have u5 := Try.underlying23
  have a5 := Try.isAgg23
  have z5 := Try.sizeOf23
  rw [run_eql_struct, show (10000 : Nat) = 9999 + 1 from rfl, run_equalIn_struct w 9999 25 _ _ (by kernel_rfl) (by kernel_rfl)]
  simp only [Program.fieldsOf, Try.underlying25]
  go_simp


theorem parse_aw (w : World) : Calls Try.prog 10 #[.int .u32 65535, .int .u32 13605376] w fun e w' => e = .returned (.agg #[.int .u32 0, .int .u32 4294967295, .int .i64 10, .bool false, .int .i64 0, .bool true, .bool true]) ∧ Grown w w' :=
  parse_any 65535 13605376 w (by decide) (by decide) (by decide) (by decide)

theorem reach_aw1 (w : World) : Calls Try.prog 14 #[.agg #[.int .u32 0, .int .u32 7, .int .i64 2, .bool false, .int .i64 0, .bool true, .bool false], .int .u32 4, .int .i64 4, .bool true] w fun e w' => e = .returned (.bool true) ∧ Grown w w' :=
  reach_any 0 7 2 false 0 true false 4 4 true w (by decide) (by decide) (by decide) (by decide) (by decide) (by decide)

theorem reach_aw2 (w : World) : Calls Try.prog 14 #[.agg #[.int .u32 0, .int .u32 7, .int .i64 2, .bool false, .int .i64 0, .bool true, .bool false], .int .u32 5, .int .i64 4, .bool false] w fun e w' => e = .returned (.bool false) ∧ Grown w w' :=
  reach_any 0 7 2 false 0 true false 5 4 false w (by decide) (by decide) (by decide) (by decide) (by decide) (by decide)

theorem fit_aw (w : World) : Calls Try.prog 15 #[.int .i64 3, .int .u16 19, .agg #[.int .u32 0, .int .u32 7, .int .i64 2, .bool false, .int .i64 0, .bool true, .bool false], .int .i64 0] w fun e w' => e = .returned (.int .i64 13) ∧ Grown w w' :=
  fit_any 0 7 2 false 0 true false 3 19 0 w (by decide) (by decide) (by decide) (by decide)

theorem code_aw (w : World) : Calls Try.prog 16 #[.int .u16 8, .agg #[.int .u32 0, .int .u32 4294967295, .int .i64 10, .bool false, .int .i64 0, .bool true, .bool true], .int .i64 0] w fun e w' => e = .returned (.int .i64 (-1)) ∧ Grown w w' :=
  code_any 0 4294967295 10 false 0 true true 8 0 w (by decide) (by decide) (by decide) (by decide)


set_option maxHeartbeats 2000000 in
theorem awake_ok (w : World) : Calls Try.prog 9 #[] w fun e w' => e = .returned (.bool true) ∧ Grown w w' := by
  have hgd := guardD
  have heq := eqD 0 4294967295 10 false 0 true true
  go_enter Try.func9, Try.ntmps9
  go_wp2_with fail
  refine (parse_aw _).mono ?_; rintro e w1 ⟨rfl, hg1⟩
  go_wp2_with fail
  refine (reach_aw1 _).mono ?_; rintro e w2 ⟨rfl, hg2⟩
  have e0_2 : w2.cell? ⟨w1.heap.size + 1 + 1, 0, none⟩ = some (.int .u32 0) := Grown.holds hg2 (by first | simp [go_sem] | exact e0_1)
  have e1_2 : w2.cell? ⟨w1.heap.size + 1 + 1, 1, none⟩ = some (.int .u32 7) := Grown.holds hg2 (by first | simp [go_sem] | exact e1_1)
  have e2_2 : w2.cell? ⟨w1.heap.size + 1 + 1, 2, none⟩ = some (.int .i64 2) := Grown.holds hg2 (by first | simp [go_sem] | exact e2_1)
  have e3_2 : w2.cell? ⟨w1.heap.size + 1 + 1, 3, none⟩ = some (.bool false) := Grown.holds hg2 (by first | simp [go_sem] | exact e3_1)
  have e4_2 : w2.cell? ⟨w1.heap.size + 1 + 1, 4, none⟩ = some (.int .i64 0) := Grown.holds hg2 (by first | simp [go_sem] | exact e4_1)
  have e5_2 : w2.cell? ⟨w1.heap.size + 1 + 1, 5, none⟩ = some (.bool true) := Grown.holds hg2 (by first | simp [go_sem] | exact e5_1)
  have e6_2 : w2.cell? ⟨w1.heap.size + 1 + 1, 6, none⟩ = some (.bool false) := Grown.holds hg2 (by first | simp [go_sem] | exact e6_1)
  have d0_2 : w2.cell? ⟨w1.heap.size, 0, none⟩ = some (.int .u32 0) := Grown.holds hg2 (by first | simp [go_sem] | exact d0_1)
  have d1_2 : w2.cell? ⟨w1.heap.size, 1, none⟩ = some (.int .u32 4294967295) := Grown.holds hg2 (by first | simp [go_sem] | exact d1_1)
  have d2_2 : w2.cell? ⟨w1.heap.size, 2, none⟩ = some (.int .i64 10) := Grown.holds hg2 (by first | simp [go_sem] | exact d2_1)
  have d3_2 : w2.cell? ⟨w1.heap.size, 3, none⟩ = some (.bool false) := Grown.holds hg2 (by first | simp [go_sem] | exact d3_1)
  have d4_2 : w2.cell? ⟨w1.heap.size, 4, none⟩ = some (.int .i64 0) := Grown.holds hg2 (by first | simp [go_sem] | exact d4_1)
  have d5_2 : w2.cell? ⟨w1.heap.size, 5, none⟩ = some (.bool true) := Grown.holds hg2 (by first | simp [go_sem] | exact d5_1)
  have d6_2 : w2.cell? ⟨w1.heap.size, 6, none⟩ = some (.bool true) := Grown.holds hg2 (by first | simp [go_sem] | exact d6_1)
  go_wp2_with fail
  refine (reach_aw2 _).mono ?_; rintro e w3 ⟨rfl, hg3⟩
  have e0_3 : w3.cell? ⟨w1.heap.size + 1 + 1, 0, none⟩ = some (.int .u32 0) := Grown.holds hg3 (by first | simp [go_sem] | exact e0_2)
  have e1_3 : w3.cell? ⟨w1.heap.size + 1 + 1, 1, none⟩ = some (.int .u32 7) := Grown.holds hg3 (by first | simp [go_sem] | exact e1_2)
  have e2_3 : w3.cell? ⟨w1.heap.size + 1 + 1, 2, none⟩ = some (.int .i64 2) := Grown.holds hg3 (by first | simp [go_sem] | exact e2_2)
  have e3_3 : w3.cell? ⟨w1.heap.size + 1 + 1, 3, none⟩ = some (.bool false) := Grown.holds hg3 (by first | simp [go_sem] | exact e3_2)
  have e4_3 : w3.cell? ⟨w1.heap.size + 1 + 1, 4, none⟩ = some (.int .i64 0) := Grown.holds hg3 (by first | simp [go_sem] | exact e4_2)
  have e5_3 : w3.cell? ⟨w1.heap.size + 1 + 1, 5, none⟩ = some (.bool true) := Grown.holds hg3 (by first | simp [go_sem] | exact e5_2)
  have e6_3 : w3.cell? ⟨w1.heap.size + 1 + 1, 6, none⟩ = some (.bool false) := Grown.holds hg3 (by first | simp [go_sem] | exact e6_2)
  have d0_3 : w3.cell? ⟨w1.heap.size, 0, none⟩ = some (.int .u32 0) := Grown.holds hg3 (by first | simp [go_sem] | exact d0_2)
  have d1_3 : w3.cell? ⟨w1.heap.size, 1, none⟩ = some (.int .u32 4294967295) := Grown.holds hg3 (by first | simp [go_sem] | exact d1_2)
  have d2_3 : w3.cell? ⟨w1.heap.size, 2, none⟩ = some (.int .i64 10) := Grown.holds hg3 (by first | simp [go_sem] | exact d2_2)
  have d3_3 : w3.cell? ⟨w1.heap.size, 3, none⟩ = some (.bool false) := Grown.holds hg3 (by first | simp [go_sem] | exact d3_2)
  have d4_3 : w3.cell? ⟨w1.heap.size, 4, none⟩ = some (.int .i64 0) := Grown.holds hg3 (by first | simp [go_sem] | exact d4_2)
  have d5_3 : w3.cell? ⟨w1.heap.size, 5, none⟩ = some (.bool true) := Grown.holds hg3 (by first | simp [go_sem] | exact d5_2)
  have d6_3 : w3.cell? ⟨w1.heap.size, 6, none⟩ = some (.bool true) := Grown.holds hg3 (by first | simp [go_sem] | exact d6_2)
  clear e0_2 e1_2 e2_2 e3_2 e4_2 e5_2 e6_2 d0_2 d1_2 d2_2 d3_2 d4_2 d5_2 d6_2
  go_wp2_with fail
  refine (fit_aw _).mono ?_; rintro e w4 ⟨rfl, hg4⟩
  have e0_4 : w4.cell? ⟨w1.heap.size + 1 + 1, 0, none⟩ = some (.int .u32 0) := Grown.holds hg4 (by first | simp [go_sem] | exact e0_3)
  have e1_4 : w4.cell? ⟨w1.heap.size + 1 + 1, 1, none⟩ = some (.int .u32 7) := Grown.holds hg4 (by first | simp [go_sem] | exact e1_3)
  have e2_4 : w4.cell? ⟨w1.heap.size + 1 + 1, 2, none⟩ = some (.int .i64 2) := Grown.holds hg4 (by first | simp [go_sem] | exact e2_3)
  have e3_4 : w4.cell? ⟨w1.heap.size + 1 + 1, 3, none⟩ = some (.bool false) := Grown.holds hg4 (by first | simp [go_sem] | exact e3_3)
  have e4_4 : w4.cell? ⟨w1.heap.size + 1 + 1, 4, none⟩ = some (.int .i64 0) := Grown.holds hg4 (by first | simp [go_sem] | exact e4_3)
  have e5_4 : w4.cell? ⟨w1.heap.size + 1 + 1, 5, none⟩ = some (.bool true) := Grown.holds hg4 (by first | simp [go_sem] | exact e5_3)
  have e6_4 : w4.cell? ⟨w1.heap.size + 1 + 1, 6, none⟩ = some (.bool false) := Grown.holds hg4 (by first | simp [go_sem] | exact e6_3)
  have d0_4 : w4.cell? ⟨w1.heap.size, 0, none⟩ = some (.int .u32 0) := Grown.holds hg4 (by first | simp [go_sem] | exact d0_3)
  have d1_4 : w4.cell? ⟨w1.heap.size, 1, none⟩ = some (.int .u32 4294967295) := Grown.holds hg4 (by first | simp [go_sem] | exact d1_3)
  have d2_4 : w4.cell? ⟨w1.heap.size, 2, none⟩ = some (.int .i64 10) := Grown.holds hg4 (by first | simp [go_sem] | exact d2_3)
  have d3_4 : w4.cell? ⟨w1.heap.size, 3, none⟩ = some (.bool false) := Grown.holds hg4 (by first | simp [go_sem] | exact d3_3)
  have d4_4 : w4.cell? ⟨w1.heap.size, 4, none⟩ = some (.int .i64 0) := Grown.holds hg4 (by first | simp [go_sem] | exact d4_3)
  have d5_4 : w4.cell? ⟨w1.heap.size, 5, none⟩ = some (.bool true) := Grown.holds hg4 (by first | simp [go_sem] | exact d5_3)
  have d6_4 : w4.cell? ⟨w1.heap.size, 6, none⟩ = some (.bool true) := Grown.holds hg4 (by first | simp [go_sem] | exact d6_3)
  clear e0_3 e1_3 e2_3 e3_3 e4_3 e5_3 e6_3 d0_3 d1_3 d2_3 d3_3 d4_3 d5_3 d6_3
  go_wp2_with fail
  refine (code_aw _).mono ?_; rintro e w5 ⟨rfl, hg5⟩
  go_wp2
  go_ret
  exact ⟨rfl, Grown.trans (Grown.trans (Grown.trans (Grown.trans (Grown.alloc (Grown.alloc (Grown.alloc hg1 _ _) _ _) _ _) hg2) hg3) hg4) hg5⟩
end Go.Proofs.Ytpgionhhjmlmmaa
