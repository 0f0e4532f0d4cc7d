/- Contracts of the document's answers of layer 4, conditions and bytes turned round (drawloomref04.Cond, Swap): for every input within their kinds they return what is named, and the world stays. -/
import Derived.Test.YtelclgelooljlaaRefOne
import Derived.Test.YtelclgelooljlaaBitCondOk
namespace Go.Proofs.Ytelclgelooljlaa
open Go.ChangeShapes Go.WideShapes Go.ChangeAt Go.RowKit
set_option linter.unusedVariables false

theorem rCond_0 (f : Int) (w : World) (f0 : 0 ≤ f) (f1 : f < 4294967296) :
    Calls Try.prog 11 #[.int .i64 0, .int .u32 f] w fun e w' => e = .returned (.tuple #[.bool (condR 0 f), .int .i64 0]) ∧ w' = w := by
  have hc := fun w => Has_any f 1 w f0 f1 fl1
  have hz := fun w => Has_any f 64 w f0 f1 fl64
  have hs := fun w => Has_any f 128 w f0 f1 fl128
  have ho := fun w => Has_any f 2048 w f0 f1 fl2048
  have hp := fun w => Has_any f 4 w f0 f1 fl4
  have e : condR 0 f = (condB 0 f != false) := rfl
  rw [e]
  clear e
  unfold condB
  simp only [Int.reduceEq, if_false, if_true]
  revert hc hz hs ho hp
  generalize hasF f 1 = c
  generalize hasF f 64 = z
  generalize hasF f 128 = s
  generalize hasF f 2048 = o
  generalize hasF f 4 = p
  intro hc hz hs ho hp
  go_enter Try.func11, Try.ntmps11
  go_wp2_with fail
  refine (hc _).mono ?_; rintro e w1 ⟨rfl, hw⟩; replace hw := hw.symm; subst hw
  go_wp2_with fail
  refine (hz _).mono ?_; rintro e w1 ⟨rfl, hw⟩; replace hw := hw.symm; subst hw
  go_wp2_with fail
  refine (hs _).mono ?_; rintro e w1 ⟨rfl, hw⟩; replace hw := hw.symm; subst hw
  go_wp2_with fail
  refine (ho _).mono ?_; rintro e w1 ⟨rfl, hw⟩; replace hw := hw.symm; subst hw
  go_wp2
  go_ret2
  refine ⟨ret_bi ?_, rfl⟩
  simp

theorem rCond_1 (f : Int) (w : World) (f0 : 0 ≤ f) (f1 : f < 4294967296) :
    Calls Try.prog 11 #[.int .i64 1, .int .u32 f] w fun e w' => e = .returned (.tuple #[.bool (condR 1 f), .int .i64 0]) ∧ w' = w := by
  have hc := fun w => Has_any f 1 w f0 f1 fl1
  have hz := fun w => Has_any f 64 w f0 f1 fl64
  have hs := fun w => Has_any f 128 w f0 f1 fl128
  have ho := fun w => Has_any f 2048 w f0 f1 fl2048
  have hp := fun w => Has_any f 4 w f0 f1 fl4
  have e : condR 1 f = (condB 0 f != true) := rfl
  rw [e]
  clear e
  unfold condB
  simp only [Int.reduceEq, if_false, if_true]
  revert hc hz hs ho hp
  generalize hasF f 1 = c
  generalize hasF f 64 = z
  generalize hasF f 128 = s
  generalize hasF f 2048 = o
  generalize hasF f 4 = p
  intro hc hz hs ho hp
  go_enter Try.func11, Try.ntmps11
  go_wp2_with fail
  refine (hc _).mono ?_; rintro e w1 ⟨rfl, hw⟩; replace hw := hw.symm; subst hw
  go_wp2_with fail
  refine (hz _).mono ?_; rintro e w1 ⟨rfl, hw⟩; replace hw := hw.symm; subst hw
  go_wp2_with fail
  refine (hs _).mono ?_; rintro e w1 ⟨rfl, hw⟩; replace hw := hw.symm; subst hw
  go_wp2_with fail
  refine (ho _).mono ?_; rintro e w1 ⟨rfl, hw⟩; replace hw := hw.symm; subst hw
  go_wp2
  go_ret2
  refine ⟨ret_bi ?_, rfl⟩
  simp

theorem rCond_2 (f : Int) (w : World) (f0 : 0 ≤ f) (f1 : f < 4294967296) :
    Calls Try.prog 11 #[.int .i64 2, .int .u32 f] w fun e w' => e = .returned (.tuple #[.bool (condR 2 f), .int .i64 0]) ∧ w' = w := by
  have hc := fun w => Has_any f 1 w f0 f1 fl1
  have hz := fun w => Has_any f 64 w f0 f1 fl64
  have hs := fun w => Has_any f 128 w f0 f1 fl128
  have ho := fun w => Has_any f 2048 w f0 f1 fl2048
  have hp := fun w => Has_any f 4 w f0 f1 fl4
  have e : condR 2 f = (condB 1 f != false) := rfl
  rw [e]
  clear e
  unfold condB
  simp only [Int.reduceEq, if_false, if_true]
  revert hc hz hs ho hp
  generalize hasF f 1 = c
  generalize hasF f 64 = z
  generalize hasF f 128 = s
  generalize hasF f 2048 = o
  generalize hasF f 4 = p
  intro hc hz hs ho hp
  go_enter Try.func11, Try.ntmps11
  go_wp2_with fail
  refine (hc _).mono ?_; rintro e w1 ⟨rfl, hw⟩; replace hw := hw.symm; subst hw
  go_wp2_with fail
  refine (hz _).mono ?_; rintro e w1 ⟨rfl, hw⟩; replace hw := hw.symm; subst hw
  go_wp2_with fail
  refine (hs _).mono ?_; rintro e w1 ⟨rfl, hw⟩; replace hw := hw.symm; subst hw
  go_wp2_with fail
  refine (ho _).mono ?_; rintro e w1 ⟨rfl, hw⟩; replace hw := hw.symm; subst hw
  go_wp2
  go_ret2
  refine ⟨ret_bi ?_, rfl⟩
  simp

theorem rCond_3 (f : Int) (w : World) (f0 : 0 ≤ f) (f1 : f < 4294967296) :
    Calls Try.prog 11 #[.int .i64 3, .int .u32 f] w fun e w' => e = .returned (.tuple #[.bool (condR 3 f), .int .i64 0]) ∧ w' = w := by
  have hc := fun w => Has_any f 1 w f0 f1 fl1
  have hz := fun w => Has_any f 64 w f0 f1 fl64
  have hs := fun w => Has_any f 128 w f0 f1 fl128
  have ho := fun w => Has_any f 2048 w f0 f1 fl2048
  have hp := fun w => Has_any f 4 w f0 f1 fl4
  have e : condR 3 f = (condB 1 f != true) := rfl
  rw [e]
  clear e
  unfold condB
  simp only [Int.reduceEq, if_false, if_true]
  revert hc hz hs ho hp
  generalize hasF f 1 = c
  generalize hasF f 64 = z
  generalize hasF f 128 = s
  generalize hasF f 2048 = o
  generalize hasF f 4 = p
  intro hc hz hs ho hp
  go_enter Try.func11, Try.ntmps11
  go_wp2_with fail
  refine (hc _).mono ?_; rintro e w1 ⟨rfl, hw⟩; replace hw := hw.symm; subst hw
  go_wp2_with fail
  refine (hz _).mono ?_; rintro e w1 ⟨rfl, hw⟩; replace hw := hw.symm; subst hw
  go_wp2_with fail
  refine (hs _).mono ?_; rintro e w1 ⟨rfl, hw⟩; replace hw := hw.symm; subst hw
  go_wp2_with fail
  refine (ho _).mono ?_; rintro e w1 ⟨rfl, hw⟩; replace hw := hw.symm; subst hw
  go_wp2
  go_ret2
  refine ⟨ret_bi ?_, rfl⟩
  simp

theorem rCond_4 (f : Int) (w : World) (f0 : 0 ≤ f) (f1 : f < 4294967296) :
    Calls Try.prog 11 #[.int .i64 4, .int .u32 f] w fun e w' => e = .returned (.tuple #[.bool (condR 4 f), .int .i64 0]) ∧ w' = w := by
  have hc := fun w => Has_any f 1 w f0 f1 fl1
  have hz := fun w => Has_any f 64 w f0 f1 fl64
  have hs := fun w => Has_any f 128 w f0 f1 fl128
  have ho := fun w => Has_any f 2048 w f0 f1 fl2048
  have hp := fun w => Has_any f 4 w f0 f1 fl4
  have e : condR 4 f = (condB 2 f != false) := rfl
  rw [e]
  clear e
  unfold condB
  simp only [Int.reduceEq, if_false, if_true]
  revert hc hz hs ho hp
  generalize hasF f 1 = c
  generalize hasF f 64 = z
  generalize hasF f 128 = s
  generalize hasF f 2048 = o
  generalize hasF f 4 = p
  intro hc hz hs ho hp
  go_enter Try.func11, Try.ntmps11
  go_wp2_with fail
  refine (hc _).mono ?_; rintro e w1 ⟨rfl, hw⟩; replace hw := hw.symm; subst hw
  go_wp2_with fail
  refine (hz _).mono ?_; rintro e w1 ⟨rfl, hw⟩; replace hw := hw.symm; subst hw
  go_wp2_with fail
  refine (hs _).mono ?_; rintro e w1 ⟨rfl, hw⟩; replace hw := hw.symm; subst hw
  go_wp2_with fail
  refine (ho _).mono ?_; rintro e w1 ⟨rfl, hw⟩; replace hw := hw.symm; subst hw
  go_wp2
  go_ret2
  refine ⟨ret_bi ?_, rfl⟩
  simp

theorem rCond_5 (f : Int) (w : World) (f0 : 0 ≤ f) (f1 : f < 4294967296) :
    Calls Try.prog 11 #[.int .i64 5, .int .u32 f] w fun e w' => e = .returned (.tuple #[.bool (condR 5 f), .int .i64 0]) ∧ w' = w := by
  have hc := fun w => Has_any f 1 w f0 f1 fl1
  have hz := fun w => Has_any f 64 w f0 f1 fl64
  have hs := fun w => Has_any f 128 w f0 f1 fl128
  have ho := fun w => Has_any f 2048 w f0 f1 fl2048
  have hp := fun w => Has_any f 4 w f0 f1 fl4
  have e : condR 5 f = (condB 2 f != true) := rfl
  rw [e]
  clear e
  unfold condB
  simp only [Int.reduceEq, if_false, if_true]
  revert hc hz hs ho hp
  generalize hasF f 1 = c
  generalize hasF f 64 = z
  generalize hasF f 128 = s
  generalize hasF f 2048 = o
  generalize hasF f 4 = p
  intro hc hz hs ho hp
  go_enter Try.func11, Try.ntmps11
  go_wp2_with fail
  refine (hc _).mono ?_; rintro e w1 ⟨rfl, hw⟩; replace hw := hw.symm; subst hw
  go_wp2_with fail
  refine (hz _).mono ?_; rintro e w1 ⟨rfl, hw⟩; replace hw := hw.symm; subst hw
  go_wp2_with fail
  refine (hs _).mono ?_; rintro e w1 ⟨rfl, hw⟩; replace hw := hw.symm; subst hw
  go_wp2_with fail
  refine (ho _).mono ?_; rintro e w1 ⟨rfl, hw⟩; replace hw := hw.symm; subst hw
  go_wp2
  go_ret2
  refine ⟨ret_bi ?_, rfl⟩
  simp

theorem rCond_6 (f : Int) (w : World) (f0 : 0 ≤ f) (f1 : f < 4294967296) :
    Calls Try.prog 11 #[.int .i64 6, .int .u32 f] w fun e w' => e = .returned (.tuple #[.bool (condR 6 f), .int .i64 0]) ∧ w' = w := by
  have hc := fun w => Has_any f 1 w f0 f1 fl1
  have hz := fun w => Has_any f 64 w f0 f1 fl64
  have hs := fun w => Has_any f 128 w f0 f1 fl128
  have ho := fun w => Has_any f 2048 w f0 f1 fl2048
  have hp := fun w => Has_any f 4 w f0 f1 fl4
  have e : condR 6 f = (condB 3 f != false) := rfl
  rw [e]
  clear e
  unfold condB
  simp only [Int.reduceEq, if_false, if_true]
  revert hc hz hs ho hp
  generalize hasF f 1 = c
  generalize hasF f 64 = z
  generalize hasF f 128 = s
  generalize hasF f 2048 = o
  generalize hasF f 4 = p
  intro hc hz hs ho hp
  cases c
  all_goals
    go_enter Try.func11, Try.ntmps11
    go_wp2_with fail
    refine (hc _).mono ?_; rintro e w1 ⟨rfl, hw⟩; replace hw := hw.symm; subst hw
    go_wp2_with fail
    refine (hz _).mono ?_; rintro e w1 ⟨rfl, hw⟩; replace hw := hw.symm; subst hw
    go_wp2_with fail
    refine (hs _).mono ?_; rintro e w1 ⟨rfl, hw⟩; replace hw := hw.symm; subst hw
    go_wp2_with fail
    refine (ho _).mono ?_; rintro e w1 ⟨rfl, hw⟩; replace hw := hw.symm; subst hw
    go_wp2
    go_ret2
    refine ⟨ret_bi ?_, rfl⟩
    simp

theorem rCond_7 (f : Int) (w : World) (f0 : 0 ≤ f) (f1 : f < 4294967296) :
    Calls Try.prog 11 #[.int .i64 7, .int .u32 f] w fun e w' => e = .returned (.tuple #[.bool (condR 7 f), .int .i64 0]) ∧ w' = w := by
  have hc := fun w => Has_any f 1 w f0 f1 fl1
  have hz := fun w => Has_any f 64 w f0 f1 fl64
  have hs := fun w => Has_any f 128 w f0 f1 fl128
  have ho := fun w => Has_any f 2048 w f0 f1 fl2048
  have hp := fun w => Has_any f 4 w f0 f1 fl4
  have e : condR 7 f = (condB 3 f != true) := rfl
  rw [e]
  clear e
  unfold condB
  simp only [Int.reduceEq, if_false, if_true]
  revert hc hz hs ho hp
  generalize hasF f 1 = c
  generalize hasF f 64 = z
  generalize hasF f 128 = s
  generalize hasF f 2048 = o
  generalize hasF f 4 = p
  intro hc hz hs ho hp
  cases c
  all_goals
    go_enter Try.func11, Try.ntmps11
    go_wp2_with fail
    refine (hc _).mono ?_; rintro e w1 ⟨rfl, hw⟩; replace hw := hw.symm; subst hw
    go_wp2_with fail
    refine (hz _).mono ?_; rintro e w1 ⟨rfl, hw⟩; replace hw := hw.symm; subst hw
    go_wp2_with fail
    refine (hs _).mono ?_; rintro e w1 ⟨rfl, hw⟩; replace hw := hw.symm; subst hw
    go_wp2_with fail
    refine (ho _).mono ?_; rintro e w1 ⟨rfl, hw⟩; replace hw := hw.symm; subst hw
    go_wp2
    go_ret2
    refine ⟨ret_bi ?_, rfl⟩
    simp

theorem rCond_8 (f : Int) (w : World) (f0 : 0 ≤ f) (f1 : f < 4294967296) :
    Calls Try.prog 11 #[.int .i64 8, .int .u32 f] w fun e w' => e = .returned (.tuple #[.bool (condR 8 f), .int .i64 0]) ∧ w' = w := by
  have hc := fun w => Has_any f 1 w f0 f1 fl1
  have hz := fun w => Has_any f 64 w f0 f1 fl64
  have hs := fun w => Has_any f 128 w f0 f1 fl128
  have ho := fun w => Has_any f 2048 w f0 f1 fl2048
  have hp := fun w => Has_any f 4 w f0 f1 fl4
  have e : condR 8 f = (condB 4 f != false) := rfl
  rw [e]
  clear e
  unfold condB
  simp only [Int.reduceEq, if_false, if_true]
  revert hc hz hs ho hp
  generalize hasF f 1 = c
  generalize hasF f 64 = z
  generalize hasF f 128 = s
  generalize hasF f 2048 = o
  generalize hasF f 4 = p
  intro hc hz hs ho hp
  go_enter Try.func11, Try.ntmps11
  go_wp2_with fail
  refine (hc _).mono ?_; rintro e w1 ⟨rfl, hw⟩; replace hw := hw.symm; subst hw
  go_wp2_with fail
  refine (hz _).mono ?_; rintro e w1 ⟨rfl, hw⟩; replace hw := hw.symm; subst hw
  go_wp2_with fail
  refine (hs _).mono ?_; rintro e w1 ⟨rfl, hw⟩; replace hw := hw.symm; subst hw
  go_wp2_with fail
  refine (ho _).mono ?_; rintro e w1 ⟨rfl, hw⟩; replace hw := hw.symm; subst hw
  go_wp2
  go_ret2
  refine ⟨ret_bi ?_, rfl⟩
  simp

theorem rCond_9 (f : Int) (w : World) (f0 : 0 ≤ f) (f1 : f < 4294967296) :
    Calls Try.prog 11 #[.int .i64 9, .int .u32 f] w fun e w' => e = .returned (.tuple #[.bool (condR 9 f), .int .i64 0]) ∧ w' = w := by
  have hc := fun w => Has_any f 1 w f0 f1 fl1
  have hz := fun w => Has_any f 64 w f0 f1 fl64
  have hs := fun w => Has_any f 128 w f0 f1 fl128
  have ho := fun w => Has_any f 2048 w f0 f1 fl2048
  have hp := fun w => Has_any f 4 w f0 f1 fl4
  have e : condR 9 f = (condB 4 f != true) := rfl
  rw [e]
  clear e
  unfold condB
  simp only [Int.reduceEq, if_false, if_true]
  revert hc hz hs ho hp
  generalize hasF f 1 = c
  generalize hasF f 64 = z
  generalize hasF f 128 = s
  generalize hasF f 2048 = o
  generalize hasF f 4 = p
  intro hc hz hs ho hp
  go_enter Try.func11, Try.ntmps11
  go_wp2_with fail
  refine (hc _).mono ?_; rintro e w1 ⟨rfl, hw⟩; replace hw := hw.symm; subst hw
  go_wp2_with fail
  refine (hz _).mono ?_; rintro e w1 ⟨rfl, hw⟩; replace hw := hw.symm; subst hw
  go_wp2_with fail
  refine (hs _).mono ?_; rintro e w1 ⟨rfl, hw⟩; replace hw := hw.symm; subst hw
  go_wp2_with fail
  refine (ho _).mono ?_; rintro e w1 ⟨rfl, hw⟩; replace hw := hw.symm; subst hw
  go_wp2
  go_ret2
  refine ⟨ret_bi ?_, rfl⟩
  simp

theorem rCond_10 (f : Int) (w : World) (f0 : 0 ≤ f) (f1 : f < 4294967296) :
    Calls Try.prog 11 #[.int .i64 10, .int .u32 f] w fun e w' => e = .returned (.tuple #[.bool (condR 10 f), .int .i64 0]) ∧ w' = w := by
  have hc := fun w => Has_any f 1 w f0 f1 fl1
  have hz := fun w => Has_any f 64 w f0 f1 fl64
  have hs := fun w => Has_any f 128 w f0 f1 fl128
  have ho := fun w => Has_any f 2048 w f0 f1 fl2048
  have hp := fun w => Has_any f 4 w f0 f1 fl4
  have e : condR 10 f = (condB 5 f != false) := rfl
  rw [e]
  clear e
  unfold condB
  simp only [Int.reduceEq, if_false, if_true]
  revert hc hz hs ho hp
  generalize hasF f 1 = c
  generalize hasF f 64 = z
  generalize hasF f 128 = s
  generalize hasF f 2048 = o
  generalize hasF f 4 = p
  intro hc hz hs ho hp
  go_enter Try.func11, Try.ntmps11
  go_wp2_with fail
  refine (hc _).mono ?_; rintro e w1 ⟨rfl, hw⟩; replace hw := hw.symm; subst hw
  go_wp2_with fail
  refine (hz _).mono ?_; rintro e w1 ⟨rfl, hw⟩; replace hw := hw.symm; subst hw
  go_wp2_with fail
  refine (hs _).mono ?_; rintro e w1 ⟨rfl, hw⟩; replace hw := hw.symm; subst hw
  go_wp2_with fail
  refine (ho _).mono ?_; rintro e w1 ⟨rfl, hw⟩; replace hw := hw.symm; subst hw
  go_wp2_with fail
  refine (hp _).mono ?_; rintro e w1 ⟨rfl, hw⟩; replace hw := hw.symm; subst hw
  go_wp2
  go_ret2
  refine ⟨ret_bi ?_, rfl⟩
  simp

theorem rCond_11 (f : Int) (w : World) (f0 : 0 ≤ f) (f1 : f < 4294967296) :
    Calls Try.prog 11 #[.int .i64 11, .int .u32 f] w fun e w' => e = .returned (.tuple #[.bool (condR 11 f), .int .i64 0]) ∧ w' = w := by
  have hc := fun w => Has_any f 1 w f0 f1 fl1
  have hz := fun w => Has_any f 64 w f0 f1 fl64
  have hs := fun w => Has_any f 128 w f0 f1 fl128
  have ho := fun w => Has_any f 2048 w f0 f1 fl2048
  have hp := fun w => Has_any f 4 w f0 f1 fl4
  have e : condR 11 f = (condB 5 f != true) := rfl
  rw [e]
  clear e
  unfold condB
  simp only [Int.reduceEq, if_false, if_true]
  revert hc hz hs ho hp
  generalize hasF f 1 = c
  generalize hasF f 64 = z
  generalize hasF f 128 = s
  generalize hasF f 2048 = o
  generalize hasF f 4 = p
  intro hc hz hs ho hp
  go_enter Try.func11, Try.ntmps11
  go_wp2_with fail
  refine (hc _).mono ?_; rintro e w1 ⟨rfl, hw⟩; replace hw := hw.symm; subst hw
  go_wp2_with fail
  refine (hz _).mono ?_; rintro e w1 ⟨rfl, hw⟩; replace hw := hw.symm; subst hw
  go_wp2_with fail
  refine (hs _).mono ?_; rintro e w1 ⟨rfl, hw⟩; replace hw := hw.symm; subst hw
  go_wp2_with fail
  refine (ho _).mono ?_; rintro e w1 ⟨rfl, hw⟩; replace hw := hw.symm; subst hw
  go_wp2_with fail
  refine (hp _).mono ?_; rintro e w1 ⟨rfl, hw⟩; replace hw := hw.symm; subst hw
  go_wp2
  go_ret2
  refine ⟨ret_bi ?_, rfl⟩
  simp

theorem rCond_12 (f : Int) (w : World) (f0 : 0 ≤ f) (f1 : f < 4294967296) :
    Calls Try.prog 11 #[.int .i64 12, .int .u32 f] w fun e w' => e = .returned (.tuple #[.bool (condR 12 f), .int .i64 0]) ∧ w' = w := by
  have hc := fun w => Has_any f 1 w f0 f1 fl1
  have hz := fun w => Has_any f 64 w f0 f1 fl64
  have hs := fun w => Has_any f 128 w f0 f1 fl128
  have ho := fun w => Has_any f 2048 w f0 f1 fl2048
  have hp := fun w => Has_any f 4 w f0 f1 fl4
  have e : condR 12 f = (condB 6 f != false) := rfl
  rw [e]
  clear e
  unfold condB
  simp only [Int.reduceEq, if_false, if_true]
  revert hc hz hs ho hp
  generalize hasF f 1 = c
  generalize hasF f 64 = z
  generalize hasF f 128 = s
  generalize hasF f 2048 = o
  generalize hasF f 4 = p
  intro hc hz hs ho hp
  go_enter Try.func11, Try.ntmps11
  go_wp2_with fail
  refine (hc _).mono ?_; rintro e w1 ⟨rfl, hw⟩; replace hw := hw.symm; subst hw
  go_wp2_with fail
  refine (hz _).mono ?_; rintro e w1 ⟨rfl, hw⟩; replace hw := hw.symm; subst hw
  go_wp2_with fail
  refine (hs _).mono ?_; rintro e w1 ⟨rfl, hw⟩; replace hw := hw.symm; subst hw
  go_wp2_with fail
  refine (ho _).mono ?_; rintro e w1 ⟨rfl, hw⟩; replace hw := hw.symm; subst hw
  go_wp2
  go_ret2
  refine ⟨ret_bi ?_, rfl⟩
  cases s <;> cases o <;> rfl

theorem rCond_13 (f : Int) (w : World) (f0 : 0 ≤ f) (f1 : f < 4294967296) :
    Calls Try.prog 11 #[.int .i64 13, .int .u32 f] w fun e w' => e = .returned (.tuple #[.bool (condR 13 f), .int .i64 0]) ∧ w' = w := by
  have hc := fun w => Has_any f 1 w f0 f1 fl1
  have hz := fun w => Has_any f 64 w f0 f1 fl64
  have hs := fun w => Has_any f 128 w f0 f1 fl128
  have ho := fun w => Has_any f 2048 w f0 f1 fl2048
  have hp := fun w => Has_any f 4 w f0 f1 fl4
  have e : condR 13 f = (condB 6 f != true) := rfl
  rw [e]
  clear e
  unfold condB
  simp only [Int.reduceEq, if_false, if_true]
  revert hc hz hs ho hp
  generalize hasF f 1 = c
  generalize hasF f 64 = z
  generalize hasF f 128 = s
  generalize hasF f 2048 = o
  generalize hasF f 4 = p
  intro hc hz hs ho hp
  go_enter Try.func11, Try.ntmps11
  go_wp2_with fail
  refine (hc _).mono ?_; rintro e w1 ⟨rfl, hw⟩; replace hw := hw.symm; subst hw
  go_wp2_with fail
  refine (hz _).mono ?_; rintro e w1 ⟨rfl, hw⟩; replace hw := hw.symm; subst hw
  go_wp2_with fail
  refine (hs _).mono ?_; rintro e w1 ⟨rfl, hw⟩; replace hw := hw.symm; subst hw
  go_wp2_with fail
  refine (ho _).mono ?_; rintro e w1 ⟨rfl, hw⟩; replace hw := hw.symm; subst hw
  go_wp2
  go_ret2
  refine ⟨ret_bi ?_, rfl⟩
  cases s <;> cases o <;> rfl

theorem rCond_14 (f : Int) (w : World) (f0 : 0 ≤ f) (f1 : f < 4294967296) :
    Calls Try.prog 11 #[.int .i64 14, .int .u32 f] w fun e w' => e = .returned (.tuple #[.bool (condR 14 f), .int .i64 0]) ∧ w' = w := by
  have hc := fun w => Has_any f 1 w f0 f1 fl1
  have hz := fun w => Has_any f 64 w f0 f1 fl64
  have hs := fun w => Has_any f 128 w f0 f1 fl128
  have ho := fun w => Has_any f 2048 w f0 f1 fl2048
  have hp := fun w => Has_any f 4 w f0 f1 fl4
  have e : condR 14 f = (condB 7 f != false) := rfl
  rw [e]
  clear e
  unfold condB
  simp only [Int.reduceEq, if_false]
  revert hc hz hs ho hp
  generalize hasF f 1 = c
  generalize hasF f 64 = z
  generalize hasF f 128 = s
  generalize hasF f 2048 = o
  generalize hasF f 4 = p
  intro hc hz hs ho hp
  cases z
  all_goals
    go_enter Try.func11, Try.ntmps11
    go_wp2_with fail
    refine (hc _).mono ?_; rintro e w1 ⟨rfl, hw⟩; replace hw := hw.symm; subst hw
    go_wp2_with fail
    refine (hz _).mono ?_; rintro e w1 ⟨rfl, hw⟩; replace hw := hw.symm; subst hw
    go_wp2_with fail
    refine (hs _).mono ?_; rintro e w1 ⟨rfl, hw⟩; replace hw := hw.symm; subst hw
    go_wp2_with fail
    refine (ho _).mono ?_; rintro e w1 ⟨rfl, hw⟩; replace hw := hw.symm; subst hw
    go_wp2
    go_ret2
    refine ⟨ret_bi ?_, rfl⟩
    cases s <;> cases o <;> rfl

theorem rCond_15 (f : Int) (w : World) (f0 : 0 ≤ f) (f1 : f < 4294967296) :
    Calls Try.prog 11 #[.int .i64 15, .int .u32 f] w fun e w' => e = .returned (.tuple #[.bool (condR 15 f), .int .i64 0]) ∧ w' = w := by
  have hc := fun w => Has_any f 1 w f0 f1 fl1
  have hz := fun w => Has_any f 64 w f0 f1 fl64
  have hs := fun w => Has_any f 128 w f0 f1 fl128
  have ho := fun w => Has_any f 2048 w f0 f1 fl2048
  have hp := fun w => Has_any f 4 w f0 f1 fl4
  have e : condR 15 f = (condB 7 f != true) := rfl
  rw [e]
  clear e
  unfold condB
  simp only [Int.reduceEq, if_false]
  revert hc hz hs ho hp
  generalize hasF f 1 = c
  generalize hasF f 64 = z
  generalize hasF f 128 = s
  generalize hasF f 2048 = o
  generalize hasF f 4 = p
  intro hc hz hs ho hp
  cases z
  all_goals
    go_enter Try.func11, Try.ntmps11
    go_wp2_with fail
    refine (hc _).mono ?_; rintro e w1 ⟨rfl, hw⟩; replace hw := hw.symm; subst hw
    go_wp2_with fail
    refine (hz _).mono ?_; rintro e w1 ⟨rfl, hw⟩; replace hw := hw.symm; subst hw
    go_wp2_with fail
    refine (hs _).mono ?_; rintro e w1 ⟨rfl, hw⟩; replace hw := hw.symm; subst hw
    go_wp2_with fail
    refine (ho _).mono ?_; rintro e w1 ⟨rfl, hw⟩; replace hw := hw.symm; subst hw
    go_wp2
    go_ret2
    refine ⟨ret_bi ?_, rfl⟩
    cases s <;> cases o <;> rfl

theorem rCond_ok (cc f : Int) (w : World) (c0 : 0 ≤ cc) (c1 : cc ≤ 15) (f0 : 0 ≤ f) (f1 : f < 4294967296) :
    Calls Try.prog 11 #[.int .i64 cc, .int .u32 f] w fun e w' => e = .returned (.tuple #[.bool (condR cc f), .int .i64 0]) ∧ w' = w := by
  have cases : cc = 0 ∨ cc = 1 ∨ cc = 2 ∨ cc = 3 ∨ cc = 4 ∨ cc = 5 ∨ cc = 6 ∨ cc = 7 ∨ cc = 8 ∨ cc = 9 ∨ cc = 10 ∨ cc = 11 ∨ cc = 12 ∨ cc = 13 ∨ cc = 14 ∨ cc = 15 := by omega
  rcases cases with rfl | rfl | rfl | rfl | rfl | rfl | rfl | rfl | rfl | rfl | rfl | rfl | rfl | rfl | rfl | rfl
  · exact rCond_0 f w f0 f1
  · exact rCond_1 f w f0 f1
  · exact rCond_2 f w f0 f1
  · exact rCond_3 f w f0 f1
  · exact rCond_4 f w f0 f1
  · exact rCond_5 f w f0 f1
  · exact rCond_6 f w f0 f1
  · exact rCond_7 f w f0 f1
  · exact rCond_8 f w f0 f1
  · exact rCond_9 f w f0 f1
  · exact rCond_10 f w f0 f1
  · exact rCond_11 f w f0 f1
  · exact rCond_12 f w f0 f1
  · exact rCond_13 f w f0 f1
  · exact rCond_14 f w f0 f1
  · exact rCond_15 f w f0 f1

theorem rCond_no (cc f : Int) (w : World) (ho : cc < 0 ∨ 15 < cc) :
    Calls Try.prog 11 #[.int .i64 cc, .int .u32 f] w fun e w' => e = .returned (.tuple #[.bool false, .int .i64 3]) ∧ w' = w := by
  rcases ho with ho | ho
  · have g1 : decide (cc < 0) = true := by simpa using ho
    go_enter Try.func11, Try.ntmps11
    go_wp2
    go_ret2
    exact ⟨rfl, rfl⟩
  · have g1 : decide (cc < 0) = false := by simp; omega
    have g2 : decide (15 < cc) = true := by simpa using ho
    go_enter Try.func11, Try.ntmps11
    go_wp2
    go_ret2
    exact ⟨rfl, rfl⟩

theorem rSwap_any (a : Int) (w : World) (a0 : 0 ≤ a) (a1 : a < 4294967296) :
    Calls Try.prog 19 #[.int .u32 a] w fun e w' => e = .returned (.int .u32 (swp a)) ∧ w' = w := by
  go_enter Try.func19, Try.ntmps19
  go_wp2
  go_ret
  exact ⟨rfl, rfl⟩
end Go.Proofs.Ytelclgelooljlaa
