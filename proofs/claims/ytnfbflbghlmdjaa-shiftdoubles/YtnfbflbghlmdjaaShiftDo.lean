/- The contract of shift.Do, of all operations, counts and errors: for every input within its kinds it returns the result, the flags and the error that are named, and the world has at most new blocks. -/
import Derived.Test.YtnfbflbghlmdjaaShiftDoA
import Derived.Test.YtnfbflbghlmdjaaShiftDoB
import Derived.Test.YtnfbflbghlmdjaaShiftDoC
import Derived.Test.YtnfbflbghlmdjaaShiftDoD
namespace Go.Proofs.Ytnfbflbghlmdjaa
open Go.ChangeShapes Go.WideShapes Go.ChangeAt Go.RowKit
set_option linter.unusedVariables false

theorem Do_none {s H M : Int} {W : Nat} (hS : Sw s H M W) (op a n f : Int) (w : World) (o0 : 0 ≤ op) (o1 : op ≤ 7) (a0 : 0 ≤ a) (a1 : a < 4294967296) (n0 : 0 ≤ n) (n1 : n < 4294967296) (f0 : 0 ≤ f) (f1 : f < 4294967296) (hk : n % 32 = 0) :
    Calls Try.prog 10 #[.int .i64 op, .int .i64 s, .int .u32 a, .int .u32 n, .int .u32 f] w fun e w' =>
      e = .returned (.tuple #[.int .u32 (a % M), .int .u32 f, .int .i64 0]) ∧ Grown w w' := by
  have hwa : IntKind.u64.wrap a = a := by rw [wrap_u64']; omega
  have hS' : Hid (Sw s H M W) := hS
  have g1 : decide (op < 0) = false := by simp; omega
  have g2 : decide (7 < op) = false := by simp; omega
  rcases hS with ⟨rfl, rfl, rfl, rfl⟩ | ⟨rfl, rfl, rfl, rfl⟩ | ⟨rfl, rfl, rfl, rfl⟩
  all_goals
    go_enter Try.func10, Try.ntmps10
    go_wp2_with (first
      | (go_at_call 15; refine (cut_any hS'.out _ _ a0 (by omega)).mono ?_; rintro e w1 ⟨rfl, hw⟩; replace hw := hw.symm; subst hw)
      | (go_at_call 16; refine (lowFive_any _ _ n0 n1).mono ?_; rintro e w1 ⟨rfl, hw⟩; replace hw := hw.symm; subst hw))
    go_wp2
    go_ret3
    exact ⟨rfl, Grown.refl _⟩

theorem Do_size (op s a n f : Int) (w : World) (hk : okSize s = false) :
    Calls Try.prog 10 #[.int .i64 op, .int .i64 s, .int .u32 a, .int .u32 n, .int .u32 f] w fun e w' =>
      e = .returned (.tuple #[.int .u32 0, .int .u32 0, .int .i64 2]) ∧ Grown w w' := by
  unfold okSize at hk
  simp only [Bool.or_eq_false_iff] at hk
  obtain ⟨⟨h1, h2⟩, h4⟩ := hk
  have g1 : (s != 1) = true := by simp only [bne, h1, Bool.not_false]
  have g2 : (s != 2) = true := by simp only [bne, h2, Bool.not_false]
  have g4 : (s != 4) = true := by simp only [bne, h4, Bool.not_false]
  go_enter Try.func10, Try.ntmps10
  go_wp2
  go_ret3
  exact ⟨rfl, Grown.refl _⟩

theorem Do_op (op s a n f : Int) (w : World) (hk : okSize s = true) (ho : op < 0 ∨ 7 < op) :
    Calls Try.prog 10 #[.int .i64 op, .int .i64 s, .int .u32 a, .int .u32 n, .int .u32 f] w fun e w' =>
      e = .returned (.tuple #[.int .u32 0, .int .u32 0, .int .i64 3]) ∧ Grown w w' := by
  obtain ⟨H, M, W, hS⟩ := Sw_of hk
  rcases ho with ho | ho
  · have g1 : decide (op < 0) = true := by simpa using ho
    rcases hS with ⟨rfl, rfl, rfl, rfl⟩ | ⟨rfl, rfl, rfl, rfl⟩ | ⟨rfl, rfl, rfl, rfl⟩
    all_goals
      go_enter Try.func10, Try.ntmps10
      go_wp2
      go_ret3
      exact ⟨rfl, Grown.refl _⟩
  · have g1 : decide (op < 0) = false := by simp; omega
    have g2 : decide (7 < op) = true := by simpa using ho
    rcases hS with ⟨rfl, rfl, rfl, rfl⟩ | ⟨rfl, rfl, rfl, rfl⟩ | ⟨rfl, rfl, rfl, rfl⟩
    all_goals
      go_enter Try.func10, Try.ntmps10
      go_wp2
      go_ret3
      exact ⟨rfl, Grown.refl _⟩

theorem Do_ok {s H M : Int} {W : Nat} (hS : Sw s H M W) (op a n f : Int) (k : Nat) (w : World) (o0 : 0 ≤ op) (o1 : op ≤ 7) (a0 : 0 ≤ a) (a1 : a < 4294967296) (n0 : 0 ≤ n) (n1 : n < 4294967296) (f0 : 0 ≤ f) (f1 : f < 4294967296) (hk : n % 32 = (k : Int)) :
    Calls Try.prog 10 #[.int .i64 op, .int .i64 s, .int .u32 a, .int .u32 n, .int .u32 f] w fun e w' =>
      e = .returned (.tuple #[.int .u32 (shR op H M W a k f), .int .u32 (shF op H M W a k f), .int .i64 0]) ∧ Grown w w' := by
  unfold shR shF
  by_cases h : k = 0
  · rw [if_pos h, if_pos h]
    exact Do_none hS op a n f w o0 o1 a0 a1 n0 n1 f0 f1 (by omega)
  · rw [if_neg h, if_neg h]
    have cases : op = 0 ∨ op = 1 ∨ op = 2 ∨ op = 3 ∨ op = 4 ∨ op = 5 ∨ op = 6 ∨ op = 7 := by omega
    rcases cases with rfl | rfl | rfl | rfl | rfl | rfl | rfl | rfl
    · exact Do_0 hS a n f k w a0 a1 n0 n1 f0 f1 hk (by omega)
    · exact Do_1 hS a n f k w a0 a1 n0 n1 f0 f1 hk (by omega)
    · exact Do_2 hS a n f k w a0 a1 n0 n1 f0 f1 hk (by omega)
    · exact Do_3 hS a n f k w a0 a1 n0 n1 f0 f1 hk (by omega)
    · exact Do_4 hS a n f k w a0 a1 n0 n1 f0 f1 hk (by omega)
    · exact Do_5 hS a n f k w a0 a1 n0 n1 f0 f1 hk (by omega)
    · exact Do_6 hS a n f k w a0 a1 n0 n1 f0 f1 hk (by omega)
    · exact Do_7 hS a n f k w a0 a1 n0 n1 f0 f1 hk (by omega)
end Go.Proofs.Ytnfbflbghlmdjaa
