/- Contracts of the small functions of package bitop: for every input within their kinds they return what is named, and the world stays. -/
import Derived.Test.YtelclgelooljlaaGrow
import Derived.Test.YtelclgelooljlaaBitMath
namespace Go.Proofs.Ytelclgelooljlaa
open Go.ChangeShapes Go.WideShapes Go.ChangeAt Go.RowKit
set_option linter.unusedVariables false

theorem two_ways (b : Bool) : b = true ∨ b = false := by cases b <;> simp

def wideSize (s : Int) : Bool := s == 2 || s == 4

theorem btIsSize_any (s : Int) (w : World) :
    Calls Try.prog 30 #[.int .i64 s] w fun e w' => e = .returned (.bool (okSize s)) ∧ w' = w := by
  by_cases h1 : s = 1
  · subst h1
    go_enter Try.func30, Try.ntmps30
    go_wp2
    go_ret
    exact ⟨rfl, rfl⟩
  · by_cases h2 : s = 2
    · subst h2
      go_enter Try.func30, Try.ntmps30
      go_wp2
      go_ret
      exact ⟨rfl, rfl⟩
    · by_cases h4 : s = 4
      · subst h4
        go_enter Try.func30, Try.ntmps30
        go_wp2
        go_ret
        exact ⟨rfl, rfl⟩
      · have e : okSize s = false := by simp [okSize, h1, h2, h4]
        rw [e]
        have g1 : (s == 1) = false := by simp [h1]
        have g2 : (s == 2) = false := by simp [h2]
        have g4 : (s == 4) = false := by simp [h4]
        go_enter Try.func30, Try.ntmps30
        go_wp2
        go_ret
        exact ⟨rfl, rfl⟩

theorem btIsWide_any (s : Int) (w : World) :
    Calls Try.prog 23 #[.int .i64 s] w fun e w' => e = .returned (.bool (wideSize s)) ∧ w' = w := by
  by_cases h2 : s = 2
  · subst h2
    go_enter Try.func23, Try.ntmps23
    go_wp2
    go_ret
    exact ⟨rfl, rfl⟩
  · by_cases h4 : s = 4
    · subst h4
      go_enter Try.func23, Try.ntmps23
      go_wp2
      go_ret
      exact ⟨rfl, rfl⟩
    · have e : wideSize s = false := by simp [wideSize, h2, h4]
      rw [e]
      have g2 : (s == 2) = false := by simp [h2]
      have g4 : (s == 4) = false := by simp [h4]
      go_enter Try.func23, Try.ntmps23
      go_wp2
      go_ret
      exact ⟨rfl, rfl⟩

theorem btWidth_any {s H M : Int} {W : Nat} (hS : Sw s H M W) (w : World) :
    Calls Try.prog 25 #[.int .i64 s] w fun e w' => e = .returned (.int .u32 (W : Int)) ∧ w' = w := by
  rcases hS with ⟨rfl, rfl, rfl, rfl⟩ | ⟨rfl, rfl, rfl, rfl⟩ | ⟨rfl, rfl, rfl, rfl⟩
  all_goals
    go_enter Try.func25, Try.ntmps25
    go_wp2
    go_ret
    exact ⟨rfl, rfl⟩

theorem btCut_any {s H M : Int} {W : Nat} (hS : Sw s H M W) (a : Int) (w : World) (a0 : 0 ≤ a) (a1 : a < 4294967296) :
    Calls Try.prog 24 #[.int .i64 s, .int .u32 a] w fun e w' => e = .returned (.int .u32 (a % M)) ∧ w' = w := by
  have hw := btWidth_any hS
  rcases hS with ⟨rfl, rfl, rfl, rfl⟩ | ⟨rfl, rfl, rfl, rfl⟩ | ⟨rfl, rfl, rfl, rfl⟩
  · have e : a * 16777216 % 4294967296 / 16777216 = a % 256 := by omega
    go_enter Try.func24, Try.ntmps24
    go_wp2_with (go_at_call 25; refine (hw _).mono ?_; rintro e w' ⟨rfl, rfl⟩)
    go_ret
    exact ⟨rfl, rfl⟩
  · have e : a * 65536 % 4294967296 / 65536 = a % 65536 := by omega
    go_enter Try.func24, Try.ntmps24
    go_wp2_with (go_at_call 25; refine (hw _).mono ?_; rintro e w' ⟨rfl, rfl⟩)
    go_ret
    exact ⟨rfl, rfl⟩
  · have e : a % 4294967296 = a := by omega
    go_enter Try.func24, Try.ntmps24
    go_wp2_with (go_at_call 25; refine (hw _).mono ?_; rintro e w' ⟨rfl, rfl⟩)
    go_ret
    exact ⟨ret_int e.symm, rfl⟩

/-- flags with one of them laid anew, as the code has it -/
theorem btMark_any (f : Int) (j : Nat) (b : Bool) (w : World) (f0 : 0 ≤ f) (f1 : f < 4294967296) (hj : j < 32) :
    Calls Try.prog 26 #[.int .u32 f, .int .u32 ((2 ^ j : Nat) : Int), .bool b] w fun e w' => e = .returned (.int .u32 (setF f ((2 ^ j : Nat) : Int) b)) ∧ w' = w := by
  have h1 := or_bit f0 f1 hj
  have h2 := not_bit f0 f1 hj
  have p := pw_lt hj
  have q := pw_pos j
  revert h1 h2 p q
  generalize ((2 ^ j : Nat) : Int) = k
  intro h1 h2 p q
  cases b
  · go_enter Try.func26, Try.ntmps26
    go_wp2
    go_ret
    exact ⟨rfl, rfl⟩
  · go_enter Try.func26, Try.ntmps26
    go_wp2
    go_ret
    exact ⟨rfl, rfl⟩

theorem btMark1 (f : Int) (b : Bool) (w : World) (f0 : 0 ≤ f) (f1 : f < 4294967296) :
    Calls Try.prog 26 #[.int .u32 f, .int .u32 1, .bool b] w fun e w' => e = .returned (.int .u32 (setF f 1 b)) ∧ w' = w := btMark_any f 0 b w f0 f1 (by decide)

theorem btMark64 (f : Int) (b : Bool) (w : World) (f0 : 0 ≤ f) (f1 : f < 4294967296) :
    Calls Try.prog 26 #[.int .u32 f, .int .u32 64, .bool b] w fun e w' => e = .returned (.int .u32 (setF f 64 b)) ∧ w' = w := btMark_any f 6 b w f0 f1 (by decide)

theorem btRev_any (a : Int) (w : World) (a0 : 0 ≤ a) (a1 : a < 4294967296) :
    Calls Try.prog 34 #[.int .u32 a] w fun e w' => e = .returned (.int .u32 (swp a)) ∧ w' = w := by
  have HS : Hid _ := swap_is a0 a1
  go_enter Try.func34, Try.ntmps34
  go_wp2
  go_ret
  exact ⟨ret_int HS.out, rfl⟩

theorem btSwap_any (a : Int) (w : World) (a0 : 0 ≤ a) (a1 : a < 4294967296) :
    Calls Try.prog 18 #[.int .u32 a] w fun e w' => e = .returned (.int .u32 (swp a)) ∧ w' = w := by
  go_enter Try.func18, Try.ntmps18
  go_wp2_with (go_at_call 34; refine (btRev_any _ _ a0 a1).mono ?_; rintro e w' ⟨rfl, rfl⟩)
  go_ret
  exact ⟨rfl, rfl⟩

theorem btSign_any {s H M : Int} {W : Nat} (hS : Sw s H M W) (a : Int) (w : World) (a0 : 0 ≤ a) (a1 : a < 4294967296) :
    Calls Try.prog 31 #[.int .i64 s, .int .u32 a] w fun e w' => e = .returned (.int .u32 (extR true M 4294967296 H (a % M))) ∧ w' = w := by
  have hw := btWidth_any hS
  rcases hS with ⟨rfl, rfl, rfl, rfl⟩ | ⟨rfl, rfl, rfl, rfl⟩ | ⟨rfl, rfl, rfl, rfl⟩
  all_goals
    go_enter Try.func31, Try.ntmps31
    go_wp2_with (go_at_call 25; refine (hw _).mono ?_; rintro e w' ⟨rfl, rfl⟩)
    go_ret
    refine ⟨ret_int ?_, rfl⟩
    unfold extR sgn wrap32
    simp only [Bool.true_and, decide_eq_true_eq]
    split <;> omega
end Go.Proofs.Ytelclgelooljlaa
