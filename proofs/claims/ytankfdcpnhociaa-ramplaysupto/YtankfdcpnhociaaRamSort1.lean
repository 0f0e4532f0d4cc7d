/- slices.Sort of a slice of no number, or of one. -/
import Derived.Test.YtankfdcpnhociaaRamSeq
namespace Go.Proofs.Ytankfdcpnhociaa
open Go.ChangeShapes Go.WideShapes Go.ChangeAt Go.RowKit Go.Maps Go.Shelf
set_option linter.unusedVariables false

theorem len64_few (w : World) (L : Nat) (h : L ≤ 1) : Calls Try.prog 60 #[.int .u64 L] w fun e w' => (∃ v : Int, e = .returned (.int .i64 v)) ∧ w' = w := by
  rcases (by omega : L = 0 ∨ L = 1) with rfl | rfl
  · go_enter Try.func60, Try.ntmps60
    go_wp2
    go_ret
    exact ⟨⟨_, rfl⟩, rfl⟩
  · go_enter Try.func60, Try.ntmps60
    go_wp2
    go_ret
    exact ⟨⟨_, rfl⟩, rfl⟩

theorem len_few (w : World) (L : Nat) (h : L ≤ 1) : Calls Try.prog 49 #[.int .u64 L] w fun e w' => (∃ v : Int, e = .returned (.int .i64 v)) ∧ w' = w := by
  have c := len64_few w L h
  go_enter Try.func49, Try.ntmps49
  go_wp2_with fail
  refine c.mono ?_; rintro e w' ⟨⟨v, rfl⟩, hw⟩; replace hw := hw.symm; subst hw
  go_wp2
  go_ret
  exact ⟨⟨_, rfl⟩, rfl⟩

theorem ins_few (w : World) (p : Option Addr) (L cap : Nat) (h : L ≤ 1) : Calls Try.prog 50 #[.slice p L cap, .int .i64 0, .int .i64 L] w fun e w' => e = .returned (.tuple #[]) ∧ w' = w := by
  have h1 : ¬ (1 : Int) < L := by omega
  go_enter Try.func50, Try.ntmps50
  go_wp2
  go_loopw [6] (fun i wr => i = .int .i64 1 ∧ wr = w) (fun _ _ => 0)
  case atStart => exact ⟨rfl, rfl⟩
  case round =>
    obtain ⟨rfl, rfl⟩ := hrel
    go_wp2
    go_end0
    exact ⟨rfl, rfl⟩

theorem pdq_few (w : World) (p : Option Addr) (L cap : Nat) (h : L ≤ 1) (v : Int) : Calls Try.prog 48 #[.slice p L cap, .int .i64 0, .int .i64 L, .int .i64 v] w fun e w' => e = .returned (.tuple #[]) ∧ w' = w := by
  have c := ins_few w p L cap h
  have h1 : (L : Int) ≤ 12 := by omega
  go_enter Try.func48, Try.ntmps48
  go_wp2
  go_loopw [1, 2] (fun a b wr => a = .int .i64 0 ∧ b = .int .i64 L ∧ wr = w) (fun _ _ _ => 0)
  case atStart => exact ⟨rfl, rfl, rfl⟩
  case round =>
    obtain ⟨rfl, rfl, rfl⟩ := hrel
    go_wp2_with fail
    refine c.mono ?_; rintro e w' ⟨rfl, hw⟩; replace hw := hw.symm; subst hw
    go_wp2
    exact bodyPost_ret (results_none rfl _ _ _) rfl ⟨rfl, rfl⟩

theorem sort_few (w : World) (p : Option Addr) (L cap : Nat) (h : L ≤ 1) : Calls Try.prog 42 #[.slice p L cap] w fun e w' => e = .returned (.tuple #[]) ∧ w' = w := by
  have cl := len_few w L h
  go_enter Try.func42, Try.ntmps42
  go_wp2_with fail
  refine cl.mono ?_; rintro e w' ⟨⟨v, rfl⟩, hw⟩; replace hw := hw.symm; subst hw
  go_wp2_with fail
  refine (pdq_few w p L cap h v).mono ?_; rintro e w' ⟨rfl, hw⟩; replace hw := hw.symm; subst hw
  go_wp2
  go_end0
  exact ⟨rfl, rfl⟩
end Go.Proofs.Ytankfdcpnhociaa
