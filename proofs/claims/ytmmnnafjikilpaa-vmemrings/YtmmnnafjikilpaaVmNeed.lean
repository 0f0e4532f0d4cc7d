/- What must be there: a memory, and a processor; a byte's place. -/
import Derived.Test.YtmmnnafjikilpaaVmBase
namespace Go.Proofs.Ytmmnnafjikilpaa
open Go.ChangeShapes Go.WideShapes Go.ChangeAt Go.RowKit Go.Maps
set_option linter.unusedVariables false

theorem need_ok (w : World) (V B C : Nat) (h : w.cell? ⟨V, 0, none⟩ = some (.pointer (some ⟨B + 3, 0, none⟩))) : Calls Try.prog 50 #[.pointer (some ⟨V, 0, none⟩), .pointer (some ⟨C, 0, none⟩)] w fun e w' => e = .returned (.tuple #[]) ∧ w' = w := by
  go_enter Try.func50, Try.ntmps50
  go_wp2_with (go_at_call 23; refine (vRam_ok _ V B 0 h).mono ?_; rintro e w' ⟨rfl, hw⟩; replace hw := hw.symm; subst hw)
  go_end0
  exact ⟨rfl, rfl⟩

theorem need_cpu (w : World) (V B : Nat) (h : w.cell? ⟨V, 0, none⟩ = some (.pointer (some ⟨B + 3, 0, none⟩))) : Calls Try.prog 50 #[.pointer (some ⟨V, 0, none⟩), .pointer none] w fun e w' => e = .panicked (pan (ftV 13)) ∧ Kp noB w w' := by
  unfold pan ftV Ft.val
  go_enter Try.func50, Try.ntmps50
  go_wp2_with (first | (go_at_call 23; refine (vRam_ok _ V B 0 h).mono ?_; rintro e w' ⟨rfl, hw⟩; replace hw := hw.symm; subst hw) | (go_at_call 52; refine (refused_any _ _).mono ?_; rintro e w2 ⟨rfl, k2⟩))
  exact ⟨rfl, rfl, k2⟩

theorem need_nil (w : World) (C : Option Addr) : Calls Try.prog 50 #[.pointer none, .pointer C] w fun e w' => e = .panicked (pan (ftV 13)) ∧ Kp noB w w' := by
  unfold pan ftV Ft.val
  go_enter Try.func50, Try.ntmps50
  go_wp2_with (first | (go_at_call 23; refine (vRam_nil _).mono ?_; rintro e w' ⟨rfl, hw⟩; replace hw := hw.symm; subst hw) | (go_at_call 52; refine (refused_any _ _).mono ?_; rintro e w2 ⟨rfl, k2⟩))
  exact ⟨rfl, rfl, k2⟩

theorem spAt_any (w : World) (s : Sp) (hs : s.Ok) (j : Nat) (hj : j < s.n) : Calls Try.prog 61 #[s.val, .int .i64 j] w fun e w' => e = .returned (.int .u32 (s.at j)) ∧ Kp noB w w' := by
  obtain ⟨a, b, h, n⟩ := s
  have a0 := hs.a0; have a1 := hs.a1; have b0 := hs.b0; have b1 := hs.b1
  have hn := hs.h1
  have hn4 : n ≤ 4 := by rcases hs.n1 with e | e | e <;> simp only at e <;> omega
  simp only at a0 a1 b0 b1 hn hj
  clear hs
  unfold Sp.val Sp.at
  simp only
  by_cases hlt : j < h
  · rw [if_pos hlt]
    have hi : (j : Int) < h := by omega
    have ew : IntKind.u32.wrap (j : Int) = j := by have := IntKind.wrap_u32 (j : Int); omega
    go_enter Try.func61, Try.ntmps61
    go_wp2
    go_ret
    exact ⟨ret_int (by omega), Kp.alloc noB w _⟩
  · rw [if_neg hlt]
    have hi : ¬ (j : Int) < h := by omega
    have ew : IntKind.i64.wrap ((j : Int) - h) = (j : Int) - h := by have := IntKind.wrap_i64 ((j : Int) - h); omega
    go_enter Try.func61, Try.ntmps61
    go_wp2
    go_ret
    exact ⟨ret_int (by omega), Kp.alloc noB w _⟩
end Go.Proofs.Ytmmnnafjikilpaa
