/- The walk of the statement ShiftSums: for every input within its kinds it returns true, and the world has at most new blocks. -/
import Derived.Test.YtnfbflbghlmdjaaShiftAwake
import Derived.Test.YtnfbflbghlmdjaaShiftFacts2
import Derived.Test.YtnfbflbghlmdjaaRef01
namespace Go.Proofs.Ytnfbflbghlmdjaa
open Go.ChangeShapes Go.WideShapes Go.ChangeAt Go.RowKit
set_option linter.unusedVariables false

set_option maxRecDepth 20000 in
set_option maxHeartbeats 2000000 in
theorem sums_at {H M : Int} {W : Nat} (a0 a1 a2 a3 a4 a5 : Int) (hS : Sw a1 H M W) (m n : Nat) (w : World) (o0 : 0 ≤ a0) (o1 : a0 ≤ 7) (x0 : 0 ≤ a2) (x1 : a2 < 4294967296) (f0 : 0 ≤ a5) (f1 : a5 < 4294967296) (z0 : 0 ≤ a3) (y0 : 0 ≤ a4) (hm : a3 % 16 = (m : Int)) (m2 : m ≤ 15) (hn : a4 % 16 = 0 ∧ n = 1 ∨ (a4 % 16 = (n : Int) ∧ 1 ≤ n)) (n1 : 1 ≤ n) (n2 : n ≤ 15) :
    Calls Try.prog 7 #[.int .i64 a0, .int .i64 a1, .int .u32 a2, .int .u32 a3, .int .u32 a4, .int .u32 a5] w fun e w' => e = .returned (.bool true) ∧ Grown w w' := by
  have g := sh_sum hS a2 a0 o0 o1 f0 f1 n1 (by omega : m + n ≤ 31)
  have hF := shF_bd f0 f1 a0 H M W a2 m
  have B : Hid _ := shR_lt hS a0 a2 m a5
  have F : Hid _ := hF
  have G : Hid _ := shF_bd hF.1 hF.2 a0 H M W (shR a0 H M W a2 m a5) n
  have K : Hid _ := shF_bd f0 f1 a0 H M W a2 (m + n)
  have e1 := (hasF_1 G.out.1).trans g.2
  have e2 := hasF_1 K.out.1
  have g1 := g.1
  have M2 : Hid (0 ≤ (m : Int) ∧ (m : Int) < 4294967296) := (by omega : 0 ≤ (m : Int) ∧ (m : Int) < 4294967296)
  have N2 : Hid (0 ≤ (n : Int) ∧ (n : Int) < 4294967296) := (by omega : 0 ≤ (n : Int) ∧ (n : Int) < 4294967296)
  have HM : Hid ((m : Int) % 32 = (m : Int)) := (by omega : (m : Int) % 32 = (m : Int))
  have HN : Hid ((n : Int) % 32 = (n : Int)) := (by omega : (n : Int) % 32 = (n : Int))
  have HP : Hid (((m : Int) + (n : Int)) % 32 = ((m + n : Nat) : Int)) := (by omega : ((m : Int) + (n : Int)) % 32 = ((m + n : Nat) : Int))
  have P2 : Hid (0 ≤ (m : Int) + (n : Int) ∧ (m : Int) + (n : Int) < 4294967296) := (by omega : 0 ≤ (m : Int) + (n : Int) ∧ (m : Int) + (n : Int) < 4294967296)
  clear hF g
  rcases hn with ⟨hz, rfl⟩ | ⟨hn, _⟩
  · have HN1 : Hid ((1 : Int) % 32 = ((1 : Nat) : Int)) := (by decide : (1 : Int) % 32 = ((1 : Nat) : Int))
    have HP1 : Hid (((m : Int) + 1) % 32 = ((m + 1 : Nat) : Int)) := (by omega : ((m : Int) + 1) % 32 = ((m + 1 : Nat) : Int))
    have P1 : Hid (0 ≤ (m : Int) + 1 ∧ (m : Int) + 1 < 4294967296) := (by omega : 0 ≤ (m : Int) + 1 ∧ (m : Int) + 1 < 4294967296)
    clear HN HP P2
    go_enter Try.func7, Try.ntmps7
    go_wp2_with fail
    refine (awake_any _).mono ?_; rintro e w1 ⟨rfl, h1⟩
    go_wp2_with fail
    refine (Do_ok hS _ _ (m : Int) _ m _ o0 o1 x0 x1 M2.out.1 M2.out.2 f0 f1 HM.out).mono ?_; rintro e w2 ⟨rfl, h2⟩
    go_wp2_with fail
    refine (Do_ok hS _ _ 1 _ 1 _ o0 o1 B.out.1 B.out.2 (by decide) (by decide) F.out.1 F.out.2 HN1.out).mono ?_; rintro e w3 ⟨rfl, h3⟩
    go_wp2_with fail
    refine (Do_ok hS _ _ ((m : Int) + 1) _ (m + 1) _ o0 o1 x0 x1 P1.out.1 P1.out.2 f0 f1 HP1.out).mono ?_; rintro e w4 ⟨rfl, h4⟩
    go_wp2_with fail
    refine (Has_any _ _ _ G.out.1 G.out.2 fl1).mono ?_; rintro e w5 ⟨rfl, hw⟩; replace hw := hw.symm; subst hw
    go_wp2_with fail
    refine (Has_any _ _ _ K.out.1 K.out.2 fl1).mono ?_; rintro e w5 ⟨rfl, hw⟩; replace hw := hw.symm; subst hw
    go_wp2
    go_ret
    exact ⟨rfl, Grown.trans h1 (Grown.trans h2 (Grown.trans h3 h4))⟩
  · have nz : ((n : Int) == 0) = false := by simp; omega
    go_enter Try.func7, Try.ntmps7
    go_wp2_with fail
    refine (awake_any _).mono ?_; rintro e w1 ⟨rfl, h1⟩
    go_wp2_with fail
    refine (Do_ok hS _ _ (m : Int) _ m _ o0 o1 x0 x1 M2.out.1 M2.out.2 f0 f1 HM.out).mono ?_; rintro e w2 ⟨rfl, h2⟩
    go_wp2_with fail
    refine (Do_ok hS _ _ (n : Int) _ n _ o0 o1 B.out.1 B.out.2 N2.out.1 N2.out.2 F.out.1 F.out.2 HN.out).mono ?_; rintro e w3 ⟨rfl, h3⟩
    go_wp2_with fail
    refine (Do_ok hS _ _ _ _ (m + n) _ o0 o1 x0 x1 P2.out.1 P2.out.2 f0 f1 HP.out).mono ?_; rintro e w4 ⟨rfl, h4⟩
    go_wp2_with fail
    refine (Has_any _ _ _ G.out.1 G.out.2 fl1).mono ?_; rintro e w5 ⟨rfl, hw⟩; replace hw := hw.symm; subst hw
    go_wp2_with fail
    refine (Has_any _ _ _ K.out.1 K.out.2 fl1).mono ?_; rintro e w5 ⟨rfl, hw⟩; replace hw := hw.symm; subst hw
    go_wp2
    go_ret
    exact ⟨rfl, Grown.trans h1 (Grown.trans h2 (Grown.trans h3 h4))⟩

theorem ShiftSums_walk (a0 a1 a2 a3 a4 a5 : Int) (w0 : (Lit.int .i64 a0).wf = true) (w1 : (Lit.int .i64 a1).wf = true) (w2 : (Lit.int .u32 a2).wf = true) (w3 : (Lit.int .u32 a3).wf = true) (w4 : (Lit.int .u32 a4).wf = true) (w5 : (Lit.int .u32 a5).wf = true) (w : World) :
    Calls Try.prog 7 #[.int .i64 a0, .int .i64 a1, .int .u32 a2, .int .u32 a3, .int .u32 a4, .int .u32 a5] w fun e w' => e = .returned (.bool true) ∧ Grown w w' := by
  have b2 := bounds_u32 w2
  have b3 := bounds_u32 w3
  have b4 := bounds_u32 w4
  have b5 := bounds_u32 w5
  have x0 : 0 ≤ a2 := b2.1
  have x1 : a2 < 4294967296 := by omega
  have m0 : 0 ≤ a3 := b3.1
  have m1 : a3 < 4294967296 := by omega
  have n0 : 0 ≤ a4 := b4.1
  have n1 : a4 < 4294967296 := by omega
  have f0 : 0 ≤ a5 := b5.1
  have f1 : a5 < 4294967296 := by omega
  clear w0 w1 w2 w3 w4 w5 b2 b3 b4 b5
  cases hk : okSize a1
  · by_cases hz : a4 % 16 = 0
    all_goals
      go_enter Try.func7, Try.ntmps7
      go_wp2_with fail
      refine (awake_any _).mono ?_; rintro e w1 ⟨rfl, h1⟩
      go_wp2_with fail
      refine (Do_size _ _ _ _ _ _ hk).mono ?_; rintro e w2 ⟨rfl, h2⟩
      go_wp2
      go_ret
      exact ⟨rfl, Grown.trans h1 h2⟩
  · obtain ⟨H, M, W, hS⟩ := Sw_of hk
    by_cases ho : a0 < 0 ∨ 7 < a0
    · have HO : Hid _ := ho
      clear ho
      by_cases hz : a4 % 16 = 0
      all_goals
        go_enter Try.func7, Try.ntmps7
        go_wp2_with fail
        refine (awake_any _).mono ?_; rintro e w1 ⟨rfl, h1⟩
        go_wp2_with fail
        refine (Do_op _ _ _ _ _ _ hk HO.out).mono ?_; rintro e w2 ⟨rfl, h2⟩
        go_wp2
        go_ret
        exact ⟨rfl, Grown.trans h1 h2⟩
    · by_cases hz : a4 % 16 = 0
      · exact sums_at a0 a1 a2 a3 a4 a5 hS (a3 % 16).toNat 1 w (by omega) (by omega) x0 x1 f0 f1 m0 n0 (by omega) (by omega) (Or.inl ⟨hz, rfl⟩) (by omega) (by omega)
      · exact sums_at a0 a1 a2 a3 a4 a5 hS (a3 % 16).toNat (a4 % 16).toNat w (by omega) (by omega) x0 x1 f0 f1 m0 n0 (by omega) (by omega) (Or.inr ⟨by omega, by omega⟩) (by omega) (by omega)
end Go.Proofs.Ytnfbflbghlmdjaa
