/- The walk of the statement ShiftHalves: for every input within its kinds it returns true, and the world has at most new blocks. -/
import Derived.Test.YtnfbflbghlmdjaaShiftAwake
import Derived.Test.YtnfbflbghlmdjaaShiftFacts3
import Derived.Test.YtnfbflbghlmdjaaRef01
namespace Go.Proofs.Ytnfbflbghlmdjaa
open Go.ChangeShapes Go.WideShapes Go.ChangeAt Go.RowKit
set_option linter.unusedVariables false

set_option maxRecDepth 20000 in
set_option maxHeartbeats 2000000 in
theorem halves_16 (a1 a2 a3 a4 : Int) (k : Nat) (w : World) (x0 : 0 ≤ a1) (x1 : a1 < 4294967296) (y0 : 0 ≤ a2) (y1 : a2 < 4294967296) (f0 : 0 ≤ a4) (f1 : a4 < 4294967296) (z0 : 0 ≤ a3) (hk : a3 % 16 = (k : Int)) (k1 : 1 ≤ k) (kW : k < 16) :
    Calls Try.prog 8 #[.int .i64 2, .int .u32 a1, .int .u32 a2, .int .u32 a3, .int .u32 a4] w fun e w' => e = .returned (.bool true) ∧ Grown w w' := by
  have hD : Sd 2 32768 65536 16 := Or.inl ⟨rfl, rfl, rfl, rfl⟩
  have hS : Sw 2 32768 65536 16 := hD.sw
  have g := halves hS a1 a2 a4 k1 kW
  have c := cf_halves hS a1 a2 f0 f1 k1 kW
  have g1 := g.1
  have g2 := g.2.1
  have c1 := c.1
  have c2 := c.2
  have D1 : Hid _ := dF_bd f0 f1 true 32768 16 (a1 % 65536) (a2 % 65536) k
  have D2 : Hid _ := dF_bd f0 f1 false 32768 16 (a1 % 65536) (a2 % 65536) k
  have S4 : Hid _ := shF_bd f0 f1 4 32768 65536 16 a1 k
  have S5 : Hid _ := shF_bd f0 f1 5 32768 65536 16 a1 k
  have nz : ((k : Int) == 0) = false := by simp; omega
  have HK : Hid ((k : Int) % 32 = (k : Int)) := (by omega : (k : Int) % 32 = (k : Int))
  have K2 : Hid (0 ≤ (k : Int) ∧ (k : Int) < 4294967296) := (by omega : 0 ≤ (k : Int) ∧ (k : Int) < 4294967296)
  have HL : Hid (((16 : Int) - (k : Int)) % 32 = ((16 - k : Nat) : Int)) := (by omega : ((16 : Int) - (k : Int)) % 32 = ((16 - k : Nat) : Int))
  have L2 : Hid (0 ≤ (16 : Int) - (k : Int) ∧ (16 : Int) - (k : Int) < 4294967296) := (by omega : 0 ≤ (16 : Int) - (k : Int) ∧ (16 : Int) - (k : Int) < 4294967296)
  clear g c
  go_enter Try.func8, Try.ntmps8
  go_wp2_with fail
  refine (awake_any _).mono ?_; rintro e w1 ⟨rfl, h1⟩
  go_wp2_with fail
  refine (Double_ok hD _ _ _ (k : Int) _ k _ x0 x1 y0 y1 K2.out.1 K2.out.2 f0 f1 HK.out k1).mono ?_; rintro e w2 ⟨rfl, h2⟩
  go_wp2_with fail
  refine (Do_ok hS 4 _ (k : Int) _ k _ (by decide) (by decide) x0 x1 K2.out.1 K2.out.2 f0 f1 HK.out).mono ?_; rintro e w3 ⟨rfl, h3⟩
  go_wp2_with fail
  refine (Do_ok hS 5 _ ((16 : Int) - (k : Int)) _ (16 - k) _ (by decide) (by decide) y0 y1 L2.out.1 L2.out.2 f0 f1 HL.out).mono ?_; rintro e w4 ⟨rfl, h4⟩
  go_wp2_with fail
  refine (Double_ok hD _ _ _ (k : Int) _ k _ x0 x1 y0 y1 K2.out.1 K2.out.2 f0 f1 HK.out k1).mono ?_; rintro e w5 ⟨rfl, h5⟩
  go_wp2_with fail
  refine (Do_ok hS 5 _ (k : Int) _ k _ (by decide) (by decide) x0 x1 K2.out.1 K2.out.2 f0 f1 HK.out).mono ?_; rintro e w6 ⟨rfl, h6⟩
  go_wp2_with fail
  refine (Do_ok hS 4 _ ((16 : Int) - (k : Int)) _ (16 - k) _ (by decide) (by decide) y0 y1 L2.out.1 L2.out.2 f0 f1 HL.out).mono ?_; rintro e w7 ⟨rfl, h7⟩
  go_wp2_with fail
  refine (Has_any _ _ _ D1.out.1 D1.out.2 fl1).mono ?_; rintro e w8 ⟨rfl, hw⟩; replace hw := hw.symm; subst hw
  go_wp2_with fail
  refine (Has_any _ _ _ S4.out.1 S4.out.2 fl1).mono ?_; rintro e w8 ⟨rfl, hw⟩; replace hw := hw.symm; subst hw
  go_wp2_with fail
  refine (Has_any _ _ _ D2.out.1 D2.out.2 fl1).mono ?_; rintro e w8 ⟨rfl, hw⟩; replace hw := hw.symm; subst hw
  go_wp2_with fail
  refine (Has_any _ _ _ S5.out.1 S5.out.2 fl1).mono ?_; rintro e w8 ⟨rfl, hw⟩; replace hw := hw.symm; subst hw
  go_wp2
  go_ret
  exact ⟨rfl, Grown.trans h1 (Grown.trans h2 (Grown.trans h3 (Grown.trans h4 (Grown.trans h5 (Grown.trans h6 h7)))))⟩

theorem halves_16_none (a1 a2 a3 a4 : Int) (w : World) (hk : a3 % 16 = 0) (z0 : 0 ≤ a3) :
    Calls Try.prog 8 #[.int .i64 2, .int .u32 a1, .int .u32 a2, .int .u32 a3, .int .u32 a4] w fun e w' => e = .returned (.bool true) ∧ Grown w w' := by
  go_enter Try.func8, Try.ntmps8
  go_wp2_with fail
  refine (awake_any _).mono ?_; rintro e w1 ⟨rfl, h1⟩
  go_wp2
  go_ret
  exact ⟨rfl, h1⟩

set_option maxRecDepth 20000 in
set_option maxHeartbeats 2000000 in
theorem halves_32 (a1 a2 a3 a4 : Int) (k : Nat) (w : World) (x0 : 0 ≤ a1) (x1 : a1 < 4294967296) (y0 : 0 ≤ a2) (y1 : a2 < 4294967296) (f0 : 0 ≤ a4) (f1 : a4 < 4294967296) (z0 : 0 ≤ a3) (hk : a3 % 32 = (k : Int)) (k1 : 1 ≤ k) (kW : k < 32) :
    Calls Try.prog 8 #[.int .i64 4, .int .u32 a1, .int .u32 a2, .int .u32 a3, .int .u32 a4] w fun e w' => e = .returned (.bool true) ∧ Grown w w' := by
  have hD : Sd 4 2147483648 4294967296 32 := Or.inr ⟨rfl, rfl, rfl, rfl⟩
  have hS : Sw 4 2147483648 4294967296 32 := hD.sw
  have g := halves hS a1 a2 a4 k1 kW
  have c := cf_halves hS a1 a2 f0 f1 k1 kW
  have g1 := g.1
  have g2 := g.2.1
  have c1 := c.1
  have c2 := c.2
  have D1 : Hid _ := dF_bd f0 f1 true 2147483648 32 (a1 % 4294967296) (a2 % 4294967296) k
  have D2 : Hid _ := dF_bd f0 f1 false 2147483648 32 (a1 % 4294967296) (a2 % 4294967296) k
  have S4 : Hid _ := shF_bd f0 f1 4 2147483648 4294967296 32 a1 k
  have S5 : Hid _ := shF_bd f0 f1 5 2147483648 4294967296 32 a1 k
  have nz : ((k : Int) == 0) = false := by simp; omega
  have HK : Hid ((k : Int) % 32 = (k : Int)) := (by omega : (k : Int) % 32 = (k : Int))
  have K2 : Hid (0 ≤ (k : Int) ∧ (k : Int) < 4294967296) := (by omega : 0 ≤ (k : Int) ∧ (k : Int) < 4294967296)
  have HL : Hid (((32 : Int) - (k : Int)) % 32 = ((32 - k : Nat) : Int)) := (by omega : ((32 : Int) - (k : Int)) % 32 = ((32 - k : Nat) : Int))
  have L2 : Hid (0 ≤ (32 : Int) - (k : Int) ∧ (32 : Int) - (k : Int) < 4294967296) := (by omega : 0 ≤ (32 : Int) - (k : Int) ∧ (32 : Int) - (k : Int) < 4294967296)
  clear g c
  go_enter Try.func8, Try.ntmps8
  go_wp2_with fail
  refine (awake_any _).mono ?_; rintro e w1 ⟨rfl, h1⟩
  go_wp2_with fail
  refine (Double_ok hD _ _ _ (k : Int) _ k _ x0 x1 y0 y1 K2.out.1 K2.out.2 f0 f1 HK.out k1).mono ?_; rintro e w2 ⟨rfl, h2⟩
  go_wp2_with fail
  refine (Do_ok hS 4 _ (k : Int) _ k _ (by decide) (by decide) x0 x1 K2.out.1 K2.out.2 f0 f1 HK.out).mono ?_; rintro e w3 ⟨rfl, h3⟩
  go_wp2_with fail
  refine (Do_ok hS 5 _ ((32 : Int) - (k : Int)) _ (32 - k) _ (by decide) (by decide) y0 y1 L2.out.1 L2.out.2 f0 f1 HL.out).mono ?_; rintro e w4 ⟨rfl, h4⟩
  go_wp2_with fail
  refine (Double_ok hD _ _ _ (k : Int) _ k _ x0 x1 y0 y1 K2.out.1 K2.out.2 f0 f1 HK.out k1).mono ?_; rintro e w5 ⟨rfl, h5⟩
  go_wp2_with fail
  refine (Do_ok hS 5 _ (k : Int) _ k _ (by decide) (by decide) x0 x1 K2.out.1 K2.out.2 f0 f1 HK.out).mono ?_; rintro e w6 ⟨rfl, h6⟩
  go_wp2_with fail
  refine (Do_ok hS 4 _ ((32 : Int) - (k : Int)) _ (32 - k) _ (by decide) (by decide) y0 y1 L2.out.1 L2.out.2 f0 f1 HL.out).mono ?_; rintro e w7 ⟨rfl, h7⟩
  go_wp2_with fail
  refine (Has_any _ _ _ D1.out.1 D1.out.2 fl1).mono ?_; rintro e w8 ⟨rfl, hw⟩; replace hw := hw.symm; subst hw
  go_wp2_with fail
  refine (Has_any _ _ _ S4.out.1 S4.out.2 fl1).mono ?_; rintro e w8 ⟨rfl, hw⟩; replace hw := hw.symm; subst hw
  go_wp2_with fail
  refine (Has_any _ _ _ D2.out.1 D2.out.2 fl1).mono ?_; rintro e w8 ⟨rfl, hw⟩; replace hw := hw.symm; subst hw
  go_wp2_with fail
  refine (Has_any _ _ _ S5.out.1 S5.out.2 fl1).mono ?_; rintro e w8 ⟨rfl, hw⟩; replace hw := hw.symm; subst hw
  go_wp2
  go_ret
  exact ⟨rfl, Grown.trans h1 (Grown.trans h2 (Grown.trans h3 (Grown.trans h4 (Grown.trans h5 (Grown.trans h6 h7)))))⟩

theorem halves_32_none (a1 a2 a3 a4 : Int) (w : World) (hk : a3 % 32 = 0) (z0 : 0 ≤ a3) :
    Calls Try.prog 8 #[.int .i64 4, .int .u32 a1, .int .u32 a2, .int .u32 a3, .int .u32 a4] w fun e w' => e = .returned (.bool true) ∧ Grown w w' := by
  go_enter Try.func8, Try.ntmps8
  go_wp2_with fail
  refine (awake_any _).mono ?_; rintro e w1 ⟨rfl, h1⟩
  go_wp2
  go_ret
  exact ⟨rfl, h1⟩

theorem ShiftHalves_walk (a0 a1 a2 a3 a4 : Int) (w0 : (Lit.int .i64 a0).wf = true) (w1 : (Lit.int .u32 a1).wf = true) (w2 : (Lit.int .u32 a2).wf = true) (w3 : (Lit.int .u32 a3).wf = true) (w4 : (Lit.int .u32 a4).wf = true) (w : World) :
    Calls Try.prog 8 #[.int .i64 a0, .int .u32 a1, .int .u32 a2, .int .u32 a3, .int .u32 a4] w fun e w' => e = .returned (.bool true) ∧ Grown w w' := by
  have b1 := bounds_u32 w1
  have b2 := bounds_u32 w2
  have b3 := bounds_u32 w3
  have b4 := bounds_u32 w4
  cases hk : okDbl a0
  · have hk' := hk
    unfold okDbl at hk'
    simp only [Bool.or_eq_false_iff] at hk'
    obtain ⟨h2, h4⟩ := hk'
    have g2 : (a0 != 2) = true := by simp only [bne, h2, Bool.not_false]
    have g4 : (a0 != 4) = true := by simp only [bne, h4, Bool.not_false]
    clear w0 w1 w2 w3 w4 b1 b2 b3 b4
    go_enter Try.func8, Try.ntmps8
    go_wp2_with fail
    refine (awake_any _).mono ?_; rintro e w1 ⟨rfl, h1⟩
    go_wp2_with fail
    refine (Double_size _ _ _ _ _ _ _ hk).mono ?_; rintro e w2 ⟨rfl, h2⟩
    go_wp2
    go_ret
    exact ⟨rfl, Grown.trans h1 h2⟩
  · unfold okDbl at hk
    simp only [Bool.or_eq_true, beq_iff_eq] at hk
    rcases hk with rfl | rfl
    · by_cases hz : a3 % 16 = 0
      · exact halves_16_none a1 a2 a3 a4 w hz b3.1
      · exact halves_16 a1 a2 a3 a4 (a3 % 16).toNat w b1.1 (by omega) b2.1 (by omega) b4.1 (by omega) b3.1 (by omega) (by omega) (by omega)
    · by_cases hz : a3 % 32 = 0
      · exact halves_32_none a1 a2 a3 a4 w hz b3.1
      · exact halves_32 a1 a2 a3 a4 (a3 % 32).toNat w b1.1 (by omega) b2.1 (by omega) b4.1 (by omega) b3.1 (by omega) (by omega) (by omega)
end Go.Proofs.Ytnfbflbghlmdjaa
