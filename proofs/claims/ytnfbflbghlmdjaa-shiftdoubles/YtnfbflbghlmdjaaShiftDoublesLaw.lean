/- The walk of the statement ShiftDoubles: for every input within its kinds it returns true, and the world has at most new blocks. -/
import Derived.Test.YtnfbflbghlmdjaaShiftAwake
import Derived.Test.YtnfbflbghlmdjaaShiftRefDblA
import Derived.Test.YtnfbflbghlmdjaaShiftRefDblB
import Derived.Test.YtnfbflbghlmdjaaShiftRefDblC
import Derived.Test.YtnfbflbghlmdjaaShiftRefDblD
namespace Go.Proofs.Ytnfbflbghlmdjaa
open Go.ChangeShapes Go.WideShapes Go.ChangeAt Go.RowKit
set_option linter.unusedVariables false

theorem Double_ref_size (l : Bool) (s a b n f : Int) (w : World) (hk : okDbl s = false) :
    Calls Try.prog 13 #[.bool l, .int .i64 s, .int .u32 a, .int .u32 b, .int .u32 n, .int .u32 f] w fun e w' =>
      e = .returned (.tuple #[.int .u32 0, .int .u32 0, .int .i64 2]) ∧ Grown w w' := by
  unfold okDbl at hk
  simp only [Bool.or_eq_false_iff] at hk
  obtain ⟨h2, h4⟩ := hk
  have g2 : (s != 2) = true := by simp only [bne, h2, Bool.not_false]
  have g4 : (s != 4) = true := by simp only [bne, h4, Bool.not_false]
  go_enter Try.func13, Try.ntmps13
  go_wp2
  go_ret3
  exact ⟨rfl, Grown.refl _⟩

theorem Double_ref_none {s H M : Int} {W : Nat} (hS : Sd s H M W) (l : Bool) (a b n f : Int) (w : World) (a0 : 0 ≤ a) (a1 : a < 4294967296) (b0 : 0 ≤ b) (b1 : b < 4294967296) (n0 : 0 ≤ n) (n1 : n < 4294967296) (hk : n % 32 = 0) :
    Calls Try.prog 13 #[.bool l, .int .i64 s, .int .u32 a, .int .u32 b, .int .u32 n, .int .u32 f] w fun e w' =>
      e = .returned (.tuple #[.int .u32 (a % M), .int .u32 f, .int .i64 0]) ∧ Grown w w' := by
  rcases hS with ⟨rfl, rfl, rfl, rfl⟩ | ⟨rfl, rfl, rfl, rfl⟩
  · go_enter Try.func13, Try.ntmps13
    go_wp2_with fail
    refine (Cut_any sz2 _ _ a0 (by omega)).mono ?_; rintro e w1 ⟨rfl, hw⟩; replace hw := hw.symm; subst hw
    go_wp2_with fail
    refine (Cut_any sz2 _ _ b0 (by omega)).mono ?_; rintro e w1 ⟨rfl, hw⟩; replace hw := hw.symm; subst hw
    go_wp2
    go_ret3
    exact ⟨rfl, Grown.refl _⟩
  · go_enter Try.func13, Try.ntmps13
    go_wp2_with fail
    refine (Cut_any sz4 _ _ a0 (by omega)).mono ?_; rintro e w1 ⟨rfl, hw⟩; replace hw := hw.symm; subst hw
    go_wp2_with fail
    refine (Cut_any sz4 _ _ b0 (by omega)).mono ?_; rintro e w1 ⟨rfl, hw⟩; replace hw := hw.symm; subst hw
    go_wp2
    go_ret3
    exact ⟨rfl, Grown.refl _⟩

theorem Double_ref_ok {s H M : Int} {W : Nat} (hS : Sd s H M W) (l : Bool) (a b n f : Int) (k : Nat) (w : World) (a0 : 0 ≤ a) (a1 : a < 4294967296) (b0 : 0 ≤ b) (b1 : b < 4294967296) (n0 : 0 ≤ n) (n1 : n < 4294967296) (f0 : 0 ≤ f) (f1 : f < 4294967296) (hk : n % 32 = (k : Int)) (k1 : 1 ≤ k) :
    Calls Try.prog 13 #[.bool l, .int .i64 s, .int .u32 a, .int .u32 b, .int .u32 n, .int .u32 f] w fun e w' =>
      e = .returned (.tuple #[.int .u32 (dR l W (a % M) (b % M) k), .int .u32 (dF l H W (a % M) (b % M) k f), .int .i64 0]) ∧ Grown w w' := by
  rcases hS with ⟨rfl, rfl, rfl, rfl⟩ | ⟨rfl, rfl, rfl, rfl⟩ <;> cases l
  · exact Double_ref_16_false a b n f k w a0 a1 b0 b1 n0 n1 f0 f1 hk k1 (by omega)
  · exact Double_ref_16_true a b n f k w a0 a1 b0 b1 n0 n1 f0 f1 hk k1 (by omega)
  · exact Double_ref_32_false a b n f k w a0 a1 b0 b1 n0 n1 f0 f1 hk k1 (by omega)
  · exact Double_ref_32_true a b n f k w a0 a1 b0 b1 n0 n1 f0 f1 hk k1 (by omega)

theorem ShiftDoubles_walk (a0 : Bool) (a1 a2 a3 a4 a5 : Int) (w1 : (Lit.int .i64 a1).wf = true) (w2 : (Lit.int .u32 a2).wf = true) (w3 : (Lit.int .u32 a3).wf = true) (w4 : (Lit.int .u32 a4).wf = true) (w5 : (Lit.int .u32 a5).wf = true) (w : World) :
    Calls Try.prog 5 #[.bool a0, .int .i64 a1, .int .u32 a2, .int .u32 a3, .int .u32 a4, .int .u32 a5] w fun e w' => e = .returned (.bool true) ∧ Grown w w' := by
  have b2 := bounds_u32 w2
  have b3 := bounds_u32 w3
  have b4 := bounds_u32 w4
  have b5 := bounds_u32 w5
  have x0 : 0 ≤ a2 := b2.1
  have x1 : a2 < 4294967296 := by omega
  have y0 : 0 ≤ a3 := b3.1
  have y1 : a3 < 4294967296 := by omega
  have n0 : 0 ≤ a4 := b4.1
  have n1 : a4 < 4294967296 := by omega
  have f0 : 0 ≤ a5 := b5.1
  have f1 : a5 < 4294967296 := by omega
  clear w1 w2 w3 w4 w5 b2 b3 b4 b5
  cases hk : okDbl a1
  · go_enter Try.func5, Try.ntmps5
    go_wp2_with fail
    refine (awake_any _).mono ?_; rintro e w1 ⟨rfl, h1⟩
    go_wp2_with fail
    refine (Double_size _ _ _ _ _ _ _ hk).mono ?_; rintro e w2 ⟨rfl, h2⟩
    go_wp2_with fail
    refine (Double_ref_size _ _ _ _ _ _ _ hk).mono ?_; rintro e w3 ⟨rfl, h3⟩
    go_wp2
    go_ret
    exact ⟨rfl, Grown.trans h1 (Grown.trans h2 h3)⟩
  · obtain ⟨H, M, W, hS⟩ := Sd_of hk
    by_cases hz : a4 % 32 = 0
    · have HZ : Hid _ := hz
      clear hz
      go_enter Try.func5, Try.ntmps5
      go_wp2_with fail
      refine (awake_any _).mono ?_; rintro e w1 ⟨rfl, h1⟩
      go_wp2_with fail
      refine (Double_none hS _ _ _ _ _ _ x0 x1 y0 y1 n0 n1 HZ.out).mono ?_; rintro e w2 ⟨rfl, h2⟩
      go_wp2_with fail
      refine (Double_ref_none hS _ _ _ _ _ _ x0 x1 y0 y1 n0 n1 HZ.out).mono ?_; rintro e w3 ⟨rfl, h3⟩
      go_wp2
      go_ret
      exact ⟨rfl, Grown.trans h1 (Grown.trans h2 h3)⟩
    · have HN : Hid (a4 % 32 = (((a4 % 32).toNat : Nat) : Int)) := (by omega : a4 % 32 = (((a4 % 32).toNat : Nat) : Int))
      have k1 : 1 ≤ (a4 % 32).toNat := by omega
      clear hz
      generalize (a4 % 32).toNat = k at HN k1
      go_enter Try.func5, Try.ntmps5
      go_wp2_with fail
      refine (awake_any _).mono ?_; rintro e w1 ⟨rfl, h1⟩
      go_wp2_with fail
      refine (Double_ok hS _ _ _ _ _ k _ x0 x1 y0 y1 n0 n1 f0 f1 HN.out k1).mono ?_; rintro e w2 ⟨rfl, h2⟩
      go_wp2_with fail
      refine (Double_ref_ok hS _ _ _ _ _ k _ x0 x1 y0 y1 n0 n1 f0 f1 HN.out k1).mono ?_; rintro e w3 ⟨rfl, h3⟩
      go_wp2
      go_ret
      exact ⟨rfl, Grown.trans h1 (Grown.trans h2 h3)⟩
end Go.Proofs.Ytnfbflbghlmdjaa
