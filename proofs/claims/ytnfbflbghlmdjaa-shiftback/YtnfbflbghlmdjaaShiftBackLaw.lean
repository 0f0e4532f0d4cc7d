/- The walk of the statement ShiftBack: for every input within its kinds it returns true, and the world has at most new blocks. -/
import Derived.Test.YtnfbflbghlmdjaaShiftAwake
import Derived.Test.YtnfbflbghlmdjaaShiftFacts
import Derived.Test.YtnfbflbghlmdjaaRef01
namespace Go.Proofs.Ytnfbflbghlmdjaa
open Go.ChangeShapes Go.WideShapes Go.ChangeAt Go.RowKit
set_option linter.unusedVariables false

theorem count_of (n : Int) (n0 : 0 ≤ n) : ∃ k : Nat, n % 32 = (k : Int) ∧ k ≤ 31 := ⟨(n % 32).toNat, by omega, by omega⟩

set_option maxRecDepth 20000 in
set_option maxHeartbeats 2000000 in
theorem ShiftBack_walk (a0 a1 a2 a3 : Int) (w0 : (Lit.int .i64 a0).wf = true) (w1 : (Lit.int .u32 a1).wf = true) (w2 : (Lit.int .u32 a2).wf = true) (w3 : (Lit.int .u32 a3).wf = true) (w : World) :
    Calls Try.prog 6 #[.int .i64 a0, .int .u32 a1, .int .u32 a2, .int .u32 a3] w fun e w' => e = .returned (.bool true) ∧ Grown w w' := by
  have b1 := bounds_u32 w1
  have b2 := bounds_u32 w2
  have b3 := bounds_u32 w3
  have x0 : 0 ≤ a1 := b1.1
  have x1 : a1 < 4294967296 := by omega
  have n0 : 0 ≤ a2 := b2.1
  have n1 : a2 < 4294967296 := by omega
  have f0 : 0 ≤ a3 := b3.1
  have f1 : a3 < 4294967296 := by omega
  clear w0 w1 w2 w3 b1 b2 b3
  cases hk : okSize a0
  · go_enter Try.func6, Try.ntmps6
    go_wp2_with fail
    refine (awake_any _).mono ?_; rintro e w1 ⟨rfl, h1⟩
    go_wp2_with fail
    refine (Do_size _ _ _ _ _ _ hk).mono ?_; rintro e w2 ⟨rfl, h2⟩
    go_wp2
    go_ret
    exact ⟨rfl, Grown.trans h1 h2⟩
  · obtain ⟨H, M, W, hS⟩ := Sw_of hk
    obtain ⟨k, hn, k2⟩ := count_of a2 n0
    have HN : Hid (a2 % 32 = (k : Int)) := hn
    have HZ : Hid ((0 : Int) % 32 = ((0 : Nat) : Int)) := (rfl : (0 : Int) % 32 = ((0 : Nat) : Int))
    clear hn
    have q0 : shR 0 H M W a1 0 a3 = a1 % M := by unfold shR; rw [if_pos rfl]
    have t := back_turn hS a1 a3 k2
    have c2 := back_carry hS a1 f0 f1 k2 2 3 (Or.inl ⟨rfl, rfl⟩)
    have c3 := back_carry hS a1 f0 f1 k2 3 2 (Or.inr ⟨rfl, rfl⟩)
    have h2F := shF_bd f0 f1 2 H M W a1 k
    have h3F := shF_bd f0 f1 3 H M W a1 k
    have hh := hasF_1 f0
    have hh2 := (hasF_1 (shF_bd h2F.1 h2F.2 3 H M W (shR 2 H M W a1 k a3) k).1).trans c2.2
    have hh3 := (hasF_1 (shF_bd h3F.1 h3F.2 2 H M W (shR 3 H M W a1 k a3) k).1).trans c3.2
    have B0 : Hid _ := shR_lt hS 0 a1 k a3
    have B1 : Hid _ := shR_lt hS 1 a1 k a3
    have B2 : Hid _ := shR_lt hS 2 a1 k a3
    have B3 : Hid _ := shR_lt hS 3 a1 k a3
    have F2 : Hid _ := h2F
    have F3 : Hid _ := h3F
    have G2 : Hid _ := shF_bd h2F.1 h2F.2 3 H M W (shR 2 H M W a1 k a3) k
    have G3 : Hid _ := shF_bd h3F.1 h3F.2 2 H M W (shR 3 H M W a1 k a3) k
    obtain ⟨t1, t2⟩ := t
    replace c2 := c2.1
    replace c3 := c3.1
    clear h2F h3F
    go_enter Try.func6, Try.ntmps6
    go_wp2_with fail
    refine (awake_any _).mono ?_; rintro e w1 ⟨rfl, h1⟩
    go_wp2_with fail
    refine (Do_ok hS _ _ _ _ 0 _ (by decide) (by decide) x0 x1 (by decide) (by decide) f0 f1 HZ.out).mono ?_; rintro e w2 ⟨rfl, h2⟩
    go_wp2_with fail
    refine (Do_ok hS _ _ _ _ k _ (by decide) (by decide) x0 x1 n0 n1 f0 f1 HN.out).mono ?_; rintro e w3 ⟨rfl, h3⟩
    go_wp2_with fail
    refine (Do_ok hS _ _ _ _ k _ (by decide) (by decide) B0.out.1 B0.out.2 n0 n1 f0 f1 HN.out).mono ?_; rintro e w4 ⟨rfl, h4⟩
    go_wp2_with fail
    refine (Do_ok hS _ _ _ _ k _ (by decide) (by decide) x0 x1 n0 n1 f0 f1 HN.out).mono ?_; rintro e w5 ⟨rfl, h5⟩
    go_wp2_with fail
    refine (Do_ok hS _ _ _ _ k _ (by decide) (by decide) B1.out.1 B1.out.2 n0 n1 f0 f1 HN.out).mono ?_; rintro e w6 ⟨rfl, h6⟩
    go_wp2_with fail
    refine (Do_ok hS _ _ _ _ k _ (by decide) (by decide) x0 x1 n0 n1 f0 f1 HN.out).mono ?_; rintro e w7 ⟨rfl, h7⟩
    go_wp2_with fail
    refine (Do_ok hS _ _ _ _ k _ (by decide) (by decide) B2.out.1 B2.out.2 n0 n1 F2.out.1 F2.out.2 HN.out).mono ?_; rintro e w8 ⟨rfl, h8⟩
    go_wp2_with fail
    refine (Do_ok hS _ _ _ _ k _ (by decide) (by decide) x0 x1 n0 n1 f0 f1 HN.out).mono ?_; rintro e w9 ⟨rfl, h9⟩
    go_wp2_with fail
    refine (Do_ok hS _ _ _ _ k _ (by decide) (by decide) B3.out.1 B3.out.2 n0 n1 F3.out.1 F3.out.2 HN.out).mono ?_; rintro e w10 ⟨rfl, h10⟩
    go_wp2_with fail
    refine (Has_any _ _ _ f0 f1 fl1).mono ?_; rintro e w11 ⟨rfl, hw⟩; replace hw := hw.symm; subst hw
    go_wp2_with fail
    refine (Has_any _ _ _ G2.out.1 G2.out.2 fl1).mono ?_; rintro e w11 ⟨rfl, hw⟩; replace hw := hw.symm; subst hw
    go_wp2_with fail
    refine (Has_any _ _ _ G3.out.1 G3.out.2 fl1).mono ?_; rintro e w11 ⟨rfl, hw⟩; replace hw := hw.symm; subst hw
    go_wp2
    go_ret
    refine ⟨?_, Grown.trans h1 (Grown.trans h2 (Grown.trans h3 (Grown.trans h4 (Grown.trans h5 (Grown.trans h6 (Grown.trans h7 (Grown.trans h8 (Grown.trans h9 h10))))))))⟩
    rfl
end Go.Proofs.Ytnfbflbghlmdjaa
