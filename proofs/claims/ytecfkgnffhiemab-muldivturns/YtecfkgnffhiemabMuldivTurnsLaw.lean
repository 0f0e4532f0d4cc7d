/- The walk of the statement MuldivTurns: for every input within its kinds it returns true, and the world has at most new blocks. -/
import Derived.Test.YtecfkgnffhiemabMulAwake
namespace Go.Proofs.Ytecfkgnffhiemab
open Go.ChangeShapes Go.WideShapes Go.ChangeAt Go.RowKit
set_option linter.unusedVariables false

theorem mulP_comm (sg : Bool) (M H a b : Int) : mulP sg M H a b = mulP sg M H b a := by
  unfold mulP; cases sg <;> simp [Int.mul_comm]

theorem mul_turn (sg : Bool) (M H a b f : Int) : mulL sg M H a b = mulL sg M H b a ∧ mulU sg M H a b = mulU sg M H b a ∧ mulF sg M H a b f = mulF sg M H b a f := by
  have h := mulP_comm sg M H a b
  unfold mulF mulC mulL mulU
  rw [h]; exact ⟨rfl, rfl, rfl⟩

theorem sgv_cong (M H x : Int) : ∃ k, sgv M H x = x + M * k := by
  unfold sgv
  split
  · exact ⟨0, by rw [Int.mul_zero]; omega⟩
  · exact ⟨-1, by rw [Int.mul_neg, Int.mul_one]; omega⟩

/-- a product's lower half does not hang on signs -/
theorem mul_low (M H a b : Int) : mulL true M H a b = mulL false M H a b := by
  show sgv M H (a % M) * sgv M H (b % M) % M = a % M * (b % M) % M
  obtain ⟨k, hk⟩ := sgv_cong M H (a % M)
  obtain ⟨l, hl⟩ := sgv_cong M H (b % M)
  rw [hk, hl, Int.mul_emod, Int.add_mul_emod_self_left, Int.add_mul_emod_self_left, ← Int.mul_emod]

theorem mul_one' {s H M : Int} {W : Nat} (hS : Sw s H M W) (a : Int) : mulL false M H a 1 = a % M ∧ mulU false M H a 1 = 0 := by
  have p := hS.pow
  have b := mod_bd p.2.2.2.2.2.1 a
  have e : (1 : Int) % M = 1 := Int.emod_eq_of_lt (by decide) (by omega)
  have hP : mulP false M H a 1 = a % M := by show a % M * (1 % M) = a % M; rw [e, Int.mul_one]
  unfold mulL mulU
  rw [hP]
  refine ⟨Int.emod_eq_of_lt b.1 b.2, ?_⟩
  rw [Int.ediv_eq_zero_of_lt b.1 b.2]; exact Int.zero_emod _

set_option maxHeartbeats 1000000 in
theorem MuldivTurns_walk (a0 a1 a2 a3 : Int) (w0 : (Lit.int .i64 a0).wf = true) (w1 : (Lit.int .u32 a1).wf = true) (w2 : (Lit.int .u32 a2).wf = true) (w3 : (Lit.int .u32 a3).wf = true) (w : World) :
    Calls Try.prog 4 #[.int .i64 a0, .int .u32 a1, .int .u32 a2, .int .u32 a3] w fun e w' => e = .returned (.bool true) ∧ Grown w w' := by
  have b1 := bounds_u32 w1
  have l1 : 0 ≤ a1 := b1.1
  have u1 : a1 < 4294967296 := by omega
  have b2 := bounds_u32 w2
  have l2 : 0 ≤ a2 := b2.1
  have u2 : a2 < 4294967296 := by omega
  have b3 := bounds_u32 w3
  have l3 : 0 ≤ a3 := b3.1
  have u3 : a3 < 4294967296 := by omega
  clear b1 b2 b3
  clear w0 w1 w2 w3
  cases hk : okSize a0
  · go_enter Try.func4, Try.ntmps4
    go_wp2_with fail
    refine (awake_any _).mono ?_; rintro e w1 ⟨rfl, h1⟩
    go_wp2_with fail
    refine (mdMul_no _ _ _ _ _ _ hk).mono ?_; rintro e w2 ⟨rfl, h2⟩
    go_wp2_with fail
    refine (mdMul_no _ _ _ _ _ _ hk).mono ?_; rintro e w3 ⟨rfl, h3⟩
    go_wp2_with fail
    refine (mdMul_no _ _ _ _ _ _ hk).mono ?_; rintro e w4 ⟨rfl, h4⟩
    go_wp2_with fail
    refine (mdMul_no _ _ _ _ _ _ hk).mono ?_; rintro e w5 ⟨rfl, h5⟩
    go_wp2
    go_ret
    exact ⟨rfl, Grown.trans (Grown.trans (Grown.trans (Grown.trans h1 h2) h3) h4) h5⟩
  · obtain ⟨H, M, W, hS⟩ := Sw_of hk
    have mt := hS.pow.2.2.2.2.1
    have mp := hS.pow.2.2.2.2.2.1
    have w8 : 8 * a0 = (W : Int) := by rcases hS with ⟨rfl, rfl, rfl, rfl⟩ | ⟨rfl, rfl, rfl, rfl⟩ | ⟨rfl, rfl, rfl, rfl⟩ <;> rfl
    have wi : IntKind.i64.wrap (W : Int) = (W : Int) := by have := hS.pow.2.2.2.1; rw [wrap_i64']; omega
    have ww : IntKind.u64.wrap (W : Int) = (W : Int) := by have := hS.pow.2.2.2.1; rw [wrap_u64']; omega
    have wm : IntKind.u64.wrap (2 ^ W) = M := by rw [pw_cast, ← hS.pow.1, wrap_u64']; omega
    have mw : min W 64 = W := by have := hS.pow.2.2.2.1; omega
    have wa : IntKind.u64.wrap a1 = a1 := by rw [wrap_u64']; omega
    have t1 := mul_turn false M H a2 a1 a3
    have t2 := mul_turn true M H a2 a1 a3
    have t3 := mul_low M H a1 a2
    have t4 := mul_one' hS a1
    have c0 := (mod_bd mp a1).1
    have c1 := (mod_bd mp a1).2
    have wc : IntKind.u64.wrap (a1 % M) = a1 % M := by rw [wrap_u64']; omega
    obtain ⟨t11, t12, t13⟩ := t1
    obtain ⟨t21, t22, t23⟩ := t2
    obtain ⟨t41, t42⟩ := t4
    go_enter Try.func4, Try.ntmps4
    go_wp2_with fail
    refine (awake_any _).mono ?_; rintro e w1 ⟨rfl, h1⟩
    go_wp2_with fail
    refine (mdMul_ok hS false a1 a2 a3 _ l1 u1 l2 u2 l3 u3).mono ?_; rintro e w2 ⟨rfl, h2⟩
    go_wp2_with fail
    refine (mdMul_ok hS false a2 a1 a3 _ l2 u2 l1 u1 l3 u3).mono ?_; rintro e w3 ⟨rfl, h3⟩
    go_wp2_with fail
    refine (mdMul_ok hS true a1 a2 a3 _ l1 u1 l2 u2 l3 u3).mono ?_; rintro e w4 ⟨rfl, h4⟩
    go_wp2_with fail
    refine (mdMul_ok hS true a2 a1 a3 _ l2 u2 l1 u1 l3 u3).mono ?_; rintro e w5 ⟨rfl, h5⟩
    go_wp2_with fail
    refine (mdMul_ok hS false a1 1 a3 _ l1 u1 (by decide) (by decide) l3 u3).mono ?_; rintro e w6 ⟨rfl, h6⟩
    go_wp2
    go_ret
    exact ⟨rfl, Grown.trans (Grown.trans (Grown.trans (Grown.trans (Grown.trans h1 h2) h3) h4) h5) h6⟩
end Go.Proofs.Ytecfkgnffhiemab
