/- The walk of the statement AluLogic: for every input within its kinds it returns true, and the world has at most new blocks. -/
import Derived.Test.YtllegaigfpfdkabAluAwake
namespace Go.Proofs.Ytllegaigfpfdkab
open Go.ChangeShapes Go.WideShapes Go.ChangeAt Go.RowKit
set_option linter.unusedVariables false

theorem bit_sum (p q : Nat) (hp : p = 0 ∨ p = 1) (hq : q = 0 ∨ q = 1) : (p &&& q) + (p ^^^ q) = p ||| q := by
  rcases hp with rfl | rfl <;> rcases hq with rfl | rfl <;> decide
theorem and_add_xor (n : Nat) : ∀ x y : Nat, x < 2 ^ n → y < 2 ^ n → (x &&& y) + (x ^^^ y) = x ||| y := by
  induction n with
  | zero =>
    intro x y hx hy
    have : x = 0 := by simpa using hx
    have : y = 0 := by simpa using hy
    subst_vars
    rfl
  | succ n ih =>
    intro x y hx hy
    have h := ih (x / 2) (y / 2) (by rw [Nat.pow_succ] at hx; omega) (by rw [Nat.pow_succ] at hy; omega)
    have a1 := Nat.and_div_two (a := x) (b := y)
    have o1 := Nat.or_div_two (a := x) (b := y)
    have e1 := Nat.xor_div_two (a := x) (b := y)
    have a0 : (x &&& y) % 2 = x % 2 &&& y % 2 := Nat.and_mod_two_pow (n := 1)
    have o0 : (x ||| y) % 2 = x % 2 ||| y % 2 := Nat.or_mod_two_pow (n := 1)
    have e0 : (x ^^^ y) % 2 = x % 2 ^^^ y % 2 := Nat.xor_mod_two_pow (n := 1)
    have k := bit_sum (x % 2) (y % 2) (by omega) (by omega)
    omega

theorem logic_sum {s H M sp bt x y : Int} (hS : Sz s H M sp bt) (x0 : 0 ≤ x) (x1 : x < M) (y0 : 0 ≤ y) (y1 : y < M) (f : Int) : doR 4 M x y f + doR 6 M x y f = doR 1 M x y f := by
  have mt := hS.top.1
  show bits .and .u32 x y + bits .xor .u32 x y = bits .or .u32 x y
  rw [u32_or x y x0 (by omega) y0 (by omega), u32_xor x y x0 (by omega) y0 (by omega), u32_and x y x0 (by omega) y0 (by omega)]
  have h := and_add_xor 32 x.toNat y.toNat (by omega) (by omega)
  omega

theorem tb_neg {s H M sp bt : Int} (hS : Sz s H M sp bt) : ∃ n : Nat, M = ((2 ^ n : Nat) : Int) ∧ ∀ x : Int, 0 ≤ x → x < M → ∀ i, tb (M - 1 - x) i = (decide (i < n) && !tb x i) := by
  have g : ∀ n : Nat, ∀ x : Int, 0 ≤ x → x < ((2 ^ n : Nat) : Int) → ∀ i, tb (((2 ^ n : Nat) : Int) - 1 - x) i = (decide (i < n) && !tb x i) := fun n x x0 x1 i => by
    have e : (((2 ^ n : Nat) : Int) - 1 - x).toNat = 2 ^ n - (x.toNat + 1) := by omega
    unfold tb
    rw [e, Nat.testBit_two_pow_sub_succ (by omega)]
  rcases hS with ⟨rfl, rfl, rfl, rfl, rfl⟩ | ⟨rfl, rfl, rfl, rfl, rfl⟩ | ⟨rfl, rfl, rfl, rfl, rfl⟩
  · exact ⟨8, rfl, g 8⟩
  · exact ⟨16, rfl, g 16⟩
  · exact ⟨32, by decide, g 32⟩

theorem logic_not {s H M sp bt x y : Int} (hS : Sz s H M sp bt) (x0 : 0 ≤ x) (x1 : x < M) (y0 : 0 ≤ y) (y1 : y < M) (f : Int) :
    doR 12 M (doR 1 M (doR 12 M x 0 f % M) (doR 12 M y 0 f % M) f % M) 0 f = doR 4 M x y f := by
  have mt := hS.top.1
  have b := bits_lt hS x0 x1 y0 y1
  show M - 1 - bits .or .u32 ((M - 1 - x) % M) ((M - 1 - y) % M) % M = bits .and .u32 x y
  rw [Int.emod_eq_of_lt (by omega : 0 ≤ M - 1 - x) (by omega), Int.emod_eq_of_lt (by omega : 0 ≤ M - 1 - y) (by omega)]
  have c := bits_lt hS (by omega : 0 ≤ M - 1 - x) (by omega) (by omega : 0 ≤ M - 1 - y) (by omega)
  rw [Int.emod_eq_of_lt c.1.1 c.1.2]
  obtain ⟨n, hM, ht⟩ := tb_neg hS
  refine tb_ext (by omega) b.2.2.1 fun i => ?_
  rw [ht _ c.1.1 c.1.2, tb_or (by omega) (by omega) (by omega) (by omega), ht x x0 x1, ht y y0 y1, tb_and x0 (by omega) y0 (by omega)]
  by_cases hi : i < n
  · simp [hi]
  · have hx : tb x i = false := by
      unfold tb
      apply Nat.testBit_lt_two_pow
      have : (2 : Nat) ^ n ≤ 2 ^ i := Nat.pow_le_pow_right (by decide) (by omega)
      omega
    simp [hi, hx]

theorem or_zero' {x : Int} (x0 : 0 ≤ x) (x1 : x < 4294967296) : bits .or .u32 x 0 = x := by
  rw [u32_or x 0 x0 x1 (by decide) (by decide)]
  show ((x.toNat ||| 0 : Nat) : Int) = x
  rw [Nat.or_zero]; omega

theorem logic_flags {f : Int} (f0 : 0 ≤ f) (f1 : f < 4294967296) (H r : Int) : byF H r (bits .andNot .u32 f 2065) = logF H r f := by
  have h := lay_log f0 f1 H r
  have b := andNot_bd f0 f1 (b := 2065) (by decide) (by decide)
  rw [show bits .and .u32 0 2065 = 0 from by decide, or_zero' b.1 b.2] at h
  exact h

set_option maxRecDepth 20000 in
set_option maxHeartbeats 2000000 in
theorem AluLogic_walk (a0 a1 a2 a3 : Int) (w0 : (Lit.int .i64 a0).wf = true) (w1 : (Lit.int .u32 a1).wf = true) (w2 : (Lit.int .u32 a2).wf = true) (w3 : (Lit.int .u32 a3).wf = true) (w : World) :
    Calls Try.prog 3 #[.int .i64 a0, .int .u32 a1, .int .u32 a2, .int .u32 a3] w fun e w' => e = .returned (.bool true) ∧ Grown w w' := by
  have b1 := bounds_u32 w1
  have b2 := bounds_u32 w2
  have b3 := bounds_u32 w3
  have x0 : 0 ≤ a1 := b1.1
  have x1 : a1 < 4294967296 := by omega
  have y0 : 0 ≤ a2 := b2.1
  have y1 : a2 < 4294967296 := by omega
  have f0 : 0 ≤ a3 := b3.1
  have f1 : a3 < 4294967296 := by omega
  clear w0 w1 w2 w3 b1 b2 b3
  cases hk : okSize a0
  · go_enter Try.func3, Try.ntmps3
    go_wp2_with fail
    refine (awake_any _).mono ?_; rintro e w1 ⟨rfl, h1⟩
    go_wp2_with fail
    refine (Do_size _ _ _ _ _ _ hk).mono ?_; rintro e w2 ⟨rfl, h2⟩
    go_wp2_with fail
    refine (Do_size _ _ _ _ _ _ hk).mono ?_; rintro e w3 ⟨rfl, h3⟩
    go_wp2_with fail
    refine (Do_size _ _ _ _ _ _ hk).mono ?_; rintro e w4 ⟨rfl, h4⟩
    go_wp2
    go_ret
    exact ⟨rfl, Grown.trans (Grown.trans (Grown.trans h1 h2) h3) h4⟩
  · obtain ⟨H, M, sp, bt, hS⟩ := Sz_of hk
    have m0 : 0 < M := by have := hS.top; omega
    have bx := mod_bd m0 a1
    have bY := mod_bd m0 a2
    have bz := mod_bd m0 0
    have hz : (0 : Int) % M = 0 := by simp
    have hD := doF_is f0 f1 M H (a1 % M) (a2 % M)
    have hp := logic_not hS bx.1 bx.2 bY.1 bY.2 a3
    have hs := logic_sum hS bx.1 bx.2 bY.1 bY.2 a3
    have dX := lt32 hS (doR_bd hS bx.1 bx.2 bY.1 bY.2 4 a3)
    have dN := lt32 hS (doR_bd hS bx.1 bx.2 bz.1 bz.2 12 a3)
    have dM := lt32 hS (doR_bd hS bY.1 bY.2 bz.1 bz.2 12 a3)
    have dY := doR_bd hS bx.1 bx.2 bY.1 bY.2 1 a3
    have bN := mod_bd m0 (doR 12 M (a1 % M) 0 a3)
    have bM := mod_bd m0 (doR 12 M (a2 % M) 0 a3)
    have dO := lt32 hS (doR_bd hS bN.1 bN.2 bM.1 bM.2 1 a3)
    rw [hz] at dN dM
    have mt := hS.top.1
    have hy : doR 1 M (a1 % M) (a2 % M) a3 % 4294967296 = doR 1 M (a1 % M) (a2 % M) a3 := Int.emod_eq_of_lt dY.1 (by omega)
    have hh : doF 8 M H (a1 % M) (a2 % M) a3 = doF 4 M H (a1 % M) (a2 % M) a3 := by rw [hD.2.2.2.2.2.2.1, hD.2.2.2.2.2.2.2.2.1]
    have hx : doR 4 M (a1 % M) (a2 % M) a3 % M = doR 4 M (a1 % M) (a2 % M) a3 := by
      have := doR_bd hS bx.1 bx.2 bY.1 bY.2 4 a3
      exact Int.emod_eq_of_lt this.1 this.2
    have hi : byF H (doR 4 M (a1 % M) (a2 % M) a3 % M) (bits .andNot .u32 a3 2065) = doF 4 M H (a1 % M) (a2 % M) a3 := by
      rw [hx, logic_flags f0 f1, hD.2.2.2.2.2.2.1]; rfl
    have HB : Hid _ := andNot_bd f0 f1 (b := 2065) (by decide) (by decide)
    have HX : Hid _ := dX
    have HN : Hid _ := dN
    have HM : Hid _ := dM
    have HO : Hid _ := dO
    clear bx bY bz bN bM dX dN dM dY dO hD hx mt
    have hg : ∀ x, doF 12 M H x 0 a3 = a3 := fun x => rfl
    go_enter Try.func3, Try.ntmps3
    go_wp2_with fail
    refine (awake_any _).mono ?_; rintro e w1 ⟨rfl, h1⟩
    go_wp2_with fail
    refine (Do_ok hS _ _ _ _ _ (by decide) (by decide) x0 x1 y0 y1 f0 f1).mono ?_; rintro e w2 ⟨rfl, h2⟩
    go_wp2_with fail
    refine (Do_ok hS _ _ _ _ _ (by decide) (by decide) x0 x1 y0 y1 f0 f1).mono ?_; rintro e w3 ⟨rfl, h3⟩
    go_wp2_with fail
    refine (Do_ok hS _ _ _ _ _ (by decide) (by decide) x0 x1 y0 y1 f0 f1).mono ?_; rintro e w4 ⟨rfl, h4⟩
    go_wp2_with fail
    refine (Do_ok hS _ _ _ _ _ (by decide) (by decide) x0 x1 (by decide) (by decide) f0 f1).mono ?_; rintro e w5 ⟨rfl, h5⟩
    go_wp2_with fail
    refine (Do_ok hS _ _ _ _ _ (by decide) (by decide) y0 y1 (by decide) (by decide) f0 f1).mono ?_; rintro e w6 ⟨rfl, h6⟩
    go_wp2_with fail
    refine (Do_ok hS _ _ _ _ _ (by decide) (by decide) HN.out.1 HN.out.2 HM.out.1 HM.out.2 f0 f1).mono ?_; rintro e w7 ⟨rfl, h7⟩
    go_wp2_with fail
    refine (Do_ok hS _ _ _ _ _ (by decide) (by decide) HO.out.1 HO.out.2 (by decide) (by decide) f0 f1).mono ?_; rintro e w8 ⟨rfl, h8⟩
    go_wp2_with fail
    refine (Do_ok hS _ _ _ _ _ (by decide) (by decide) x0 x1 y0 y1 f0 f1).mono ?_; rintro e w9 ⟨rfl, h9⟩
    go_wp2_with fail
    refine (Flags_ok hS _ _ _ HX.out.1 HX.out.2 HB.out.1 HB.out.2).mono ?_; rintro e w10 ⟨rfl, h10⟩
    go_wp2
    go_ret
    exact ⟨rfl, Grown.trans (Grown.trans (Grown.trans (Grown.trans (Grown.trans (Grown.trans (Grown.trans (Grown.trans (Grown.trans h1 h2) h3) h4) h5) h6) h7) h8) h9) h10⟩
end Go.Proofs.Ytllegaigfpfdkab
