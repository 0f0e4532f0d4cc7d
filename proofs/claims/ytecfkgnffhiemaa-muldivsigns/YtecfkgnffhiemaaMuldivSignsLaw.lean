/- The walk of the statement MuldivSigns: for every input within its kinds it returns true, and the world has at most new blocks. -/
import Derived.Test.YtecfkgnffhiemaaMulAwake
import Derived.Test.YtecfkgnffhiemaaMulSgn
namespace Go.Proofs.Ytecfkgnffhiemaa
open Go.ChangeShapes Go.WideShapes Go.ChangeAt Go.RowKit
set_option linter.unusedVariables false

theorem pos_u32 (a : Int) : 0 ≤ a % 4294967296 ∧ a % 4294967296 < 4294967296 := by omega

theorem smul_bd {a b : Int} (h0 : -2147483648 ≤ a) (h1 : a < 2147483648) (k0 : -2147483648 ≤ b) (k1 : b < 2147483648) : -4611686018427387904 ≤ a * b ∧ a * b ≤ 4611686018427387904 := by
  have h := mul_bd (H := 2147483648) (a := a) (b := b) (by omega) (by omega) (by omega) (by omega)
  have e : (2147483648 : Int) * 2147483648 = 4611686018427387904 := by decide
  omega

theorem signs_div_some {a b : Int} (h0 : -2147483648 ≤ a) (h1 : a < 2147483648) (k0 : -2147483648 ≤ b) (k1 : b < 2147483648) (hb : b ≠ 0) (h : ¬ (b = -1 ∧ a = -2147483648)) (w : World) :
    Calls Try.prog 12 #[.bool true, .int .i64 4, .int .u32 (a % 4294967296), .int .u32 (IntKind.u64.wrap a / 4294967296 % 4294967296), .int .u32 (b % 4294967296)] w fun e w' => e = .returned (.tuple #[.int .u32 (a.tdiv b % 4294967296), .int .u32 (a.tmod b % 4294967296), .bool true, .int .i64 0]) ∧ Grown w w' := by
  have k := mdDiv_ok sw4 true (a % 4294967296) (a % 18446744073709551616 / 4294967296 % 4294967296) (b % 4294967296) w (by omega) (by omega) (by omega) (by omega) (by omega) (by omega)
  have e := signs_some h0 h1 k0 k1 hb h
  rw [e.1, e.2.1, e.2.2] at k
  exact k

theorem signs_div_none {a b : Int} (h0 : -2147483648 ≤ a) (h1 : a < 2147483648) (k0 : -2147483648 ≤ b) (k1 : b < 2147483648) (h : b = 0 ∨ (b = -1 ∧ a = -2147483648)) (w : World) :
    Calls Try.prog 12 #[.bool true, .int .i64 4, .int .u32 (a % 4294967296), .int .u32 (IntKind.u64.wrap a / 4294967296 % 4294967296), .int .u32 (b % 4294967296)] w fun e w' => e = .returned (.tuple #[.int .u32 0, .int .u32 0, .bool false, .int .i64 0]) ∧ Grown w w' := by
  have k := mdDiv_ok sw4 true (a % 4294967296) (a % 18446744073709551616 / 4294967296 % 4294967296) (b % 4294967296) w (by omega) (by omega) (by omega) (by omega) (by omega) (by omega)
  have e := signs_none h0 h1 k0 k1 h
  unfold ansQ ansR at k
  rw [e] at k
  exact k

/-- the two halves of a signed product, put together -/
theorem join_mul {a b : Int} (h0 : -2147483648 ≤ a) (h1 : a ≤ 2147483648) (e : mulP true 4294967296 2147483648 (a % 4294967296) (b % 4294967296) = a * b) :
    IntKind.u64.wrap (mulU true 4294967296 2147483648 (a % 4294967296) (b % 4294967296) * 4294967296) = mulU true 4294967296 2147483648 (a % 4294967296) (b % 4294967296) * 4294967296 ∧
    IntKind.u64.wrap (mulU true 4294967296 2147483648 (a % 4294967296) (b % 4294967296) * 4294967296 + mulL true 4294967296 2147483648 (a % 4294967296) (b % 4294967296)) = a * b % 18446744073709551616 ∧
    IntKind.u64.wrap (mulU true 4294967296 2147483648 (a % 4294967296) (b % 4294967296)) = mulU true 4294967296 2147483648 (a % 4294967296) (b % 4294967296) ∧
    IntKind.u64.wrap (mulL true 4294967296 2147483648 (a % 4294967296) (b % 4294967296)) = mulL true 4294967296 2147483648 (a % 4294967296) (b % 4294967296) := by
  have l := mulL_bd sw4 true (a % 4294967296) (b % 4294967296)
  have u := mulU_bd sw4 true (a % 4294967296) (b % 4294967296)
  have j := join_s (a * b)
  have eL : mulL true 4294967296 2147483648 (a % 4294967296) (b % 4294967296) = a * b % 4294967296 := by unfold mulL; rw [e]
  have eU : mulU true 4294967296 2147483648 (a % 4294967296) (b % 4294967296) = a * b / 4294967296 % 4294967296 := by unfold mulU; rw [e]
  refine ⟨by rw [wrap_u64']; omega, ?_, by rw [wrap_u64']; omega, by rw [wrap_u64']; omega⟩
  rw [wrap_u64', eL, eU, j]; omega

set_option maxRecDepth 20000 in
set_option maxHeartbeats 2000000 in
theorem signs_ES1 (a0 a1 : Int) (w : World) (l0 : -2147483648 ≤ a0) (u0 : a0 < 2147483648) (l1 : -2147483648 ≤ a1) (u1 : a1 < 2147483648) (c2 : IntKind.i32.wrap (-a0) = a0) (hb : a1 ≠ 0) (hb1 : a1 ≠ -1) :
    Calls Try.prog 8 #[.int .i32 a0, .int .i32 a1] w fun e w' => e = .returned (.bool true) ∧ Grown w w' := by
  have c0 : IntKind.u32.wrap a0 = a0 % 4294967296 := rfl
  have c1 : IntKind.u32.wrap a1 = a1 % 4294967296 := rfl
  have HP0 : Hid _ := pos_u32 a0
  have HP1 : Hid _ := pos_u32 a1
  have hsm := smul_bd l0 u0 l1 u1
  have j1 := join_mul (a := a0) (b := a1) l0 (by omega) (mulP_back l0 u0 l1 u1)
  obtain ⟨j11, j12, j13, j14⟩ := j1
  have y1 : wrap64 (a0 * a1 % 18446744073709551616) = a0 * a1 := by unfold wrap64; omega
  have y2 : wrap64 (a0 * a1) = a0 * a1 := by unfold wrap64; omega
  have y3 : wrap64 (-(a0 * a1)) = -(a0 * a1) := by unfold wrap64; omega
  have td := tdiv_small l0 u0 hb
  have tm := tmod_small l0 u0 hb
  have tq : a0.tdiv a1 ≠ 2147483648 := fun e => by have := td.2.2.1 e; omega
  have z1 : IntKind.i32.wrap (a0.tdiv a1 % 4294967296) = a0.tdiv a1 := by rw [wrap_i32']; omega
  have z2 : IntKind.i32.wrap (a0.tmod a1 % 4294967296) = a0.tmod a1 := by rw [wrap_i32']; omega
  have z3 : IntKind.i32.wrap (a0.tdiv a1) = a0.tdiv a1 := by rw [wrap_i32']; omega
  have z4 : wrap32 (a0.tdiv a1 % 4294967296) = a0.tdiv a1 := by unfold wrap32; omega
  have z5 : wrap32 (a0.tmod a1 % 4294967296) = a0.tmod a1 := by unfold wrap32; omega
  have z6 : wrap32 (a0.tdiv a1) = a0.tdiv a1 := by unfold wrap32; omega
  have z7 : wrap32 (a0.tmod a1) = a0.tmod a1 := by unfold wrap32; omega
  have g0 : (a1 != 0) = true := by simp; omega
  have g1 : (a1 != -1) = true := by simp; omega
  have HD : Hid (∀ w : World, Calls Try.prog 12 #[.bool true, .int .i64 4, .int .u32 (a0 % 4294967296), .int .u32 (IntKind.u64.wrap a0 / 4294967296 % 4294967296), .int .u32 (a1 % 4294967296)] w fun e w' => e = .returned (.tuple #[.int .u32 (a0.tdiv a1 % 4294967296), .int .u32 (a0.tmod a1 % 4294967296), .bool true, .int .i64 0]) ∧ Grown w w') := fun w => signs_div_some l0 u0 l1 u1 hb (fun h => hb1 h.1) w
  clear hsm td tm tq hb1
  go_enter Try.func8, Try.ntmps8
  go_wp2_with fail
  refine (awake_any _).mono ?_; rintro e w1 ⟨rfl, h1⟩
  go_wp2_with fail
  refine (mdMul_ok sw4 true _ _ 0 _ HP0.out.1 HP0.out.2 HP1.out.1 HP1.out.2 (by decide) (by decide)).mono ?_; rintro e w2 ⟨rfl, h2⟩
  go_wp2_with fail
  refine (mdMul_ok sw4 true _ _ 0 _ HP0.out.1 HP0.out.2 HP1.out.1 HP1.out.2 (by decide) (by decide)).mono ?_; rintro e w3 ⟨rfl, h3⟩
  go_wp2_with fail
  refine (HD.out _).mono ?_; rintro e w4 ⟨rfl, h4⟩
  go_wp2
  go_ret
  exact ⟨rfl, Grown.trans (Grown.trans (Grown.trans h1 h2) h3) h4⟩

set_option maxRecDepth 20000 in
set_option maxHeartbeats 2000000 in
theorem signs_ES2 (a0 a1 : Int) (w : World) (l0 : -2147483648 ≤ a0) (u0 : a0 < 2147483648) (l1 : -2147483648 ≤ a1) (u1 : a1 < 2147483648) (c2 : IntKind.i32.wrap (-a0) = a0) (hb : a1 ≠ 0) (hb1 : a1 = -1) (ha : a0 ≠ -2147483648) :
    Calls Try.prog 8 #[.int .i32 a0, .int .i32 a1] w fun e w' => e = .returned (.bool true) ∧ Grown w w' := by
  have c0 : IntKind.u32.wrap a0 = a0 % 4294967296 := rfl
  have c1 : IntKind.u32.wrap a1 = a1 % 4294967296 := rfl
  have HP0 : Hid _ := pos_u32 a0
  have HP1 : Hid _ := pos_u32 a1
  have hsm := smul_bd l0 u0 l1 u1
  have j1 := join_mul (a := a0) (b := a1) l0 (by omega) (mulP_back l0 u0 l1 u1)
  obtain ⟨j11, j12, j13, j14⟩ := j1
  have y1 : wrap64 (a0 * a1 % 18446744073709551616) = a0 * a1 := by unfold wrap64; omega
  have y2 : wrap64 (a0 * a1) = a0 * a1 := by unfold wrap64; omega
  have y3 : wrap64 (-(a0 * a1)) = -(a0 * a1) := by unfold wrap64; omega
  have td := tdiv_small l0 u0 hb
  have tm := tmod_small l0 u0 hb
  have tq : a0.tdiv a1 ≠ 2147483648 := fun e => by have := td.2.2.1 e; omega
  have z1 : IntKind.i32.wrap (a0.tdiv a1 % 4294967296) = a0.tdiv a1 := by rw [wrap_i32']; omega
  have z2 : IntKind.i32.wrap (a0.tmod a1 % 4294967296) = a0.tmod a1 := by rw [wrap_i32']; omega
  have z3 : IntKind.i32.wrap (a0.tdiv a1) = a0.tdiv a1 := by rw [wrap_i32']; omega
  have z4 : wrap32 (a0.tdiv a1 % 4294967296) = a0.tdiv a1 := by unfold wrap32; omega
  have z5 : wrap32 (a0.tmod a1 % 4294967296) = a0.tmod a1 := by unfold wrap32; omega
  have z6 : wrap32 (a0.tdiv a1) = a0.tdiv a1 := by unfold wrap32; omega
  have z7 : wrap32 (a0.tmod a1) = a0.tmod a1 := by unfold wrap32; omega
  have g0 : (a1 != 0) = true := by simp; omega
  have g1 : (a1 != -1) = false := by simp; omega
  have g2 : (a0 != -2147483648) = true := by simp; omega
  have HD : Hid (∀ w : World, Calls Try.prog 12 #[.bool true, .int .i64 4, .int .u32 (a0 % 4294967296), .int .u32 (IntKind.u64.wrap a0 / 4294967296 % 4294967296), .int .u32 (a1 % 4294967296)] w fun e w' => e = .returned (.tuple #[.int .u32 (a0.tdiv a1 % 4294967296), .int .u32 (a0.tmod a1 % 4294967296), .bool true, .int .i64 0]) ∧ Grown w w') := fun w => signs_div_some l0 u0 l1 u1 hb (fun h => ha h.2) w
  clear hsm td tm tq hb1 ha
  go_enter Try.func8, Try.ntmps8
  go_wp2_with fail
  refine (awake_any _).mono ?_; rintro e w1 ⟨rfl, h1⟩
  go_wp2_with fail
  refine (mdMul_ok sw4 true _ _ 0 _ HP0.out.1 HP0.out.2 HP1.out.1 HP1.out.2 (by decide) (by decide)).mono ?_; rintro e w2 ⟨rfl, h2⟩
  go_wp2_with fail
  refine (mdMul_ok sw4 true _ _ 0 _ HP0.out.1 HP0.out.2 HP1.out.1 HP1.out.2 (by decide) (by decide)).mono ?_; rintro e w3 ⟨rfl, h3⟩
  go_wp2_with fail
  refine (HD.out _).mono ?_; rintro e w4 ⟨rfl, h4⟩
  go_wp2
  go_ret
  exact ⟨rfl, Grown.trans (Grown.trans (Grown.trans h1 h2) h3) h4⟩

set_option maxRecDepth 20000 in
set_option maxHeartbeats 2000000 in
theorem signs_EN1 (a0 a1 : Int) (w : World) (l0 : -2147483648 ≤ a0) (u0 : a0 < 2147483648) (l1 : -2147483648 ≤ a1) (u1 : a1 < 2147483648) (c2 : IntKind.i32.wrap (-a0) = a0) (hb : a1 = 0) :
    Calls Try.prog 8 #[.int .i32 a0, .int .i32 a1] w fun e w' => e = .returned (.bool true) ∧ Grown w w' := by
  have c0 : IntKind.u32.wrap a0 = a0 % 4294967296 := rfl
  have c1 : IntKind.u32.wrap a1 = a1 % 4294967296 := rfl
  have HP0 : Hid _ := pos_u32 a0
  have HP1 : Hid _ := pos_u32 a1
  have hsm := smul_bd l0 u0 l1 u1
  have j1 := join_mul (a := a0) (b := a1) l0 (by omega) (mulP_back l0 u0 l1 u1)
  obtain ⟨j11, j12, j13, j14⟩ := j1
  have y1 : wrap64 (a0 * a1 % 18446744073709551616) = a0 * a1 := by unfold wrap64; omega
  have y2 : wrap64 (a0 * a1) = a0 * a1 := by unfold wrap64; omega
  have y3 : wrap64 (-(a0 * a1)) = -(a0 * a1) := by unfold wrap64; omega
  have g0 : (a1 != 0) = false := by simp; omega
  have HD : Hid (∀ w : World, Calls Try.prog 12 #[.bool true, .int .i64 4, .int .u32 (a0 % 4294967296), .int .u32 (IntKind.u64.wrap a0 / 4294967296 % 4294967296), .int .u32 (a1 % 4294967296)] w fun e w' => e = .returned (.tuple #[.int .u32 0, .int .u32 0, .bool false, .int .i64 0]) ∧ Grown w w') := fun w => signs_div_none l0 u0 l1 u1 (Or.inl hb) w
  clear hsm hb
  go_enter Try.func8, Try.ntmps8
  go_wp2_with fail
  refine (awake_any _).mono ?_; rintro e w1 ⟨rfl, h1⟩
  go_wp2_with fail
  refine (mdMul_ok sw4 true _ _ 0 _ HP0.out.1 HP0.out.2 HP1.out.1 HP1.out.2 (by decide) (by decide)).mono ?_; rintro e w2 ⟨rfl, h2⟩
  go_wp2_with fail
  refine (mdMul_ok sw4 true _ _ 0 _ HP0.out.1 HP0.out.2 HP1.out.1 HP1.out.2 (by decide) (by decide)).mono ?_; rintro e w3 ⟨rfl, h3⟩
  go_wp2_with fail
  refine (HD.out _).mono ?_; rintro e w4 ⟨rfl, h4⟩
  go_wp2
  go_ret
  exact ⟨rfl, Grown.trans (Grown.trans (Grown.trans h1 h2) h3) h4⟩

set_option maxRecDepth 20000 in
set_option maxHeartbeats 2000000 in
theorem signs_EN2 (a0 a1 : Int) (w : World) (l0 : -2147483648 ≤ a0) (u0 : a0 < 2147483648) (l1 : -2147483648 ≤ a1) (u1 : a1 < 2147483648) (c2 : IntKind.i32.wrap (-a0) = a0) (hb1 : a1 = -1) (ha : a0 = -2147483648) :
    Calls Try.prog 8 #[.int .i32 a0, .int .i32 a1] w fun e w' => e = .returned (.bool true) ∧ Grown w w' := by
  have c0 : IntKind.u32.wrap a0 = a0 % 4294967296 := rfl
  have c1 : IntKind.u32.wrap a1 = a1 % 4294967296 := rfl
  have HP0 : Hid _ := pos_u32 a0
  have HP1 : Hid _ := pos_u32 a1
  have hsm := smul_bd l0 u0 l1 u1
  have j1 := join_mul (a := a0) (b := a1) l0 (by omega) (mulP_back l0 u0 l1 u1)
  obtain ⟨j11, j12, j13, j14⟩ := j1
  have y1 : wrap64 (a0 * a1 % 18446744073709551616) = a0 * a1 := by unfold wrap64; omega
  have y2 : wrap64 (a0 * a1) = a0 * a1 := by unfold wrap64; omega
  have y3 : wrap64 (-(a0 * a1)) = -(a0 * a1) := by unfold wrap64; omega
  have g0 : (a1 != 0) = true := by simp; omega
  have g1 : (a1 != -1) = false := by simp; omega
  have g2 : (a0 != -2147483648) = false := by simp; omega
  have HD : Hid (∀ w : World, Calls Try.prog 12 #[.bool true, .int .i64 4, .int .u32 (a0 % 4294967296), .int .u32 (IntKind.u64.wrap a0 / 4294967296 % 4294967296), .int .u32 (a1 % 4294967296)] w fun e w' => e = .returned (.tuple #[.int .u32 0, .int .u32 0, .bool false, .int .i64 0]) ∧ Grown w w') := fun w => signs_div_none l0 u0 l1 u1 (Or.inr ⟨hb1, ha⟩) w
  clear hsm hb1 ha
  go_enter Try.func8, Try.ntmps8
  go_wp2_with fail
  refine (awake_any _).mono ?_; rintro e w1 ⟨rfl, h1⟩
  go_wp2_with fail
  refine (mdMul_ok sw4 true _ _ 0 _ HP0.out.1 HP0.out.2 HP1.out.1 HP1.out.2 (by decide) (by decide)).mono ?_; rintro e w2 ⟨rfl, h2⟩
  go_wp2_with fail
  refine (mdMul_ok sw4 true _ _ 0 _ HP0.out.1 HP0.out.2 HP1.out.1 HP1.out.2 (by decide) (by decide)).mono ?_; rintro e w3 ⟨rfl, h3⟩
  go_wp2_with fail
  refine (HD.out _).mono ?_; rintro e w4 ⟨rfl, h4⟩
  go_wp2
  go_ret
  exact ⟨rfl, Grown.trans (Grown.trans (Grown.trans h1 h2) h3) h4⟩

set_option maxRecDepth 20000 in
set_option maxHeartbeats 2000000 in
theorem signs_CS1 (a0 a1 : Int) (w : World) (l0 : -2147483648 ≤ a0) (u0 : a0 < 2147483648) (l1 : -2147483648 ≤ a1) (u1 : a1 < 2147483648) (c2 : IntKind.i32.wrap (-a0) = -a0) (hn : a0 ≠ -a0) (hm : a0 ≠ -2147483648) (hb : a1 ≠ 0) (hb1 : a1 ≠ -1) :
    Calls Try.prog 8 #[.int .i32 a0, .int .i32 a1] w fun e w' => e = .returned (.bool true) ∧ Grown w w' := by
  have c0 : IntKind.u32.wrap a0 = a0 % 4294967296 := rfl
  have c1 : IntKind.u32.wrap a1 = a1 % 4294967296 := rfl
  have HP0 : Hid _ := pos_u32 a0
  have HP1 : Hid _ := pos_u32 a1
  have hsm := smul_bd l0 u0 l1 u1
  have j1 := join_mul (a := a0) (b := a1) l0 (by omega) (mulP_back l0 u0 l1 u1)
  obtain ⟨j11, j12, j13, j14⟩ := j1
  have y1 : wrap64 (a0 * a1 % 18446744073709551616) = a0 * a1 := by unfold wrap64; omega
  have y2 : wrap64 (a0 * a1) = a0 * a1 := by unfold wrap64; omega
  have y3 : wrap64 (-(a0 * a1)) = -(a0 * a1) := by unfold wrap64; omega
  have c3 : IntKind.u32.wrap (-a0) = -a0 % 4294967296 := rfl
  have HP2 : Hid _ := pos_u32 (-a0)
  have j2 := join_mul (a := -a0) (b := a1) (by omega) (by omega) (mulP_back (by omega) (by omega) l1 u1)
  rw [Int.neg_mul] at j2
  obtain ⟨j21, j22, j23, j24⟩ := j2
  have y4 : wrap64 (-(a0 * a1) % 18446744073709551616) = -(a0 * a1) := by unfold wrap64; omega
  have hn' : (a0 != -a0) = true := by simp; omega
  have td := tdiv_small l0 u0 hb
  have tm := tmod_small l0 u0 hb
  have tq : a0.tdiv a1 ≠ 2147483648 := fun e => by have := td.2.2.1 e; omega
  have z1 : IntKind.i32.wrap (a0.tdiv a1 % 4294967296) = a0.tdiv a1 := by rw [wrap_i32']; omega
  have z2 : IntKind.i32.wrap (a0.tmod a1 % 4294967296) = a0.tmod a1 := by rw [wrap_i32']; omega
  have z3 : IntKind.i32.wrap (a0.tdiv a1) = a0.tdiv a1 := by rw [wrap_i32']; omega
  have z4 : wrap32 (a0.tdiv a1 % 4294967296) = a0.tdiv a1 := by unfold wrap32; omega
  have z5 : wrap32 (a0.tmod a1 % 4294967296) = a0.tmod a1 := by unfold wrap32; omega
  have z6 : wrap32 (a0.tdiv a1) = a0.tdiv a1 := by unfold wrap32; omega
  have z7 : wrap32 (a0.tmod a1) = a0.tmod a1 := by unfold wrap32; omega
  have g0 : (a1 != 0) = true := by simp; omega
  have g1 : (a1 != -1) = true := by simp; omega
  have HD : Hid (∀ w : World, Calls Try.prog 12 #[.bool true, .int .i64 4, .int .u32 (a0 % 4294967296), .int .u32 (IntKind.u64.wrap a0 / 4294967296 % 4294967296), .int .u32 (a1 % 4294967296)] w fun e w' => e = .returned (.tuple #[.int .u32 (a0.tdiv a1 % 4294967296), .int .u32 (a0.tmod a1 % 4294967296), .bool true, .int .i64 0]) ∧ Grown w w') := fun w => signs_div_some l0 u0 l1 u1 hb (fun h => hb1 h.1) w
  clear hsm td tm tq hb1 hn hm
  go_enter Try.func8, Try.ntmps8
  go_wp2_with fail
  refine (awake_any _).mono ?_; rintro e w1 ⟨rfl, h1⟩
  go_wp2_with fail
  refine (mdMul_ok sw4 true _ _ 0 _ HP0.out.1 HP0.out.2 HP1.out.1 HP1.out.2 (by decide) (by decide)).mono ?_; rintro e w2 ⟨rfl, h2⟩
  go_wp2_with fail
  refine (mdMul_ok sw4 true _ _ 0 _ HP2.out.1 HP2.out.2 HP1.out.1 HP1.out.2 (by decide) (by decide)).mono ?_; rintro e w3 ⟨rfl, h3⟩
  go_wp2_with fail
  refine (HD.out _).mono ?_; rintro e w4 ⟨rfl, h4⟩
  go_wp2
  go_ret
  exact ⟨rfl, Grown.trans (Grown.trans (Grown.trans h1 h2) h3) h4⟩

set_option maxRecDepth 20000 in
set_option maxHeartbeats 2000000 in
theorem signs_CS2 (a0 a1 : Int) (w : World) (l0 : -2147483648 ≤ a0) (u0 : a0 < 2147483648) (l1 : -2147483648 ≤ a1) (u1 : a1 < 2147483648) (c2 : IntKind.i32.wrap (-a0) = -a0) (hn : a0 ≠ -a0) (hm : a0 ≠ -2147483648) (hb : a1 ≠ 0) (hb1 : a1 = -1) (ha : a0 ≠ -2147483648) :
    Calls Try.prog 8 #[.int .i32 a0, .int .i32 a1] w fun e w' => e = .returned (.bool true) ∧ Grown w w' := by
  have c0 : IntKind.u32.wrap a0 = a0 % 4294967296 := rfl
  have c1 : IntKind.u32.wrap a1 = a1 % 4294967296 := rfl
  have HP0 : Hid _ := pos_u32 a0
  have HP1 : Hid _ := pos_u32 a1
  have hsm := smul_bd l0 u0 l1 u1
  have j1 := join_mul (a := a0) (b := a1) l0 (by omega) (mulP_back l0 u0 l1 u1)
  obtain ⟨j11, j12, j13, j14⟩ := j1
  have y1 : wrap64 (a0 * a1 % 18446744073709551616) = a0 * a1 := by unfold wrap64; omega
  have y2 : wrap64 (a0 * a1) = a0 * a1 := by unfold wrap64; omega
  have y3 : wrap64 (-(a0 * a1)) = -(a0 * a1) := by unfold wrap64; omega
  have c3 : IntKind.u32.wrap (-a0) = -a0 % 4294967296 := rfl
  have HP2 : Hid _ := pos_u32 (-a0)
  have j2 := join_mul (a := -a0) (b := a1) (by omega) (by omega) (mulP_back (by omega) (by omega) l1 u1)
  rw [Int.neg_mul] at j2
  obtain ⟨j21, j22, j23, j24⟩ := j2
  have y4 : wrap64 (-(a0 * a1) % 18446744073709551616) = -(a0 * a1) := by unfold wrap64; omega
  have hn' : (a0 != -a0) = true := by simp; omega
  have td := tdiv_small l0 u0 hb
  have tm := tmod_small l0 u0 hb
  have tq : a0.tdiv a1 ≠ 2147483648 := fun e => by have := td.2.2.1 e; omega
  have z1 : IntKind.i32.wrap (a0.tdiv a1 % 4294967296) = a0.tdiv a1 := by rw [wrap_i32']; omega
  have z2 : IntKind.i32.wrap (a0.tmod a1 % 4294967296) = a0.tmod a1 := by rw [wrap_i32']; omega
  have z3 : IntKind.i32.wrap (a0.tdiv a1) = a0.tdiv a1 := by rw [wrap_i32']; omega
  have z4 : wrap32 (a0.tdiv a1 % 4294967296) = a0.tdiv a1 := by unfold wrap32; omega
  have z5 : wrap32 (a0.tmod a1 % 4294967296) = a0.tmod a1 := by unfold wrap32; omega
  have z6 : wrap32 (a0.tdiv a1) = a0.tdiv a1 := by unfold wrap32; omega
  have z7 : wrap32 (a0.tmod a1) = a0.tmod a1 := by unfold wrap32; omega
  have g0 : (a1 != 0) = true := by simp; omega
  have g1 : (a1 != -1) = false := by simp; omega
  have g2 : (a0 != -2147483648) = true := by simp; omega
  have HD : Hid (∀ w : World, Calls Try.prog 12 #[.bool true, .int .i64 4, .int .u32 (a0 % 4294967296), .int .u32 (IntKind.u64.wrap a0 / 4294967296 % 4294967296), .int .u32 (a1 % 4294967296)] w fun e w' => e = .returned (.tuple #[.int .u32 (a0.tdiv a1 % 4294967296), .int .u32 (a0.tmod a1 % 4294967296), .bool true, .int .i64 0]) ∧ Grown w w') := fun w => signs_div_some l0 u0 l1 u1 hb (fun h => ha h.2) w
  clear hsm td tm tq hb1 ha hn hm
  go_enter Try.func8, Try.ntmps8
  go_wp2_with fail
  refine (awake_any _).mono ?_; rintro e w1 ⟨rfl, h1⟩
  go_wp2_with fail
  refine (mdMul_ok sw4 true _ _ 0 _ HP0.out.1 HP0.out.2 HP1.out.1 HP1.out.2 (by decide) (by decide)).mono ?_; rintro e w2 ⟨rfl, h2⟩
  go_wp2_with fail
  refine (mdMul_ok sw4 true _ _ 0 _ HP2.out.1 HP2.out.2 HP1.out.1 HP1.out.2 (by decide) (by decide)).mono ?_; rintro e w3 ⟨rfl, h3⟩
  go_wp2_with fail
  refine (HD.out _).mono ?_; rintro e w4 ⟨rfl, h4⟩
  go_wp2
  go_ret
  exact ⟨rfl, Grown.trans (Grown.trans (Grown.trans h1 h2) h3) h4⟩

set_option maxRecDepth 20000 in
set_option maxHeartbeats 2000000 in
theorem signs_CN1 (a0 a1 : Int) (w : World) (l0 : -2147483648 ≤ a0) (u0 : a0 < 2147483648) (l1 : -2147483648 ≤ a1) (u1 : a1 < 2147483648) (c2 : IntKind.i32.wrap (-a0) = -a0) (hn : a0 ≠ -a0) (hm : a0 ≠ -2147483648) (hb : a1 = 0) :
    Calls Try.prog 8 #[.int .i32 a0, .int .i32 a1] w fun e w' => e = .returned (.bool true) ∧ Grown w w' := by
  have c0 : IntKind.u32.wrap a0 = a0 % 4294967296 := rfl
  have c1 : IntKind.u32.wrap a1 = a1 % 4294967296 := rfl
  have HP0 : Hid _ := pos_u32 a0
  have HP1 : Hid _ := pos_u32 a1
  have hsm := smul_bd l0 u0 l1 u1
  have j1 := join_mul (a := a0) (b := a1) l0 (by omega) (mulP_back l0 u0 l1 u1)
  obtain ⟨j11, j12, j13, j14⟩ := j1
  have y1 : wrap64 (a0 * a1 % 18446744073709551616) = a0 * a1 := by unfold wrap64; omega
  have y2 : wrap64 (a0 * a1) = a0 * a1 := by unfold wrap64; omega
  have y3 : wrap64 (-(a0 * a1)) = -(a0 * a1) := by unfold wrap64; omega
  have c3 : IntKind.u32.wrap (-a0) = -a0 % 4294967296 := rfl
  have HP2 : Hid _ := pos_u32 (-a0)
  have j2 := join_mul (a := -a0) (b := a1) (by omega) (by omega) (mulP_back (by omega) (by omega) l1 u1)
  rw [Int.neg_mul] at j2
  obtain ⟨j21, j22, j23, j24⟩ := j2
  have y4 : wrap64 (-(a0 * a1) % 18446744073709551616) = -(a0 * a1) := by unfold wrap64; omega
  have hn' : (a0 != -a0) = true := by simp; omega
  have g0 : (a1 != 0) = false := by simp; omega
  have HD : Hid (∀ w : World, Calls Try.prog 12 #[.bool true, .int .i64 4, .int .u32 (a0 % 4294967296), .int .u32 (IntKind.u64.wrap a0 / 4294967296 % 4294967296), .int .u32 (a1 % 4294967296)] w fun e w' => e = .returned (.tuple #[.int .u32 0, .int .u32 0, .bool false, .int .i64 0]) ∧ Grown w w') := fun w => signs_div_none l0 u0 l1 u1 (Or.inl hb) w
  clear hsm hb hn hm
  go_enter Try.func8, Try.ntmps8
  go_wp2_with fail
  refine (awake_any _).mono ?_; rintro e w1 ⟨rfl, h1⟩
  go_wp2_with fail
  refine (mdMul_ok sw4 true _ _ 0 _ HP0.out.1 HP0.out.2 HP1.out.1 HP1.out.2 (by decide) (by decide)).mono ?_; rintro e w2 ⟨rfl, h2⟩
  go_wp2_with fail
  refine (mdMul_ok sw4 true _ _ 0 _ HP2.out.1 HP2.out.2 HP1.out.1 HP1.out.2 (by decide) (by decide)).mono ?_; rintro e w3 ⟨rfl, h3⟩
  go_wp2_with fail
  refine (HD.out _).mono ?_; rintro e w4 ⟨rfl, h4⟩
  go_wp2
  go_ret
  exact ⟨rfl, Grown.trans (Grown.trans (Grown.trans h1 h2) h3) h4⟩

theorem MuldivSigns_walk (a0 a1 : Int) (w0 : (Lit.int .i32 a0).wf = true) (w1 : (Lit.int .i32 a1).wf = true) (w : World) :
    Calls Try.prog 8 #[.int .i32 a0, .int .i32 a1] w fun e w' => e = .returned (.bool true) ∧ Grown w w' := by
  have b0 := bounds_i32 w0
  have b1 := bounds_i32 w1
  have l0 : -2147483648 ≤ a0 := b0.1
  have u0 : a0 < 2147483648 := by omega
  have l1 : -2147483648 ≤ a1 := b1.1
  have u1 : a1 < 2147483648 := by omega
  by_cases he : a0 = -2147483648 ∨ a0 = 0
  · have c2 : IntKind.i32.wrap (-a0) = a0 := by rw [wrap_i32']; omega
    by_cases hb : a1 = 0
    · exact signs_EN1 a0 a1 w l0 u0 l1 u1 c2 hb
    · by_cases hb1 : a1 = -1
      · by_cases ha : a0 = -2147483648
        · exact signs_EN2 a0 a1 w l0 u0 l1 u1 c2 hb1 ha
        · exact signs_ES2 a0 a1 w l0 u0 l1 u1 c2 hb hb1 ha
      · exact signs_ES1 a0 a1 w l0 u0 l1 u1 c2 hb hb1
  · have c2 : IntKind.i32.wrap (-a0) = -a0 := by rw [wrap_i32']; omega
    have hn : a0 ≠ -a0 := by omega
    have hm : a0 ≠ -2147483648 := by omega
    by_cases hb : a1 = 0
    · exact signs_CN1 a0 a1 w l0 u0 l1 u1 c2 hn hm hb
    · by_cases hb1 : a1 = -1
      · exact signs_CS2 a0 a1 w l0 u0 l1 u1 c2 hn hm hb hb1 hm
      · exact signs_CS1 a0 a1 w l0 u0 l1 u1 c2 hn hm hb hb1
end Go.Proofs.Ytecfkgnffhiemaa
