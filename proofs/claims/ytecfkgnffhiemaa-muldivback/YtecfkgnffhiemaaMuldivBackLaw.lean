/- The walk of the statement MuldivBack: for every input within its kinds it returns true, and the world has at most new blocks. -/
import Derived.Test.YtecfkgnffhiemaaMulAwake
import Derived.Test.YtecfkgnffhiemaaMulFacts
namespace Go.Proofs.Ytecfkgnffhiemaa
open Go.ChangeShapes Go.WideShapes Go.ChangeAt Go.RowKit
set_option linter.unusedVariables false

theorem sw2 : Sw 2 32768 65536 16 := Or.inr (Or.inl ⟨rfl, rfl, rfl, rfl⟩)

theorem back_div {s H M : Int} {W : Nat} (hS : Sw s H M W) (a b : Int) (w : World) (b0 : 0 ≤ b) (b1 : b < 4294967296) (hb : b % M ≠ 0) :
    Calls Try.prog 12 #[.bool false, .int .i64 s, .int .u32 (mulL false M H a b), .int .u32 (mulU false M H a b), .int .u32 b] w fun e w' => e = .returned (.tuple #[.int .u32 (a % M), .int .u32 0, .bool true, .int .i64 0]) ∧ Grown w w' := by
  have mt := hS.pow.2.2.2.2.1
  have l := mulL_bd hS false a b
  have u := mulU_bd hS false a b
  have h := mdDiv_ok hS false (mulL false M H a b) (mulU false M H a b) b w l.1 (by omega) u.1 (by omega) b0 b1
  have e := div_back hS a b hb
  rw [e.1, e.2.1, e.2.2] at h
  exact h

theorem none_div {s H M : Int} {W : Nat} (hS : Sw s H M W) (a b c : Int) (w : World) (a0 : 0 ≤ a) (a1 : a < 4294967296) (b0 : 0 ≤ b) (b1 : b < 4294967296) (c0 : 0 ≤ c) (c1 : c < 4294967296) (h : c % M = 0 ∨ ¬ b % M < c % M) :
    Calls Try.prog 12 #[.bool false, .int .i64 s, .int .u32 a, .int .u32 b, .int .u32 c] w fun e w' => e = .returned (.tuple #[.int .u32 0, .int .u32 0, .bool false, .int .i64 0]) ∧ Grown w w' := by
  have k := mdDiv_ok hS false a b c w a0 a1 b0 b1 c0 c1
  have o : divO false M H a b c = false := by
    by_cases hz : c % M = 0
    · unfold divO; rw [if_pos hz]
    · rw [div_fits hS a b c hz]
      rcases h with h | h
      · exact absurd h hz
      · exact decide_eq_false h
  unfold ansQ ansR at k
  rw [o] at k
  exact k

theorem some_div {s H M : Int} {W : Nat} (hS : Sw s H M W) (a b c : Int) (w : World) (a0 : 0 ≤ a) (a1 : a < 4294967296) (b0 : 0 ≤ b) (b1 : b < 4294967296) (c0 : 0 ≤ c) (c1 : c < 4294967296) (hz : c % M ≠ 0) (h : b % M < c % M) :
    Calls Try.prog 12 #[.bool false, .int .i64 s, .int .u32 a, .int .u32 b, .int .u32 c] w fun e w' => e = .returned (.tuple #[.int .u32 (ansQ false M H a b c), .int .u32 (ansR false M H a b c), .bool true, .int .i64 0]) ∧ Grown w w' := by
  have k := mdDiv_ok hS false a b c w a0 a1 b0 b1 c0 c1
  rw [div_fits hS a b c hz, decide_eq_true h] at k
  exact k

set_option maxRecDepth 20000 in
set_option maxHeartbeats 2000000 in
theorem back1_0zz (a1 a2 a3 : Int) (w : World) (l1 : 0 ≤ a1) (u1 : a1 < 4294967296) (l2 : 0 ≤ a2) (u2 : a2 < 4294967296) (l3 : 0 ≤ a3) (u3 : a3 < 4294967296) (hy : a2 % 256 = 0) (hz : a3 % 256 = 0) :
    Calls Try.prog 7 #[.int .i64 1, .int .u32 a1, .int .u32 a2, .int .u32 a3] w fun e w' => e = .returned (.bool true) ∧ Grown w w' := by
  have wa : IntKind.u64.wrap a1 = a1 := by rw [wrap_u64']; omega
  have wb : IntKind.u64.wrap a2 = a2 := by rw [wrap_u64']; omega
  have wc : IntKind.u64.wrap a3 = a3 := by rw [wrap_u64']; omega
  have bl : 0 ≤ mulL false 256 128 a1 a2 ∧ mulL false 256 128 a1 a2 < 256 := mulL_bd sw1 false a1 a2
  have bu : 0 ≤ mulU false 256 128 a1 a2 ∧ mulU false 256 128 a1 a2 < 256 := mulU_bd sw1 false a1 a2
  have ej := mul_join sw1 a1 a2
  have w1 : IntKind.u64.wrap (mulL false 256 128 a1 a2) = mulL false 256 128 a1 a2 := by rw [wrap_u64']; omega
  have w2 : IntKind.u64.wrap (mulU false 256 128 a1 a2) = mulU false 256 128 a1 a2 := by rw [wrap_u64']; omega
  have w3 : IntKind.u64.wrap (mulU false 256 128 a1 a2 * 256) = mulU false 256 128 a1 a2 * 256 := by rw [wrap_u64']; omega
  have w4 : IntKind.u64.wrap (mulU false 256 128 a1 a2 * 256 + mulL false 256 128 a1 a2) = a1 % 256 * (a2 % 256) := by rw [wrap_u64']; omega
  have w5 : IntKind.u64.wrap (a1 % 256 * (a2 % 256)) = a1 % 256 * (a2 % 256) := by rw [wrap_u64']; omega
  have w6 : IntKind.u64.wrap (a1 % 256) = a1 % 256 := by rw [wrap_u64']; omega
  rw [hy] at w4 w5
  have HBL : Hid (0 ≤ mulL false 256 128 a1 a2 ∧ mulL false 256 128 a1 a2 < 256) := bl
  have HBU : Hid (0 ≤ mulU false 256 128 a1 a2 ∧ mulU false 256 128 a1 a2 < 256) := bu
  have HC : Hid (∀ w : World, Calls Try.prog 12 #[.bool false, .int .i64 1, .int .u32 a1, .int .u32 a2, .int .u32 a3] w fun e w' => e = .returned (.tuple #[.int .u32 0, .int .u32 0, .bool false, .int .i64 0]) ∧ Grown w w') := fun w => none_div sw1 a1 a2 a3 w l1 u1 l2 u2 l3 u3 (Or.inl hz)
  clear ej bl bu
  go_enter Try.func7, Try.ntmps7
  go_wp2_with fail
  refine (awake_any _).mono ?_; rintro e w1 ⟨rfl, h1⟩
  go_wp2_with fail
  refine (mdMul_ok sw1 false a1 a2 0 _ l1 u1 l2 u2 (by decide) (by decide)).mono ?_; rintro e w2 ⟨rfl, h2⟩
  go_wp2_with fail
  refine (HC.out _).mono ?_; rintro e w3 ⟨rfl, h3⟩
  go_wp2
  go_ret
  exact ⟨rfl, (Grown.trans (Grown.trans h1 h2) h3)⟩

set_option maxRecDepth 20000 in
set_option maxHeartbeats 2000000 in
theorem back1_0zy (a1 a2 a3 : Int) (w : World) (l1 : 0 ≤ a1) (u1 : a1 < 4294967296) (l2 : 0 ≤ a2) (u2 : a2 < 4294967296) (l3 : 0 ≤ a3) (u3 : a3 < 4294967296) (hy : a2 % 256 = 0) (hz : a3 % 256 ≠ 0) (hlt : a2 % 256 < a3 % 256) :
    Calls Try.prog 7 #[.int .i64 1, .int .u32 a1, .int .u32 a2, .int .u32 a3] w fun e w' => e = .returned (.bool true) ∧ Grown w w' := by
  have wa : IntKind.u64.wrap a1 = a1 := by rw [wrap_u64']; omega
  have wb : IntKind.u64.wrap a2 = a2 := by rw [wrap_u64']; omega
  have wc : IntKind.u64.wrap a3 = a3 := by rw [wrap_u64']; omega
  have bl : 0 ≤ mulL false 256 128 a1 a2 ∧ mulL false 256 128 a1 a2 < 256 := mulL_bd sw1 false a1 a2
  have bu : 0 ≤ mulU false 256 128 a1 a2 ∧ mulU false 256 128 a1 a2 < 256 := mulU_bd sw1 false a1 a2
  have ej := mul_join sw1 a1 a2
  have w1 : IntKind.u64.wrap (mulL false 256 128 a1 a2) = mulL false 256 128 a1 a2 := by rw [wrap_u64']; omega
  have w2 : IntKind.u64.wrap (mulU false 256 128 a1 a2) = mulU false 256 128 a1 a2 := by rw [wrap_u64']; omega
  have w3 : IntKind.u64.wrap (mulU false 256 128 a1 a2 * 256) = mulU false 256 128 a1 a2 * 256 := by rw [wrap_u64']; omega
  have w4 : IntKind.u64.wrap (mulU false 256 128 a1 a2 * 256 + mulL false 256 128 a1 a2) = a1 % 256 * (a2 % 256) := by rw [wrap_u64']; omega
  have w5 : IntKind.u64.wrap (a1 % 256 * (a2 % 256)) = a1 % 256 * (a2 % 256) := by rw [wrap_u64']; omega
  have w6 : IntKind.u64.wrap (a1 % 256) = a1 % 256 := by rw [wrap_u64']; omega
  rw [hy] at w4 w5
  have hz' : (a3 % 256 == 0) = false := by simp; omega
  have hz2 : (a3 % 256 != 0) = true := by simp; omega
  have dl : decide (a2 % 256 < a3 % 256) = true := decide_eq_true hlt
  have dl0 : decide (0 < a3 % 256) = true := decide_eq_true (by omega)
  have dw := div_whole sw1 a1 a2 a3 hz hlt
  have br : 0 ≤ ansQ false 256 128 a1 a2 a3 ∧ ansQ false 256 128 a1 a2 a3 < 4294967296 ∧ 0 ≤ ansR false 256 128 a1 a2 a3 ∧ ansR false 256 128 a1 a2 a3 < 4294967296 := ans_bd sw1 false a1 a2 a3
  have hr : ansR false 256 128 a1 a2 a3 < a3 % 256 := dw.1
  have v1 : IntKind.u64.wrap (ansQ false 256 128 a1 a2 a3) = ansQ false 256 128 a1 a2 a3 := by rw [wrap_u64']; omega
  have v2 : IntKind.u64.wrap (ansR false 256 128 a1 a2 a3) = ansR false 256 128 a1 a2 a3 := by rw [wrap_u64']; omega
  have v3 : IntKind.u64.wrap (ansQ false 256 128 a1 a2 a3 * (a3 % 256)) = ansQ false 256 128 a1 a2 a3 * (a3 % 256) := by rw [wrap_u64']; omega
  have v4 : IntKind.u64.wrap (ansQ false 256 128 a1 a2 a3 * (a3 % 256) + ansR false 256 128 a1 a2 a3) = a2 % 256 * 256 + a1 % 256 := by rw [wrap_u64']; omega
  have v5 : IntKind.u64.wrap (a2 % 256 * 256) = a2 % 256 * 256 := by rw [wrap_u64']; omega
  have v6 : IntKind.u64.wrap (a2 % 256 * 256 + a1 % 256) = a2 % 256 * 256 + a1 % 256 := by rw [wrap_u64']; omega
  rw [hy] at v4 v5 v6
  have HBL : Hid (0 ≤ mulL false 256 128 a1 a2 ∧ mulL false 256 128 a1 a2 < 256) := bl
  have HBU : Hid (0 ≤ mulU false 256 128 a1 a2 ∧ mulU false 256 128 a1 a2 < 256) := bu
  have HC : Hid (∀ w : World, Calls Try.prog 12 #[.bool false, .int .i64 1, .int .u32 a1, .int .u32 a2, .int .u32 a3] w fun e w' => e = .returned (.tuple #[.int .u32 (ansQ false 256 128 a1 a2 a3), .int .u32 (ansR false 256 128 a1 a2 a3), .bool true, .int .i64 0]) ∧ Grown w w') := fun w => some_div sw1 a1 a2 a3 w l1 u1 l2 u2 l3 u3 hz hlt
  clear ej bl bu dw br
  go_enter Try.func7, Try.ntmps7
  go_wp2_with fail
  refine (awake_any _).mono ?_; rintro e w1 ⟨rfl, h1⟩
  go_wp2_with fail
  refine (mdMul_ok sw1 false a1 a2 0 _ l1 u1 l2 u2 (by decide) (by decide)).mono ?_; rintro e w2 ⟨rfl, h2⟩
  go_wp2_with fail
  refine (HC.out _).mono ?_; rintro e w3 ⟨rfl, h3⟩
  go_wp2
  go_ret
  exact ⟨rfl, (Grown.trans (Grown.trans h1 h2) h3)⟩

set_option maxRecDepth 20000 in
set_option maxHeartbeats 2000000 in
theorem back1_yzz (a1 a2 a3 : Int) (w : World) (l1 : 0 ≤ a1) (u1 : a1 < 4294967296) (l2 : 0 ≤ a2) (u2 : a2 < 4294967296) (l3 : 0 ≤ a3) (u3 : a3 < 4294967296) (hy : a2 % 256 ≠ 0) (hz : a3 % 256 = 0) :
    Calls Try.prog 7 #[.int .i64 1, .int .u32 a1, .int .u32 a2, .int .u32 a3] w fun e w' => e = .returned (.bool true) ∧ Grown w w' := by
  have wa : IntKind.u64.wrap a1 = a1 := by rw [wrap_u64']; omega
  have wb : IntKind.u64.wrap a2 = a2 := by rw [wrap_u64']; omega
  have wc : IntKind.u64.wrap a3 = a3 := by rw [wrap_u64']; omega
  have bl : 0 ≤ mulL false 256 128 a1 a2 ∧ mulL false 256 128 a1 a2 < 256 := mulL_bd sw1 false a1 a2
  have bu : 0 ≤ mulU false 256 128 a1 a2 ∧ mulU false 256 128 a1 a2 < 256 := mulU_bd sw1 false a1 a2
  have ej := mul_join sw1 a1 a2
  have w1 : IntKind.u64.wrap (mulL false 256 128 a1 a2) = mulL false 256 128 a1 a2 := by rw [wrap_u64']; omega
  have w2 : IntKind.u64.wrap (mulU false 256 128 a1 a2) = mulU false 256 128 a1 a2 := by rw [wrap_u64']; omega
  have w3 : IntKind.u64.wrap (mulU false 256 128 a1 a2 * 256) = mulU false 256 128 a1 a2 * 256 := by rw [wrap_u64']; omega
  have w4 : IntKind.u64.wrap (mulU false 256 128 a1 a2 * 256 + mulL false 256 128 a1 a2) = a1 % 256 * (a2 % 256) := by rw [wrap_u64']; omega
  have w5 : IntKind.u64.wrap (a1 % 256 * (a2 % 256)) = a1 % 256 * (a2 % 256) := by rw [wrap_u64']; omega
  have w6 : IntKind.u64.wrap (a1 % 256) = a1 % 256 := by rw [wrap_u64']; omega
  have hy' : (a2 % 256 == 0) = false := by simp; omega
  have hy2 : (a2 % 256 != 0) = true := by simp; omega
  have HBL : Hid (0 ≤ mulL false 256 128 a1 a2 ∧ mulL false 256 128 a1 a2 < 256) := bl
  have HBU : Hid (0 ≤ mulU false 256 128 a1 a2 ∧ mulU false 256 128 a1 a2 < 256) := bu
  have HB : Hid (∀ w : World, Calls Try.prog 12 #[.bool false, .int .i64 1, .int .u32 (mulL false 256 128 a1 a2), .int .u32 (mulU false 256 128 a1 a2), .int .u32 a2] w fun e w' => e = .returned (.tuple #[.int .u32 (a1 % 256), .int .u32 0, .bool true, .int .i64 0]) ∧ Grown w w') := fun w => back_div sw1 a1 a2 w l2 u2 hy
  have HC : Hid (∀ w : World, Calls Try.prog 12 #[.bool false, .int .i64 1, .int .u32 a1, .int .u32 a2, .int .u32 a3] w fun e w' => e = .returned (.tuple #[.int .u32 0, .int .u32 0, .bool false, .int .i64 0]) ∧ Grown w w') := fun w => none_div sw1 a1 a2 a3 w l1 u1 l2 u2 l3 u3 (Or.inl hz)
  clear ej bl bu
  go_enter Try.func7, Try.ntmps7
  go_wp2_with fail
  refine (awake_any _).mono ?_; rintro e w1 ⟨rfl, h1⟩
  go_wp2_with fail
  refine (mdMul_ok sw1 false a1 a2 0 _ l1 u1 l2 u2 (by decide) (by decide)).mono ?_; rintro e w2 ⟨rfl, h2⟩
  go_wp2_with fail
  refine (HB.out _).mono ?_; rintro e w3 ⟨rfl, h3⟩
  go_wp2_with fail
  refine (HC.out _).mono ?_; rintro e w4 ⟨rfl, h4⟩
  go_wp2
  go_ret
  exact ⟨rfl, (Grown.trans (Grown.trans (Grown.trans h1 h2) h3) h4)⟩

set_option maxRecDepth 20000 in
set_option maxHeartbeats 2000000 in
theorem back1_yzy (a1 a2 a3 : Int) (w : World) (l1 : 0 ≤ a1) (u1 : a1 < 4294967296) (l2 : 0 ≤ a2) (u2 : a2 < 4294967296) (l3 : 0 ≤ a3) (u3 : a3 < 4294967296) (hy : a2 % 256 ≠ 0) (hz : a3 % 256 ≠ 0) (hlt : a2 % 256 < a3 % 256) :
    Calls Try.prog 7 #[.int .i64 1, .int .u32 a1, .int .u32 a2, .int .u32 a3] w fun e w' => e = .returned (.bool true) ∧ Grown w w' := by
  have wa : IntKind.u64.wrap a1 = a1 := by rw [wrap_u64']; omega
  have wb : IntKind.u64.wrap a2 = a2 := by rw [wrap_u64']; omega
  have wc : IntKind.u64.wrap a3 = a3 := by rw [wrap_u64']; omega
  have bl : 0 ≤ mulL false 256 128 a1 a2 ∧ mulL false 256 128 a1 a2 < 256 := mulL_bd sw1 false a1 a2
  have bu : 0 ≤ mulU false 256 128 a1 a2 ∧ mulU false 256 128 a1 a2 < 256 := mulU_bd sw1 false a1 a2
  have ej := mul_join sw1 a1 a2
  have w1 : IntKind.u64.wrap (mulL false 256 128 a1 a2) = mulL false 256 128 a1 a2 := by rw [wrap_u64']; omega
  have w2 : IntKind.u64.wrap (mulU false 256 128 a1 a2) = mulU false 256 128 a1 a2 := by rw [wrap_u64']; omega
  have w3 : IntKind.u64.wrap (mulU false 256 128 a1 a2 * 256) = mulU false 256 128 a1 a2 * 256 := by rw [wrap_u64']; omega
  have w4 : IntKind.u64.wrap (mulU false 256 128 a1 a2 * 256 + mulL false 256 128 a1 a2) = a1 % 256 * (a2 % 256) := by rw [wrap_u64']; omega
  have w5 : IntKind.u64.wrap (a1 % 256 * (a2 % 256)) = a1 % 256 * (a2 % 256) := by rw [wrap_u64']; omega
  have w6 : IntKind.u64.wrap (a1 % 256) = a1 % 256 := by rw [wrap_u64']; omega
  have hy' : (a2 % 256 == 0) = false := by simp; omega
  have hy2 : (a2 % 256 != 0) = true := by simp; omega
  have hz' : (a3 % 256 == 0) = false := by simp; omega
  have hz2 : (a3 % 256 != 0) = true := by simp; omega
  have dl : decide (a2 % 256 < a3 % 256) = true := decide_eq_true hlt
  have dw := div_whole sw1 a1 a2 a3 hz hlt
  have br : 0 ≤ ansQ false 256 128 a1 a2 a3 ∧ ansQ false 256 128 a1 a2 a3 < 4294967296 ∧ 0 ≤ ansR false 256 128 a1 a2 a3 ∧ ansR false 256 128 a1 a2 a3 < 4294967296 := ans_bd sw1 false a1 a2 a3
  have hr : ansR false 256 128 a1 a2 a3 < a3 % 256 := dw.1
  have v1 : IntKind.u64.wrap (ansQ false 256 128 a1 a2 a3) = ansQ false 256 128 a1 a2 a3 := by rw [wrap_u64']; omega
  have v2 : IntKind.u64.wrap (ansR false 256 128 a1 a2 a3) = ansR false 256 128 a1 a2 a3 := by rw [wrap_u64']; omega
  have v3 : IntKind.u64.wrap (ansQ false 256 128 a1 a2 a3 * (a3 % 256)) = ansQ false 256 128 a1 a2 a3 * (a3 % 256) := by rw [wrap_u64']; omega
  have v4 : IntKind.u64.wrap (ansQ false 256 128 a1 a2 a3 * (a3 % 256) + ansR false 256 128 a1 a2 a3) = a2 % 256 * 256 + a1 % 256 := by rw [wrap_u64']; omega
  have v5 : IntKind.u64.wrap (a2 % 256 * 256) = a2 % 256 * 256 := by rw [wrap_u64']; omega
  have v6 : IntKind.u64.wrap (a2 % 256 * 256 + a1 % 256) = a2 % 256 * 256 + a1 % 256 := by rw [wrap_u64']; omega
  have HBL : Hid (0 ≤ mulL false 256 128 a1 a2 ∧ mulL false 256 128 a1 a2 < 256) := bl
  have HBU : Hid (0 ≤ mulU false 256 128 a1 a2 ∧ mulU false 256 128 a1 a2 < 256) := bu
  have HB : Hid (∀ w : World, Calls Try.prog 12 #[.bool false, .int .i64 1, .int .u32 (mulL false 256 128 a1 a2), .int .u32 (mulU false 256 128 a1 a2), .int .u32 a2] w fun e w' => e = .returned (.tuple #[.int .u32 (a1 % 256), .int .u32 0, .bool true, .int .i64 0]) ∧ Grown w w') := fun w => back_div sw1 a1 a2 w l2 u2 hy
  have HC : Hid (∀ w : World, Calls Try.prog 12 #[.bool false, .int .i64 1, .int .u32 a1, .int .u32 a2, .int .u32 a3] w fun e w' => e = .returned (.tuple #[.int .u32 (ansQ false 256 128 a1 a2 a3), .int .u32 (ansR false 256 128 a1 a2 a3), .bool true, .int .i64 0]) ∧ Grown w w') := fun w => some_div sw1 a1 a2 a3 w l1 u1 l2 u2 l3 u3 hz hlt
  clear ej bl bu dw br
  go_enter Try.func7, Try.ntmps7
  go_wp2_with fail
  refine (awake_any _).mono ?_; rintro e w1 ⟨rfl, h1⟩
  go_wp2_with fail
  refine (mdMul_ok sw1 false a1 a2 0 _ l1 u1 l2 u2 (by decide) (by decide)).mono ?_; rintro e w2 ⟨rfl, h2⟩
  go_wp2_with fail
  refine (HB.out _).mono ?_; rintro e w3 ⟨rfl, h3⟩
  go_wp2_with fail
  refine (HC.out _).mono ?_; rintro e w4 ⟨rfl, h4⟩
  go_wp2
  go_ret
  exact ⟨rfl, (Grown.trans (Grown.trans (Grown.trans h1 h2) h3) h4)⟩

set_option maxRecDepth 20000 in
set_option maxHeartbeats 2000000 in
theorem back1_yzn (a1 a2 a3 : Int) (w : World) (l1 : 0 ≤ a1) (u1 : a1 < 4294967296) (l2 : 0 ≤ a2) (u2 : a2 < 4294967296) (l3 : 0 ≤ a3) (u3 : a3 < 4294967296) (hy : a2 % 256 ≠ 0) (hz : a3 % 256 ≠ 0) (hlt : ¬ a2 % 256 < a3 % 256) :
    Calls Try.prog 7 #[.int .i64 1, .int .u32 a1, .int .u32 a2, .int .u32 a3] w fun e w' => e = .returned (.bool true) ∧ Grown w w' := by
  have wa : IntKind.u64.wrap a1 = a1 := by rw [wrap_u64']; omega
  have wb : IntKind.u64.wrap a2 = a2 := by rw [wrap_u64']; omega
  have wc : IntKind.u64.wrap a3 = a3 := by rw [wrap_u64']; omega
  have bl : 0 ≤ mulL false 256 128 a1 a2 ∧ mulL false 256 128 a1 a2 < 256 := mulL_bd sw1 false a1 a2
  have bu : 0 ≤ mulU false 256 128 a1 a2 ∧ mulU false 256 128 a1 a2 < 256 := mulU_bd sw1 false a1 a2
  have ej := mul_join sw1 a1 a2
  have w1 : IntKind.u64.wrap (mulL false 256 128 a1 a2) = mulL false 256 128 a1 a2 := by rw [wrap_u64']; omega
  have w2 : IntKind.u64.wrap (mulU false 256 128 a1 a2) = mulU false 256 128 a1 a2 := by rw [wrap_u64']; omega
  have w3 : IntKind.u64.wrap (mulU false 256 128 a1 a2 * 256) = mulU false 256 128 a1 a2 * 256 := by rw [wrap_u64']; omega
  have w4 : IntKind.u64.wrap (mulU false 256 128 a1 a2 * 256 + mulL false 256 128 a1 a2) = a1 % 256 * (a2 % 256) := by rw [wrap_u64']; omega
  have w5 : IntKind.u64.wrap (a1 % 256 * (a2 % 256)) = a1 % 256 * (a2 % 256) := by rw [wrap_u64']; omega
  have w6 : IntKind.u64.wrap (a1 % 256) = a1 % 256 := by rw [wrap_u64']; omega
  have hy' : (a2 % 256 == 0) = false := by simp; omega
  have hy2 : (a2 % 256 != 0) = true := by simp; omega
  have hz' : (a3 % 256 == 0) = false := by simp; omega
  have hz2 : (a3 % 256 != 0) = true := by simp; omega
  have dl : decide (a2 % 256 < a3 % 256) = false := decide_eq_false hlt
  have HBL : Hid (0 ≤ mulL false 256 128 a1 a2 ∧ mulL false 256 128 a1 a2 < 256) := bl
  have HBU : Hid (0 ≤ mulU false 256 128 a1 a2 ∧ mulU false 256 128 a1 a2 < 256) := bu
  have HB : Hid (∀ w : World, Calls Try.prog 12 #[.bool false, .int .i64 1, .int .u32 (mulL false 256 128 a1 a2), .int .u32 (mulU false 256 128 a1 a2), .int .u32 a2] w fun e w' => e = .returned (.tuple #[.int .u32 (a1 % 256), .int .u32 0, .bool true, .int .i64 0]) ∧ Grown w w') := fun w => back_div sw1 a1 a2 w l2 u2 hy
  have HC : Hid (∀ w : World, Calls Try.prog 12 #[.bool false, .int .i64 1, .int .u32 a1, .int .u32 a2, .int .u32 a3] w fun e w' => e = .returned (.tuple #[.int .u32 0, .int .u32 0, .bool false, .int .i64 0]) ∧ Grown w w') := fun w => none_div sw1 a1 a2 a3 w l1 u1 l2 u2 l3 u3 (Or.inr hlt)
  clear ej bl bu
  go_enter Try.func7, Try.ntmps7
  go_wp2_with fail
  refine (awake_any _).mono ?_; rintro e w1 ⟨rfl, h1⟩
  go_wp2_with fail
  refine (mdMul_ok sw1 false a1 a2 0 _ l1 u1 l2 u2 (by decide) (by decide)).mono ?_; rintro e w2 ⟨rfl, h2⟩
  go_wp2_with fail
  refine (HB.out _).mono ?_; rintro e w3 ⟨rfl, h3⟩
  go_wp2_with fail
  refine (HC.out _).mono ?_; rintro e w4 ⟨rfl, h4⟩
  go_wp2
  go_ret
  exact ⟨rfl, (Grown.trans (Grown.trans (Grown.trans h1 h2) h3) h4)⟩

set_option maxRecDepth 20000 in
set_option maxHeartbeats 2000000 in
theorem back2_0zz (a1 a2 a3 : Int) (w : World) (l1 : 0 ≤ a1) (u1 : a1 < 4294967296) (l2 : 0 ≤ a2) (u2 : a2 < 4294967296) (l3 : 0 ≤ a3) (u3 : a3 < 4294967296) (hy : a2 % 65536 = 0) (hz : a3 % 65536 = 0) :
    Calls Try.prog 7 #[.int .i64 2, .int .u32 a1, .int .u32 a2, .int .u32 a3] w fun e w' => e = .returned (.bool true) ∧ Grown w w' := by
  have wa : IntKind.u64.wrap a1 = a1 := by rw [wrap_u64']; omega
  have wb : IntKind.u64.wrap a2 = a2 := by rw [wrap_u64']; omega
  have wc : IntKind.u64.wrap a3 = a3 := by rw [wrap_u64']; omega
  have bl : 0 ≤ mulL false 65536 32768 a1 a2 ∧ mulL false 65536 32768 a1 a2 < 65536 := mulL_bd sw2 false a1 a2
  have bu : 0 ≤ mulU false 65536 32768 a1 a2 ∧ mulU false 65536 32768 a1 a2 < 65536 := mulU_bd sw2 false a1 a2
  have ej := mul_join sw2 a1 a2
  have w1 : IntKind.u64.wrap (mulL false 65536 32768 a1 a2) = mulL false 65536 32768 a1 a2 := by rw [wrap_u64']; omega
  have w2 : IntKind.u64.wrap (mulU false 65536 32768 a1 a2) = mulU false 65536 32768 a1 a2 := by rw [wrap_u64']; omega
  have w3 : IntKind.u64.wrap (mulU false 65536 32768 a1 a2 * 65536) = mulU false 65536 32768 a1 a2 * 65536 := by rw [wrap_u64']; omega
  have w4 : IntKind.u64.wrap (mulU false 65536 32768 a1 a2 * 65536 + mulL false 65536 32768 a1 a2) = a1 % 65536 * (a2 % 65536) := by rw [wrap_u64']; omega
  have w5 : IntKind.u64.wrap (a1 % 65536 * (a2 % 65536)) = a1 % 65536 * (a2 % 65536) := by rw [wrap_u64']; omega
  have w6 : IntKind.u64.wrap (a1 % 65536) = a1 % 65536 := by rw [wrap_u64']; omega
  rw [hy] at w4 w5
  have HBL : Hid (0 ≤ mulL false 65536 32768 a1 a2 ∧ mulL false 65536 32768 a1 a2 < 65536) := bl
  have HBU : Hid (0 ≤ mulU false 65536 32768 a1 a2 ∧ mulU false 65536 32768 a1 a2 < 65536) := bu
  have HC : Hid (∀ w : World, Calls Try.prog 12 #[.bool false, .int .i64 2, .int .u32 a1, .int .u32 a2, .int .u32 a3] w fun e w' => e = .returned (.tuple #[.int .u32 0, .int .u32 0, .bool false, .int .i64 0]) ∧ Grown w w') := fun w => none_div sw2 a1 a2 a3 w l1 u1 l2 u2 l3 u3 (Or.inl hz)
  clear ej bl bu
  go_enter Try.func7, Try.ntmps7
  go_wp2_with fail
  refine (awake_any _).mono ?_; rintro e w1 ⟨rfl, h1⟩
  go_wp2_with fail
  refine (mdMul_ok sw2 false a1 a2 0 _ l1 u1 l2 u2 (by decide) (by decide)).mono ?_; rintro e w2 ⟨rfl, h2⟩
  go_wp2_with fail
  refine (HC.out _).mono ?_; rintro e w3 ⟨rfl, h3⟩
  go_wp2
  go_ret
  exact ⟨rfl, (Grown.trans (Grown.trans h1 h2) h3)⟩

set_option maxRecDepth 20000 in
set_option maxHeartbeats 2000000 in
theorem back2_0zy (a1 a2 a3 : Int) (w : World) (l1 : 0 ≤ a1) (u1 : a1 < 4294967296) (l2 : 0 ≤ a2) (u2 : a2 < 4294967296) (l3 : 0 ≤ a3) (u3 : a3 < 4294967296) (hy : a2 % 65536 = 0) (hz : a3 % 65536 ≠ 0) (hlt : a2 % 65536 < a3 % 65536) :
    Calls Try.prog 7 #[.int .i64 2, .int .u32 a1, .int .u32 a2, .int .u32 a3] w fun e w' => e = .returned (.bool true) ∧ Grown w w' := by
  have wa : IntKind.u64.wrap a1 = a1 := by rw [wrap_u64']; omega
  have wb : IntKind.u64.wrap a2 = a2 := by rw [wrap_u64']; omega
  have wc : IntKind.u64.wrap a3 = a3 := by rw [wrap_u64']; omega
  have bl : 0 ≤ mulL false 65536 32768 a1 a2 ∧ mulL false 65536 32768 a1 a2 < 65536 := mulL_bd sw2 false a1 a2
  have bu : 0 ≤ mulU false 65536 32768 a1 a2 ∧ mulU false 65536 32768 a1 a2 < 65536 := mulU_bd sw2 false a1 a2
  have ej := mul_join sw2 a1 a2
  have w1 : IntKind.u64.wrap (mulL false 65536 32768 a1 a2) = mulL false 65536 32768 a1 a2 := by rw [wrap_u64']; omega
  have w2 : IntKind.u64.wrap (mulU false 65536 32768 a1 a2) = mulU false 65536 32768 a1 a2 := by rw [wrap_u64']; omega
  have w3 : IntKind.u64.wrap (mulU false 65536 32768 a1 a2 * 65536) = mulU false 65536 32768 a1 a2 * 65536 := by rw [wrap_u64']; omega
  have w4 : IntKind.u64.wrap (mulU false 65536 32768 a1 a2 * 65536 + mulL false 65536 32768 a1 a2) = a1 % 65536 * (a2 % 65536) := by rw [wrap_u64']; omega
  have w5 : IntKind.u64.wrap (a1 % 65536 * (a2 % 65536)) = a1 % 65536 * (a2 % 65536) := by rw [wrap_u64']; omega
  have w6 : IntKind.u64.wrap (a1 % 65536) = a1 % 65536 := by rw [wrap_u64']; omega
  rw [hy] at w4 w5
  have hz' : (a3 % 65536 == 0) = false := by simp; omega
  have hz2 : (a3 % 65536 != 0) = true := by simp; omega
  have dl : decide (a2 % 65536 < a3 % 65536) = true := decide_eq_true hlt
  have dl0 : decide (0 < a3 % 65536) = true := decide_eq_true (by omega)
  have dw := div_whole sw2 a1 a2 a3 hz hlt
  have br : 0 ≤ ansQ false 65536 32768 a1 a2 a3 ∧ ansQ false 65536 32768 a1 a2 a3 < 4294967296 ∧ 0 ≤ ansR false 65536 32768 a1 a2 a3 ∧ ansR false 65536 32768 a1 a2 a3 < 4294967296 := ans_bd sw2 false a1 a2 a3
  have hr : ansR false 65536 32768 a1 a2 a3 < a3 % 65536 := dw.1
  have v1 : IntKind.u64.wrap (ansQ false 65536 32768 a1 a2 a3) = ansQ false 65536 32768 a1 a2 a3 := by rw [wrap_u64']; omega
  have v2 : IntKind.u64.wrap (ansR false 65536 32768 a1 a2 a3) = ansR false 65536 32768 a1 a2 a3 := by rw [wrap_u64']; omega
  have v3 : IntKind.u64.wrap (ansQ false 65536 32768 a1 a2 a3 * (a3 % 65536)) = ansQ false 65536 32768 a1 a2 a3 * (a3 % 65536) := by rw [wrap_u64']; omega
  have v4 : IntKind.u64.wrap (ansQ false 65536 32768 a1 a2 a3 * (a3 % 65536) + ansR false 65536 32768 a1 a2 a3) = a2 % 65536 * 65536 + a1 % 65536 := by rw [wrap_u64']; omega
  have v5 : IntKind.u64.wrap (a2 % 65536 * 65536) = a2 % 65536 * 65536 := by rw [wrap_u64']; omega
  have v6 : IntKind.u64.wrap (a2 % 65536 * 65536 + a1 % 65536) = a2 % 65536 * 65536 + a1 % 65536 := by rw [wrap_u64']; omega
  rw [hy] at v4 v5 v6
  have HBL : Hid (0 ≤ mulL false 65536 32768 a1 a2 ∧ mulL false 65536 32768 a1 a2 < 65536) := bl
  have HBU : Hid (0 ≤ mulU false 65536 32768 a1 a2 ∧ mulU false 65536 32768 a1 a2 < 65536) := bu
  have HC : Hid (∀ w : World, Calls Try.prog 12 #[.bool false, .int .i64 2, .int .u32 a1, .int .u32 a2, .int .u32 a3] w fun e w' => e = .returned (.tuple #[.int .u32 (ansQ false 65536 32768 a1 a2 a3), .int .u32 (ansR false 65536 32768 a1 a2 a3), .bool true, .int .i64 0]) ∧ Grown w w') := fun w => some_div sw2 a1 a2 a3 w l1 u1 l2 u2 l3 u3 hz hlt
  clear ej bl bu dw br
  go_enter Try.func7, Try.ntmps7
  go_wp2_with fail
  refine (awake_any _).mono ?_; rintro e w1 ⟨rfl, h1⟩
  go_wp2_with fail
  refine (mdMul_ok sw2 false a1 a2 0 _ l1 u1 l2 u2 (by decide) (by decide)).mono ?_; rintro e w2 ⟨rfl, h2⟩
  go_wp2_with fail
  refine (HC.out _).mono ?_; rintro e w3 ⟨rfl, h3⟩
  go_wp2
  go_ret
  exact ⟨rfl, (Grown.trans (Grown.trans h1 h2) h3)⟩

set_option maxRecDepth 20000 in
set_option maxHeartbeats 2000000 in
theorem back2_yzz (a1 a2 a3 : Int) (w : World) (l1 : 0 ≤ a1) (u1 : a1 < 4294967296) (l2 : 0 ≤ a2) (u2 : a2 < 4294967296) (l3 : 0 ≤ a3) (u3 : a3 < 4294967296) (hy : a2 % 65536 ≠ 0) (hz : a3 % 65536 = 0) :
    Calls Try.prog 7 #[.int .i64 2, .int .u32 a1, .int .u32 a2, .int .u32 a3] w fun e w' => e = .returned (.bool true) ∧ Grown w w' := by
  have wa : IntKind.u64.wrap a1 = a1 := by rw [wrap_u64']; omega
  have wb : IntKind.u64.wrap a2 = a2 := by rw [wrap_u64']; omega
  have wc : IntKind.u64.wrap a3 = a3 := by rw [wrap_u64']; omega
  have bl : 0 ≤ mulL false 65536 32768 a1 a2 ∧ mulL false 65536 32768 a1 a2 < 65536 := mulL_bd sw2 false a1 a2
  have bu : 0 ≤ mulU false 65536 32768 a1 a2 ∧ mulU false 65536 32768 a1 a2 < 65536 := mulU_bd sw2 false a1 a2
  have ej := mul_join sw2 a1 a2
  have w1 : IntKind.u64.wrap (mulL false 65536 32768 a1 a2) = mulL false 65536 32768 a1 a2 := by rw [wrap_u64']; omega
  have w2 : IntKind.u64.wrap (mulU false 65536 32768 a1 a2) = mulU false 65536 32768 a1 a2 := by rw [wrap_u64']; omega
  have w3 : IntKind.u64.wrap (mulU false 65536 32768 a1 a2 * 65536) = mulU false 65536 32768 a1 a2 * 65536 := by rw [wrap_u64']; omega
  have w4 : IntKind.u64.wrap (mulU false 65536 32768 a1 a2 * 65536 + mulL false 65536 32768 a1 a2) = a1 % 65536 * (a2 % 65536) := by rw [wrap_u64']; omega
  have w5 : IntKind.u64.wrap (a1 % 65536 * (a2 % 65536)) = a1 % 65536 * (a2 % 65536) := by rw [wrap_u64']; omega
  have w6 : IntKind.u64.wrap (a1 % 65536) = a1 % 65536 := by rw [wrap_u64']; omega
  have hy' : (a2 % 65536 == 0) = false := by simp; omega
  have hy2 : (a2 % 65536 != 0) = true := by simp; omega
  have HBL : Hid (0 ≤ mulL false 65536 32768 a1 a2 ∧ mulL false 65536 32768 a1 a2 < 65536) := bl
  have HBU : Hid (0 ≤ mulU false 65536 32768 a1 a2 ∧ mulU false 65536 32768 a1 a2 < 65536) := bu
  have HB : Hid (∀ w : World, Calls Try.prog 12 #[.bool false, .int .i64 2, .int .u32 (mulL false 65536 32768 a1 a2), .int .u32 (mulU false 65536 32768 a1 a2), .int .u32 a2] w fun e w' => e = .returned (.tuple #[.int .u32 (a1 % 65536), .int .u32 0, .bool true, .int .i64 0]) ∧ Grown w w') := fun w => back_div sw2 a1 a2 w l2 u2 hy
  have HC : Hid (∀ w : World, Calls Try.prog 12 #[.bool false, .int .i64 2, .int .u32 a1, .int .u32 a2, .int .u32 a3] w fun e w' => e = .returned (.tuple #[.int .u32 0, .int .u32 0, .bool false, .int .i64 0]) ∧ Grown w w') := fun w => none_div sw2 a1 a2 a3 w l1 u1 l2 u2 l3 u3 (Or.inl hz)
  clear ej bl bu
  go_enter Try.func7, Try.ntmps7
  go_wp2_with fail
  refine (awake_any _).mono ?_; rintro e w1 ⟨rfl, h1⟩
  go_wp2_with fail
  refine (mdMul_ok sw2 false a1 a2 0 _ l1 u1 l2 u2 (by decide) (by decide)).mono ?_; rintro e w2 ⟨rfl, h2⟩
  go_wp2_with fail
  refine (HB.out _).mono ?_; rintro e w3 ⟨rfl, h3⟩
  go_wp2_with fail
  refine (HC.out _).mono ?_; rintro e w4 ⟨rfl, h4⟩
  go_wp2
  go_ret
  exact ⟨rfl, (Grown.trans (Grown.trans (Grown.trans h1 h2) h3) h4)⟩

set_option maxRecDepth 20000 in
set_option maxHeartbeats 2000000 in
theorem back2_yzy (a1 a2 a3 : Int) (w : World) (l1 : 0 ≤ a1) (u1 : a1 < 4294967296) (l2 : 0 ≤ a2) (u2 : a2 < 4294967296) (l3 : 0 ≤ a3) (u3 : a3 < 4294967296) (hy : a2 % 65536 ≠ 0) (hz : a3 % 65536 ≠ 0) (hlt : a2 % 65536 < a3 % 65536) :
    Calls Try.prog 7 #[.int .i64 2, .int .u32 a1, .int .u32 a2, .int .u32 a3] w fun e w' => e = .returned (.bool true) ∧ Grown w w' := by
  have wa : IntKind.u64.wrap a1 = a1 := by rw [wrap_u64']; omega
  have wb : IntKind.u64.wrap a2 = a2 := by rw [wrap_u64']; omega
  have wc : IntKind.u64.wrap a3 = a3 := by rw [wrap_u64']; omega
  have bl : 0 ≤ mulL false 65536 32768 a1 a2 ∧ mulL false 65536 32768 a1 a2 < 65536 := mulL_bd sw2 false a1 a2
  have bu : 0 ≤ mulU false 65536 32768 a1 a2 ∧ mulU false 65536 32768 a1 a2 < 65536 := mulU_bd sw2 false a1 a2
  have ej := mul_join sw2 a1 a2
  have w1 : IntKind.u64.wrap (mulL false 65536 32768 a1 a2) = mulL false 65536 32768 a1 a2 := by rw [wrap_u64']; omega
  have w2 : IntKind.u64.wrap (mulU false 65536 32768 a1 a2) = mulU false 65536 32768 a1 a2 := by rw [wrap_u64']; omega
  have w3 : IntKind.u64.wrap (mulU false 65536 32768 a1 a2 * 65536) = mulU false 65536 32768 a1 a2 * 65536 := by rw [wrap_u64']; omega
  have w4 : IntKind.u64.wrap (mulU false 65536 32768 a1 a2 * 65536 + mulL false 65536 32768 a1 a2) = a1 % 65536 * (a2 % 65536) := by rw [wrap_u64']; omega
  have w5 : IntKind.u64.wrap (a1 % 65536 * (a2 % 65536)) = a1 % 65536 * (a2 % 65536) := by rw [wrap_u64']; omega
  have w6 : IntKind.u64.wrap (a1 % 65536) = a1 % 65536 := by rw [wrap_u64']; omega
  have hy' : (a2 % 65536 == 0) = false := by simp; omega
  have hy2 : (a2 % 65536 != 0) = true := by simp; omega
  have hz' : (a3 % 65536 == 0) = false := by simp; omega
  have hz2 : (a3 % 65536 != 0) = true := by simp; omega
  have dl : decide (a2 % 65536 < a3 % 65536) = true := decide_eq_true hlt
  have dw := div_whole sw2 a1 a2 a3 hz hlt
  have br : 0 ≤ ansQ false 65536 32768 a1 a2 a3 ∧ ansQ false 65536 32768 a1 a2 a3 < 4294967296 ∧ 0 ≤ ansR false 65536 32768 a1 a2 a3 ∧ ansR false 65536 32768 a1 a2 a3 < 4294967296 := ans_bd sw2 false a1 a2 a3
  have hr : ansR false 65536 32768 a1 a2 a3 < a3 % 65536 := dw.1
  have v1 : IntKind.u64.wrap (ansQ false 65536 32768 a1 a2 a3) = ansQ false 65536 32768 a1 a2 a3 := by rw [wrap_u64']; omega
  have v2 : IntKind.u64.wrap (ansR false 65536 32768 a1 a2 a3) = ansR false 65536 32768 a1 a2 a3 := by rw [wrap_u64']; omega
  have v3 : IntKind.u64.wrap (ansQ false 65536 32768 a1 a2 a3 * (a3 % 65536)) = ansQ false 65536 32768 a1 a2 a3 * (a3 % 65536) := by rw [wrap_u64']; omega
  have v4 : IntKind.u64.wrap (ansQ false 65536 32768 a1 a2 a3 * (a3 % 65536) + ansR false 65536 32768 a1 a2 a3) = a2 % 65536 * 65536 + a1 % 65536 := by rw [wrap_u64']; omega
  have v5 : IntKind.u64.wrap (a2 % 65536 * 65536) = a2 % 65536 * 65536 := by rw [wrap_u64']; omega
  have v6 : IntKind.u64.wrap (a2 % 65536 * 65536 + a1 % 65536) = a2 % 65536 * 65536 + a1 % 65536 := by rw [wrap_u64']; omega
  have HBL : Hid (0 ≤ mulL false 65536 32768 a1 a2 ∧ mulL false 65536 32768 a1 a2 < 65536) := bl
  have HBU : Hid (0 ≤ mulU false 65536 32768 a1 a2 ∧ mulU false 65536 32768 a1 a2 < 65536) := bu
  have HB : Hid (∀ w : World, Calls Try.prog 12 #[.bool false, .int .i64 2, .int .u32 (mulL false 65536 32768 a1 a2), .int .u32 (mulU false 65536 32768 a1 a2), .int .u32 a2] w fun e w' => e = .returned (.tuple #[.int .u32 (a1 % 65536), .int .u32 0, .bool true, .int .i64 0]) ∧ Grown w w') := fun w => back_div sw2 a1 a2 w l2 u2 hy
  have HC : Hid (∀ w : World, Calls Try.prog 12 #[.bool false, .int .i64 2, .int .u32 a1, .int .u32 a2, .int .u32 a3] w fun e w' => e = .returned (.tuple #[.int .u32 (ansQ false 65536 32768 a1 a2 a3), .int .u32 (ansR false 65536 32768 a1 a2 a3), .bool true, .int .i64 0]) ∧ Grown w w') := fun w => some_div sw2 a1 a2 a3 w l1 u1 l2 u2 l3 u3 hz hlt
  clear ej bl bu dw br
  go_enter Try.func7, Try.ntmps7
  go_wp2_with fail
  refine (awake_any _).mono ?_; rintro e w1 ⟨rfl, h1⟩
  go_wp2_with fail
  refine (mdMul_ok sw2 false a1 a2 0 _ l1 u1 l2 u2 (by decide) (by decide)).mono ?_; rintro e w2 ⟨rfl, h2⟩
  go_wp2_with fail
  refine (HB.out _).mono ?_; rintro e w3 ⟨rfl, h3⟩
  go_wp2_with fail
  refine (HC.out _).mono ?_; rintro e w4 ⟨rfl, h4⟩
  go_wp2
  go_ret
  exact ⟨rfl, (Grown.trans (Grown.trans (Grown.trans h1 h2) h3) h4)⟩

set_option maxRecDepth 20000 in
set_option maxHeartbeats 2000000 in
theorem back2_yzn (a1 a2 a3 : Int) (w : World) (l1 : 0 ≤ a1) (u1 : a1 < 4294967296) (l2 : 0 ≤ a2) (u2 : a2 < 4294967296) (l3 : 0 ≤ a3) (u3 : a3 < 4294967296) (hy : a2 % 65536 ≠ 0) (hz : a3 % 65536 ≠ 0) (hlt : ¬ a2 % 65536 < a3 % 65536) :
    Calls Try.prog 7 #[.int .i64 2, .int .u32 a1, .int .u32 a2, .int .u32 a3] w fun e w' => e = .returned (.bool true) ∧ Grown w w' := by
  have wa : IntKind.u64.wrap a1 = a1 := by rw [wrap_u64']; omega
  have wb : IntKind.u64.wrap a2 = a2 := by rw [wrap_u64']; omega
  have wc : IntKind.u64.wrap a3 = a3 := by rw [wrap_u64']; omega
  have bl : 0 ≤ mulL false 65536 32768 a1 a2 ∧ mulL false 65536 32768 a1 a2 < 65536 := mulL_bd sw2 false a1 a2
  have bu : 0 ≤ mulU false 65536 32768 a1 a2 ∧ mulU false 65536 32768 a1 a2 < 65536 := mulU_bd sw2 false a1 a2
  have ej := mul_join sw2 a1 a2
  have w1 : IntKind.u64.wrap (mulL false 65536 32768 a1 a2) = mulL false 65536 32768 a1 a2 := by rw [wrap_u64']; omega
  have w2 : IntKind.u64.wrap (mulU false 65536 32768 a1 a2) = mulU false 65536 32768 a1 a2 := by rw [wrap_u64']; omega
  have w3 : IntKind.u64.wrap (mulU false 65536 32768 a1 a2 * 65536) = mulU false 65536 32768 a1 a2 * 65536 := by rw [wrap_u64']; omega
  have w4 : IntKind.u64.wrap (mulU false 65536 32768 a1 a2 * 65536 + mulL false 65536 32768 a1 a2) = a1 % 65536 * (a2 % 65536) := by rw [wrap_u64']; omega
  have w5 : IntKind.u64.wrap (a1 % 65536 * (a2 % 65536)) = a1 % 65536 * (a2 % 65536) := by rw [wrap_u64']; omega
  have w6 : IntKind.u64.wrap (a1 % 65536) = a1 % 65536 := by rw [wrap_u64']; omega
  have hy' : (a2 % 65536 == 0) = false := by simp; omega
  have hy2 : (a2 % 65536 != 0) = true := by simp; omega
  have hz' : (a3 % 65536 == 0) = false := by simp; omega
  have hz2 : (a3 % 65536 != 0) = true := by simp; omega
  have dl : decide (a2 % 65536 < a3 % 65536) = false := decide_eq_false hlt
  have HBL : Hid (0 ≤ mulL false 65536 32768 a1 a2 ∧ mulL false 65536 32768 a1 a2 < 65536) := bl
  have HBU : Hid (0 ≤ mulU false 65536 32768 a1 a2 ∧ mulU false 65536 32768 a1 a2 < 65536) := bu
  have HB : Hid (∀ w : World, Calls Try.prog 12 #[.bool false, .int .i64 2, .int .u32 (mulL false 65536 32768 a1 a2), .int .u32 (mulU false 65536 32768 a1 a2), .int .u32 a2] w fun e w' => e = .returned (.tuple #[.int .u32 (a1 % 65536), .int .u32 0, .bool true, .int .i64 0]) ∧ Grown w w') := fun w => back_div sw2 a1 a2 w l2 u2 hy
  have HC : Hid (∀ w : World, Calls Try.prog 12 #[.bool false, .int .i64 2, .int .u32 a1, .int .u32 a2, .int .u32 a3] w fun e w' => e = .returned (.tuple #[.int .u32 0, .int .u32 0, .bool false, .int .i64 0]) ∧ Grown w w') := fun w => none_div sw2 a1 a2 a3 w l1 u1 l2 u2 l3 u3 (Or.inr hlt)
  clear ej bl bu
  go_enter Try.func7, Try.ntmps7
  go_wp2_with fail
  refine (awake_any _).mono ?_; rintro e w1 ⟨rfl, h1⟩
  go_wp2_with fail
  refine (mdMul_ok sw2 false a1 a2 0 _ l1 u1 l2 u2 (by decide) (by decide)).mono ?_; rintro e w2 ⟨rfl, h2⟩
  go_wp2_with fail
  refine (HB.out _).mono ?_; rintro e w3 ⟨rfl, h3⟩
  go_wp2_with fail
  refine (HC.out _).mono ?_; rintro e w4 ⟨rfl, h4⟩
  go_wp2
  go_ret
  exact ⟨rfl, (Grown.trans (Grown.trans (Grown.trans h1 h2) h3) h4)⟩

set_option maxRecDepth 20000 in
set_option maxHeartbeats 2000000 in
theorem back4_0zz (a1 a2 a3 : Int) (w : World) (l1 : 0 ≤ a1) (u1 : a1 < 4294967296) (l2 : 0 ≤ a2) (u2 : a2 < 4294967296) (l3 : 0 ≤ a3) (u3 : a3 < 4294967296) (hy : a2 % 4294967296 = 0) (hz : a3 % 4294967296 = 0) :
    Calls Try.prog 7 #[.int .i64 4, .int .u32 a1, .int .u32 a2, .int .u32 a3] w fun e w' => e = .returned (.bool true) ∧ Grown w w' := by
  have wa : IntKind.u64.wrap a1 = a1 := by rw [wrap_u64']; omega
  have wb : IntKind.u64.wrap a2 = a2 := by rw [wrap_u64']; omega
  have wc : IntKind.u64.wrap a3 = a3 := by rw [wrap_u64']; omega
  have bl : 0 ≤ mulL false 4294967296 2147483648 a1 a2 ∧ mulL false 4294967296 2147483648 a1 a2 < 4294967296 := mulL_bd sw4 false a1 a2
  have bu : 0 ≤ mulU false 4294967296 2147483648 a1 a2 ∧ mulU false 4294967296 2147483648 a1 a2 < 4294967296 := mulU_bd sw4 false a1 a2
  have ej := mul_join sw4 a1 a2
  have w1 : IntKind.u64.wrap (mulL false 4294967296 2147483648 a1 a2) = mulL false 4294967296 2147483648 a1 a2 := by rw [wrap_u64']; omega
  have w2 : IntKind.u64.wrap (mulU false 4294967296 2147483648 a1 a2) = mulU false 4294967296 2147483648 a1 a2 := by rw [wrap_u64']; omega
  have w3 : IntKind.u64.wrap (mulU false 4294967296 2147483648 a1 a2 * 4294967296) = mulU false 4294967296 2147483648 a1 a2 * 4294967296 := by rw [wrap_u64']; omega
  have w4 : IntKind.u64.wrap (mulU false 4294967296 2147483648 a1 a2 * 4294967296 + mulL false 4294967296 2147483648 a1 a2) = a1 % 4294967296 * (a2 % 4294967296) := by rw [wrap_u64']; omega
  have w5 : IntKind.u64.wrap (a1 % 4294967296 * (a2 % 4294967296)) = a1 % 4294967296 * (a2 % 4294967296) := by rw [wrap_u64']; omega
  have w6 : IntKind.u64.wrap (a1 % 4294967296) = a1 % 4294967296 := by rw [wrap_u64']; omega
  rw [hy] at w4 w5
  have HBL : Hid (0 ≤ mulL false 4294967296 2147483648 a1 a2 ∧ mulL false 4294967296 2147483648 a1 a2 < 4294967296) := bl
  have HBU : Hid (0 ≤ mulU false 4294967296 2147483648 a1 a2 ∧ mulU false 4294967296 2147483648 a1 a2 < 4294967296) := bu
  have HC : Hid (∀ w : World, Calls Try.prog 12 #[.bool false, .int .i64 4, .int .u32 a1, .int .u32 a2, .int .u32 a3] w fun e w' => e = .returned (.tuple #[.int .u32 0, .int .u32 0, .bool false, .int .i64 0]) ∧ Grown w w') := fun w => none_div sw4 a1 a2 a3 w l1 u1 l2 u2 l3 u3 (Or.inl hz)
  clear ej bl bu
  go_enter Try.func7, Try.ntmps7
  go_wp2_with fail
  refine (awake_any _).mono ?_; rintro e w1 ⟨rfl, h1⟩
  go_wp2_with fail
  refine (mdMul_ok sw4 false a1 a2 0 _ l1 u1 l2 u2 (by decide) (by decide)).mono ?_; rintro e w2 ⟨rfl, h2⟩
  go_wp2_with fail
  refine (HC.out _).mono ?_; rintro e w3 ⟨rfl, h3⟩
  go_wp2
  go_ret
  exact ⟨rfl, (Grown.trans (Grown.trans h1 h2) h3)⟩

set_option maxRecDepth 20000 in
set_option maxHeartbeats 2000000 in
theorem back4_0zy (a1 a2 a3 : Int) (w : World) (l1 : 0 ≤ a1) (u1 : a1 < 4294967296) (l2 : 0 ≤ a2) (u2 : a2 < 4294967296) (l3 : 0 ≤ a3) (u3 : a3 < 4294967296) (hy : a2 % 4294967296 = 0) (hz : a3 % 4294967296 ≠ 0) (hlt : a2 % 4294967296 < a3 % 4294967296) :
    Calls Try.prog 7 #[.int .i64 4, .int .u32 a1, .int .u32 a2, .int .u32 a3] w fun e w' => e = .returned (.bool true) ∧ Grown w w' := by
  have wa : IntKind.u64.wrap a1 = a1 := by rw [wrap_u64']; omega
  have wb : IntKind.u64.wrap a2 = a2 := by rw [wrap_u64']; omega
  have wc : IntKind.u64.wrap a3 = a3 := by rw [wrap_u64']; omega
  have bl : 0 ≤ mulL false 4294967296 2147483648 a1 a2 ∧ mulL false 4294967296 2147483648 a1 a2 < 4294967296 := mulL_bd sw4 false a1 a2
  have bu : 0 ≤ mulU false 4294967296 2147483648 a1 a2 ∧ mulU false 4294967296 2147483648 a1 a2 < 4294967296 := mulU_bd sw4 false a1 a2
  have ej := mul_join sw4 a1 a2
  have w1 : IntKind.u64.wrap (mulL false 4294967296 2147483648 a1 a2) = mulL false 4294967296 2147483648 a1 a2 := by rw [wrap_u64']; omega
  have w2 : IntKind.u64.wrap (mulU false 4294967296 2147483648 a1 a2) = mulU false 4294967296 2147483648 a1 a2 := by rw [wrap_u64']; omega
  have w3 : IntKind.u64.wrap (mulU false 4294967296 2147483648 a1 a2 * 4294967296) = mulU false 4294967296 2147483648 a1 a2 * 4294967296 := by rw [wrap_u64']; omega
  have w4 : IntKind.u64.wrap (mulU false 4294967296 2147483648 a1 a2 * 4294967296 + mulL false 4294967296 2147483648 a1 a2) = a1 % 4294967296 * (a2 % 4294967296) := by rw [wrap_u64']; omega
  have w5 : IntKind.u64.wrap (a1 % 4294967296 * (a2 % 4294967296)) = a1 % 4294967296 * (a2 % 4294967296) := by rw [wrap_u64']; omega
  have w6 : IntKind.u64.wrap (a1 % 4294967296) = a1 % 4294967296 := by rw [wrap_u64']; omega
  rw [hy] at w4 w5
  have hz' : (a3 % 4294967296 == 0) = false := by simp; omega
  have hz2 : (a3 % 4294967296 != 0) = true := by simp; omega
  have dl : decide (a2 % 4294967296 < a3 % 4294967296) = true := decide_eq_true hlt
  have dl0 : decide (0 < a3 % 4294967296) = true := decide_eq_true (by omega)
  have dw := div_whole sw4 a1 a2 a3 hz hlt
  have br : 0 ≤ ansQ false 4294967296 2147483648 a1 a2 a3 ∧ ansQ false 4294967296 2147483648 a1 a2 a3 < 4294967296 ∧ 0 ≤ ansR false 4294967296 2147483648 a1 a2 a3 ∧ ansR false 4294967296 2147483648 a1 a2 a3 < 4294967296 := ans_bd sw4 false a1 a2 a3
  have hr : ansR false 4294967296 2147483648 a1 a2 a3 < a3 % 4294967296 := dw.1
  have v1 : IntKind.u64.wrap (ansQ false 4294967296 2147483648 a1 a2 a3) = ansQ false 4294967296 2147483648 a1 a2 a3 := by rw [wrap_u64']; omega
  have v2 : IntKind.u64.wrap (ansR false 4294967296 2147483648 a1 a2 a3) = ansR false 4294967296 2147483648 a1 a2 a3 := by rw [wrap_u64']; omega
  have v3 : IntKind.u64.wrap (ansQ false 4294967296 2147483648 a1 a2 a3 * (a3 % 4294967296)) = ansQ false 4294967296 2147483648 a1 a2 a3 * (a3 % 4294967296) := by rw [wrap_u64']; omega
  have v4 : IntKind.u64.wrap (ansQ false 4294967296 2147483648 a1 a2 a3 * (a3 % 4294967296) + ansR false 4294967296 2147483648 a1 a2 a3) = a2 % 4294967296 * 4294967296 + a1 % 4294967296 := by rw [wrap_u64']; omega
  have v5 : IntKind.u64.wrap (a2 % 4294967296 * 4294967296) = a2 % 4294967296 * 4294967296 := by rw [wrap_u64']; omega
  have v6 : IntKind.u64.wrap (a2 % 4294967296 * 4294967296 + a1 % 4294967296) = a2 % 4294967296 * 4294967296 + a1 % 4294967296 := by rw [wrap_u64']; omega
  rw [hy] at v4 v5 v6
  have HBL : Hid (0 ≤ mulL false 4294967296 2147483648 a1 a2 ∧ mulL false 4294967296 2147483648 a1 a2 < 4294967296) := bl
  have HBU : Hid (0 ≤ mulU false 4294967296 2147483648 a1 a2 ∧ mulU false 4294967296 2147483648 a1 a2 < 4294967296) := bu
  have HC : Hid (∀ w : World, Calls Try.prog 12 #[.bool false, .int .i64 4, .int .u32 a1, .int .u32 a2, .int .u32 a3] w fun e w' => e = .returned (.tuple #[.int .u32 (ansQ false 4294967296 2147483648 a1 a2 a3), .int .u32 (ansR false 4294967296 2147483648 a1 a2 a3), .bool true, .int .i64 0]) ∧ Grown w w') := fun w => some_div sw4 a1 a2 a3 w l1 u1 l2 u2 l3 u3 hz hlt
  clear ej bl bu dw br
  go_enter Try.func7, Try.ntmps7
  go_wp2_with fail
  refine (awake_any _).mono ?_; rintro e w1 ⟨rfl, h1⟩
  go_wp2_with fail
  refine (mdMul_ok sw4 false a1 a2 0 _ l1 u1 l2 u2 (by decide) (by decide)).mono ?_; rintro e w2 ⟨rfl, h2⟩
  go_wp2_with fail
  refine (HC.out _).mono ?_; rintro e w3 ⟨rfl, h3⟩
  go_wp2
  go_ret
  exact ⟨rfl, (Grown.trans (Grown.trans h1 h2) h3)⟩

set_option maxRecDepth 20000 in
set_option maxHeartbeats 2000000 in
theorem back4_yzz (a1 a2 a3 : Int) (w : World) (l1 : 0 ≤ a1) (u1 : a1 < 4294967296) (l2 : 0 ≤ a2) (u2 : a2 < 4294967296) (l3 : 0 ≤ a3) (u3 : a3 < 4294967296) (hy : a2 % 4294967296 ≠ 0) (hz : a3 % 4294967296 = 0) :
    Calls Try.prog 7 #[.int .i64 4, .int .u32 a1, .int .u32 a2, .int .u32 a3] w fun e w' => e = .returned (.bool true) ∧ Grown w w' := by
  have wa : IntKind.u64.wrap a1 = a1 := by rw [wrap_u64']; omega
  have wb : IntKind.u64.wrap a2 = a2 := by rw [wrap_u64']; omega
  have wc : IntKind.u64.wrap a3 = a3 := by rw [wrap_u64']; omega
  have bl : 0 ≤ mulL false 4294967296 2147483648 a1 a2 ∧ mulL false 4294967296 2147483648 a1 a2 < 4294967296 := mulL_bd sw4 false a1 a2
  have bu : 0 ≤ mulU false 4294967296 2147483648 a1 a2 ∧ mulU false 4294967296 2147483648 a1 a2 < 4294967296 := mulU_bd sw4 false a1 a2
  have ej := mul_join sw4 a1 a2
  have w1 : IntKind.u64.wrap (mulL false 4294967296 2147483648 a1 a2) = mulL false 4294967296 2147483648 a1 a2 := by rw [wrap_u64']; omega
  have w2 : IntKind.u64.wrap (mulU false 4294967296 2147483648 a1 a2) = mulU false 4294967296 2147483648 a1 a2 := by rw [wrap_u64']; omega
  have w3 : IntKind.u64.wrap (mulU false 4294967296 2147483648 a1 a2 * 4294967296) = mulU false 4294967296 2147483648 a1 a2 * 4294967296 := by rw [wrap_u64']; omega
  have w4 : IntKind.u64.wrap (mulU false 4294967296 2147483648 a1 a2 * 4294967296 + mulL false 4294967296 2147483648 a1 a2) = a1 % 4294967296 * (a2 % 4294967296) := by rw [wrap_u64']; omega
  have w5 : IntKind.u64.wrap (a1 % 4294967296 * (a2 % 4294967296)) = a1 % 4294967296 * (a2 % 4294967296) := by rw [wrap_u64']; omega
  have w6 : IntKind.u64.wrap (a1 % 4294967296) = a1 % 4294967296 := by rw [wrap_u64']; omega
  have hy' : (a2 % 4294967296 == 0) = false := by simp; omega
  have hy2 : (a2 % 4294967296 != 0) = true := by simp; omega
  have HBL : Hid (0 ≤ mulL false 4294967296 2147483648 a1 a2 ∧ mulL false 4294967296 2147483648 a1 a2 < 4294967296) := bl
  have HBU : Hid (0 ≤ mulU false 4294967296 2147483648 a1 a2 ∧ mulU false 4294967296 2147483648 a1 a2 < 4294967296) := bu
  have HB : Hid (∀ w : World, Calls Try.prog 12 #[.bool false, .int .i64 4, .int .u32 (mulL false 4294967296 2147483648 a1 a2), .int .u32 (mulU false 4294967296 2147483648 a1 a2), .int .u32 a2] w fun e w' => e = .returned (.tuple #[.int .u32 (a1 % 4294967296), .int .u32 0, .bool true, .int .i64 0]) ∧ Grown w w') := fun w => back_div sw4 a1 a2 w l2 u2 hy
  have HC : Hid (∀ w : World, Calls Try.prog 12 #[.bool false, .int .i64 4, .int .u32 a1, .int .u32 a2, .int .u32 a3] w fun e w' => e = .returned (.tuple #[.int .u32 0, .int .u32 0, .bool false, .int .i64 0]) ∧ Grown w w') := fun w => none_div sw4 a1 a2 a3 w l1 u1 l2 u2 l3 u3 (Or.inl hz)
  clear ej bl bu
  go_enter Try.func7, Try.ntmps7
  go_wp2_with fail
  refine (awake_any _).mono ?_; rintro e w1 ⟨rfl, h1⟩
  go_wp2_with fail
  refine (mdMul_ok sw4 false a1 a2 0 _ l1 u1 l2 u2 (by decide) (by decide)).mono ?_; rintro e w2 ⟨rfl, h2⟩
  go_wp2_with fail
  refine (HB.out _).mono ?_; rintro e w3 ⟨rfl, h3⟩
  go_wp2_with fail
  refine (HC.out _).mono ?_; rintro e w4 ⟨rfl, h4⟩
  go_wp2
  go_ret
  exact ⟨rfl, (Grown.trans (Grown.trans (Grown.trans h1 h2) h3) h4)⟩

set_option maxRecDepth 20000 in
set_option maxHeartbeats 2000000 in
theorem back4_yzy (a1 a2 a3 : Int) (w : World) (l1 : 0 ≤ a1) (u1 : a1 < 4294967296) (l2 : 0 ≤ a2) (u2 : a2 < 4294967296) (l3 : 0 ≤ a3) (u3 : a3 < 4294967296) (hy : a2 % 4294967296 ≠ 0) (hz : a3 % 4294967296 ≠ 0) (hlt : a2 % 4294967296 < a3 % 4294967296) :
    Calls Try.prog 7 #[.int .i64 4, .int .u32 a1, .int .u32 a2, .int .u32 a3] w fun e w' => e = .returned (.bool true) ∧ Grown w w' := by
  have wa : IntKind.u64.wrap a1 = a1 := by rw [wrap_u64']; omega
  have wb : IntKind.u64.wrap a2 = a2 := by rw [wrap_u64']; omega
  have wc : IntKind.u64.wrap a3 = a3 := by rw [wrap_u64']; omega
  have bl : 0 ≤ mulL false 4294967296 2147483648 a1 a2 ∧ mulL false 4294967296 2147483648 a1 a2 < 4294967296 := mulL_bd sw4 false a1 a2
  have bu : 0 ≤ mulU false 4294967296 2147483648 a1 a2 ∧ mulU false 4294967296 2147483648 a1 a2 < 4294967296 := mulU_bd sw4 false a1 a2
  have ej := mul_join sw4 a1 a2
  have w1 : IntKind.u64.wrap (mulL false 4294967296 2147483648 a1 a2) = mulL false 4294967296 2147483648 a1 a2 := by rw [wrap_u64']; omega
  have w2 : IntKind.u64.wrap (mulU false 4294967296 2147483648 a1 a2) = mulU false 4294967296 2147483648 a1 a2 := by rw [wrap_u64']; omega
  have w3 : IntKind.u64.wrap (mulU false 4294967296 2147483648 a1 a2 * 4294967296) = mulU false 4294967296 2147483648 a1 a2 * 4294967296 := by rw [wrap_u64']; omega
  have w4 : IntKind.u64.wrap (mulU false 4294967296 2147483648 a1 a2 * 4294967296 + mulL false 4294967296 2147483648 a1 a2) = a1 % 4294967296 * (a2 % 4294967296) := by rw [wrap_u64']; omega
  have w5 : IntKind.u64.wrap (a1 % 4294967296 * (a2 % 4294967296)) = a1 % 4294967296 * (a2 % 4294967296) := by rw [wrap_u64']; omega
  have w6 : IntKind.u64.wrap (a1 % 4294967296) = a1 % 4294967296 := by rw [wrap_u64']; omega
  have hy' : (a2 % 4294967296 == 0) = false := by simp; omega
  have hy2 : (a2 % 4294967296 != 0) = true := by simp; omega
  have hz' : (a3 % 4294967296 == 0) = false := by simp; omega
  have hz2 : (a3 % 4294967296 != 0) = true := by simp; omega
  have dl : decide (a2 % 4294967296 < a3 % 4294967296) = true := decide_eq_true hlt
  have dw := div_whole sw4 a1 a2 a3 hz hlt
  have br : 0 ≤ ansQ false 4294967296 2147483648 a1 a2 a3 ∧ ansQ false 4294967296 2147483648 a1 a2 a3 < 4294967296 ∧ 0 ≤ ansR false 4294967296 2147483648 a1 a2 a3 ∧ ansR false 4294967296 2147483648 a1 a2 a3 < 4294967296 := ans_bd sw4 false a1 a2 a3
  have hr : ansR false 4294967296 2147483648 a1 a2 a3 < a3 % 4294967296 := dw.1
  have v1 : IntKind.u64.wrap (ansQ false 4294967296 2147483648 a1 a2 a3) = ansQ false 4294967296 2147483648 a1 a2 a3 := by rw [wrap_u64']; omega
  have v2 : IntKind.u64.wrap (ansR false 4294967296 2147483648 a1 a2 a3) = ansR false 4294967296 2147483648 a1 a2 a3 := by rw [wrap_u64']; omega
  have v3 : IntKind.u64.wrap (ansQ false 4294967296 2147483648 a1 a2 a3 * (a3 % 4294967296)) = ansQ false 4294967296 2147483648 a1 a2 a3 * (a3 % 4294967296) := by rw [wrap_u64']; omega
  have v4 : IntKind.u64.wrap (ansQ false 4294967296 2147483648 a1 a2 a3 * (a3 % 4294967296) + ansR false 4294967296 2147483648 a1 a2 a3) = a2 % 4294967296 * 4294967296 + a1 % 4294967296 := by rw [wrap_u64']; omega
  have v5 : IntKind.u64.wrap (a2 % 4294967296 * 4294967296) = a2 % 4294967296 * 4294967296 := by rw [wrap_u64']; omega
  have v6 : IntKind.u64.wrap (a2 % 4294967296 * 4294967296 + a1 % 4294967296) = a2 % 4294967296 * 4294967296 + a1 % 4294967296 := by rw [wrap_u64']; omega
  have HBL : Hid (0 ≤ mulL false 4294967296 2147483648 a1 a2 ∧ mulL false 4294967296 2147483648 a1 a2 < 4294967296) := bl
  have HBU : Hid (0 ≤ mulU false 4294967296 2147483648 a1 a2 ∧ mulU false 4294967296 2147483648 a1 a2 < 4294967296) := bu
  have HB : Hid (∀ w : World, Calls Try.prog 12 #[.bool false, .int .i64 4, .int .u32 (mulL false 4294967296 2147483648 a1 a2), .int .u32 (mulU false 4294967296 2147483648 a1 a2), .int .u32 a2] w fun e w' => e = .returned (.tuple #[.int .u32 (a1 % 4294967296), .int .u32 0, .bool true, .int .i64 0]) ∧ Grown w w') := fun w => back_div sw4 a1 a2 w l2 u2 hy
  have HC : Hid (∀ w : World, Calls Try.prog 12 #[.bool false, .int .i64 4, .int .u32 a1, .int .u32 a2, .int .u32 a3] w fun e w' => e = .returned (.tuple #[.int .u32 (ansQ false 4294967296 2147483648 a1 a2 a3), .int .u32 (ansR false 4294967296 2147483648 a1 a2 a3), .bool true, .int .i64 0]) ∧ Grown w w') := fun w => some_div sw4 a1 a2 a3 w l1 u1 l2 u2 l3 u3 hz hlt
  clear ej bl bu dw br
  go_enter Try.func7, Try.ntmps7
  go_wp2_with fail
  refine (awake_any _).mono ?_; rintro e w1 ⟨rfl, h1⟩
  go_wp2_with fail
  refine (mdMul_ok sw4 false a1 a2 0 _ l1 u1 l2 u2 (by decide) (by decide)).mono ?_; rintro e w2 ⟨rfl, h2⟩
  go_wp2_with fail
  refine (HB.out _).mono ?_; rintro e w3 ⟨rfl, h3⟩
  go_wp2_with fail
  refine (HC.out _).mono ?_; rintro e w4 ⟨rfl, h4⟩
  go_wp2
  go_ret
  exact ⟨rfl, (Grown.trans (Grown.trans (Grown.trans h1 h2) h3) h4)⟩

set_option maxRecDepth 20000 in
set_option maxHeartbeats 2000000 in
theorem back4_yzn (a1 a2 a3 : Int) (w : World) (l1 : 0 ≤ a1) (u1 : a1 < 4294967296) (l2 : 0 ≤ a2) (u2 : a2 < 4294967296) (l3 : 0 ≤ a3) (u3 : a3 < 4294967296) (hy : a2 % 4294967296 ≠ 0) (hz : a3 % 4294967296 ≠ 0) (hlt : ¬ a2 % 4294967296 < a3 % 4294967296) :
    Calls Try.prog 7 #[.int .i64 4, .int .u32 a1, .int .u32 a2, .int .u32 a3] w fun e w' => e = .returned (.bool true) ∧ Grown w w' := by
  have wa : IntKind.u64.wrap a1 = a1 := by rw [wrap_u64']; omega
  have wb : IntKind.u64.wrap a2 = a2 := by rw [wrap_u64']; omega
  have wc : IntKind.u64.wrap a3 = a3 := by rw [wrap_u64']; omega
  have bl : 0 ≤ mulL false 4294967296 2147483648 a1 a2 ∧ mulL false 4294967296 2147483648 a1 a2 < 4294967296 := mulL_bd sw4 false a1 a2
  have bu : 0 ≤ mulU false 4294967296 2147483648 a1 a2 ∧ mulU false 4294967296 2147483648 a1 a2 < 4294967296 := mulU_bd sw4 false a1 a2
  have ej := mul_join sw4 a1 a2
  have w1 : IntKind.u64.wrap (mulL false 4294967296 2147483648 a1 a2) = mulL false 4294967296 2147483648 a1 a2 := by rw [wrap_u64']; omega
  have w2 : IntKind.u64.wrap (mulU false 4294967296 2147483648 a1 a2) = mulU false 4294967296 2147483648 a1 a2 := by rw [wrap_u64']; omega
  have w3 : IntKind.u64.wrap (mulU false 4294967296 2147483648 a1 a2 * 4294967296) = mulU false 4294967296 2147483648 a1 a2 * 4294967296 := by rw [wrap_u64']; omega
  have w4 : IntKind.u64.wrap (mulU false 4294967296 2147483648 a1 a2 * 4294967296 + mulL false 4294967296 2147483648 a1 a2) = a1 % 4294967296 * (a2 % 4294967296) := by rw [wrap_u64']; omega
  have w5 : IntKind.u64.wrap (a1 % 4294967296 * (a2 % 4294967296)) = a1 % 4294967296 * (a2 % 4294967296) := by rw [wrap_u64']; omega
  have w6 : IntKind.u64.wrap (a1 % 4294967296) = a1 % 4294967296 := by rw [wrap_u64']; omega
  have hy' : (a2 % 4294967296 == 0) = false := by simp; omega
  have hy2 : (a2 % 4294967296 != 0) = true := by simp; omega
  have hz' : (a3 % 4294967296 == 0) = false := by simp; omega
  have hz2 : (a3 % 4294967296 != 0) = true := by simp; omega
  have dl : decide (a2 % 4294967296 < a3 % 4294967296) = false := decide_eq_false hlt
  have HBL : Hid (0 ≤ mulL false 4294967296 2147483648 a1 a2 ∧ mulL false 4294967296 2147483648 a1 a2 < 4294967296) := bl
  have HBU : Hid (0 ≤ mulU false 4294967296 2147483648 a1 a2 ∧ mulU false 4294967296 2147483648 a1 a2 < 4294967296) := bu
  have HB : Hid (∀ w : World, Calls Try.prog 12 #[.bool false, .int .i64 4, .int .u32 (mulL false 4294967296 2147483648 a1 a2), .int .u32 (mulU false 4294967296 2147483648 a1 a2), .int .u32 a2] w fun e w' => e = .returned (.tuple #[.int .u32 (a1 % 4294967296), .int .u32 0, .bool true, .int .i64 0]) ∧ Grown w w') := fun w => back_div sw4 a1 a2 w l2 u2 hy
  have HC : Hid (∀ w : World, Calls Try.prog 12 #[.bool false, .int .i64 4, .int .u32 a1, .int .u32 a2, .int .u32 a3] w fun e w' => e = .returned (.tuple #[.int .u32 0, .int .u32 0, .bool false, .int .i64 0]) ∧ Grown w w') := fun w => none_div sw4 a1 a2 a3 w l1 u1 l2 u2 l3 u3 (Or.inr hlt)
  clear ej bl bu
  go_enter Try.func7, Try.ntmps7
  go_wp2_with fail
  refine (awake_any _).mono ?_; rintro e w1 ⟨rfl, h1⟩
  go_wp2_with fail
  refine (mdMul_ok sw4 false a1 a2 0 _ l1 u1 l2 u2 (by decide) (by decide)).mono ?_; rintro e w2 ⟨rfl, h2⟩
  go_wp2_with fail
  refine (HB.out _).mono ?_; rintro e w3 ⟨rfl, h3⟩
  go_wp2_with fail
  refine (HC.out _).mono ?_; rintro e w4 ⟨rfl, h4⟩
  go_wp2
  go_ret
  exact ⟨rfl, (Grown.trans (Grown.trans (Grown.trans h1 h2) h3) h4)⟩

set_option maxRecDepth 20000 in
theorem back_no (a0 a1 a2 a3 : Int) (w : World) (hk : okSize a0 = false) :
    Calls Try.prog 7 #[.int .i64 a0, .int .u32 a1, .int .u32 a2, .int .u32 a3] w fun e w' => e = .returned (.bool true) ∧ Grown w w' := by
  have hk' := hk
  unfold okSize at hk
  simp only [Bool.or_eq_false_iff] at hk
  obtain ⟨⟨g1, g2⟩, g4⟩ := hk
  have n1 : (a0 != 1) = true := by simp at g1 ⊢; exact g1
  have n2 : (a0 != 2) = true := by simp at g2 ⊢; exact g2
  have n4 : (a0 != 4) = true := by simp at g4 ⊢; exact g4
  have HK : Hid (okSize a0 = false) := hk'
  clear hk'
  go_enter Try.func7, Try.ntmps7
  go_wp2_with fail
  refine (awake_any _).mono ?_; rintro e w1 ⟨rfl, h1⟩
  go_wp2_with fail
  refine (mdMul_no _ _ _ _ _ _ HK.out).mono ?_; rintro e w2 ⟨rfl, h2⟩
  go_wp2
  go_ret
  exact ⟨rfl, (Grown.trans h1 h2)⟩

theorem MuldivBack_walk (a0 a1 a2 a3 : Int) (w0 : (Lit.int .i64 a0).wf = true) (w1 : (Lit.int .u32 a1).wf = true) (w2 : (Lit.int .u32 a2).wf = true) (w3 : (Lit.int .u32 a3).wf = true) (w : World) :
    Calls Try.prog 7 #[.int .i64 a0, .int .u32 a1, .int .u32 a2, .int .u32 a3] w fun e w' => e = .returned (.bool true) ∧ Grown w w' := by
  have b1 := bounds_u32 w1
  have b2 := bounds_u32 w2
  have b3 := bounds_u32 w3
  have l1 : 0 ≤ a1 := b1.1
  have u1 : a1 < 4294967296 := by omega
  have l2 : 0 ≤ a2 := b2.1
  have u2 : a2 < 4294967296 := by omega
  have l3 : 0 ≤ a3 := b3.1
  have u3 : a3 < 4294967296 := by omega
  clear w0 w1 w2 w3 b1 b2 b3
  cases hk : okSize a0
  · exact back_no a0 a1 a2 a3 w hk
  · unfold okSize at hk
    simp only [Bool.or_eq_true, beq_iff_eq] at hk
    rcases hk with (rfl | rfl) | rfl
    · by_cases hy : a2 % 256 = 0 <;> by_cases hz : a3 % 256 = 0
      · exact back1_0zz a1 a2 a3 w l1 u1 l2 u2 l3 u3 hy hz
      · exact back1_0zy a1 a2 a3 w l1 u1 l2 u2 l3 u3 hy hz (by omega)
      · exact back1_yzz a1 a2 a3 w l1 u1 l2 u2 l3 u3 hy hz
      · by_cases hlt : a2 % 256 < a3 % 256
        · exact back1_yzy a1 a2 a3 w l1 u1 l2 u2 l3 u3 hy hz hlt
        · exact back1_yzn a1 a2 a3 w l1 u1 l2 u2 l3 u3 hy hz hlt
    · by_cases hy : a2 % 65536 = 0 <;> by_cases hz : a3 % 65536 = 0
      · exact back2_0zz a1 a2 a3 w l1 u1 l2 u2 l3 u3 hy hz
      · exact back2_0zy a1 a2 a3 w l1 u1 l2 u2 l3 u3 hy hz (by omega)
      · exact back2_yzz a1 a2 a3 w l1 u1 l2 u2 l3 u3 hy hz
      · by_cases hlt : a2 % 65536 < a3 % 65536
        · exact back2_yzy a1 a2 a3 w l1 u1 l2 u2 l3 u3 hy hz hlt
        · exact back2_yzn a1 a2 a3 w l1 u1 l2 u2 l3 u3 hy hz hlt
    · by_cases hy : a2 % 4294967296 = 0 <;> by_cases hz : a3 % 4294967296 = 0
      · exact back4_0zz a1 a2 a3 w l1 u1 l2 u2 l3 u3 hy hz
      · exact back4_0zy a1 a2 a3 w l1 u1 l2 u2 l3 u3 hy hz (by omega)
      · exact back4_yzz a1 a2 a3 w l1 u1 l2 u2 l3 u3 hy hz
      · by_cases hlt : a2 % 4294967296 < a3 % 4294967296
        · exact back4_yzy a1 a2 a3 w l1 u1 l2 u2 l3 u3 hy hz hlt
        · exact back4_yzn a1 a2 a3 w l1 u1 l2 u2 l3 u3 hy hz hlt
end Go.Proofs.Ytecfkgnffhiemaa
