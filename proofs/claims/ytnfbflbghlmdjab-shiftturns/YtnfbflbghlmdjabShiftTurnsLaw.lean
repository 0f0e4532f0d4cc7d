/- The walk of the statement ShiftTurns: for every input within its kinds it returns true, and the world has at most new blocks. -/
import Derived.Test.YtnfbflbghlmdjabShiftAwake
import Derived.Test.YtnfbflbghlmdjabShiftFacts
namespace Go.Proofs.Ytnfbflbghlmdjab
open Go.ChangeShapes Go.WideShapes Go.ChangeAt Go.RowKit
set_option linter.unusedVariables false

theorem turns_eq {s H M : Int} {W : Nat} (hS : Sw s H M W) (a f : Int) {k : Nat} (k2 : k ≤ 31) :
    (k % W = 0 → shR 0 H M W a k f = a % M) ∧ (k % W ≠ 0 → shR 0 H M W a (k % W) f = shR 0 H M W a k f ∧ shR 1 H M W a (W - k % W) f = shR 0 H M W a k f) := by
  have p := hS.pow
  have hx := mod_bd (M := M) (by omega) a
  have x1 : a % M < ((2 ^ W : Nat) : Int) := by rw [← p.1]; exact hx.2
  have hl : k % W < W := Nat.mod_lt _ (by omega)
  refine ⟨fun h => ?_, fun h => ?_⟩
  · unfold shR
    split
    · rfl
    · exact turn_zero hx.1 x1 h
  · have hk : k ≠ 0 := fun e => h (by rw [e, Nat.zero_mod])
    unfold shR
    rw [if_neg h, if_neg hk, if_neg (by omega)]
    refine ⟨turn_mod W _ (Nat.mod_mod k W), turn_mod W (a % M) ?_⟩
    rw [show 4 * W - (W - k % W) = k % W + W * 3 by omega, Nat.add_mul_mod_self_left, Nat.mod_mod]

theorem sar_all {s H M : Int} {W : Nat} (hS : Sw s H M W) (a f : Int) (k : Nat) : shR 7 H M W a k f = sgv M H (a % M) / ((2 ^ k : Nat) : Int) % M := by
  have p := hS.pow
  have hx := mod_bd (M := M) (by omega) a
  unfold shR
  split
  · rename_i h
    subst h
    have : sgv M H (a % M) / ((2 ^ 0 : Nat) : Int) = sgv M H (a % M) := by simp
    rw [this]
    unfold sgv
    split
    · rw [Int.emod_eq_of_lt hx.1 hx.2]
    · rw [Int.sub_emod_right, Int.emod_eq_of_lt hx.1 hx.2]
  · rfl

set_option maxRecDepth 20000 in
set_option maxHeartbeats 2000000 in
theorem turns_8_zt (a1 a2 a3 : Int) (k : Nat) (w : World) (x0 : 0 ≤ a1) (x1 : a1 < 4294967296) (z0 : 0 ≤ a2) (f0 : 0 ≤ a3) (f1 : a3 < 4294967296) (hk : a2 % 32 = (k : Int)) (k2 : k ≤ 31) (hz : (k : Int) % 8 = 0) (ht : 128 ≤ a1 % 256) :
    Calls Try.prog 3 #[.int .i64 1, .int .u32 a1, .int .u32 a2, .int .u32 a3] w fun e w' => e = .returned (.bool true) ∧ Grown w w' := by
  have hS : Sw 1 128 256 8 := Or.inl ⟨rfl, rfl, rfl, rfl⟩
  have T := turns_eq hS a1 a3 k2
  have e0 : shR 5 128 256 8 a1 0 a3 = a1 % 256 := by unfold shR; rw [if_pos rfl]
  have m0 : 0 ≤ a1 % 256 := by omega
  have m1 : a1 % 256 < 256 := by omega
  have e1 : shR 0 128 256 8 a1 k a3 = a1 % 256 := T.1 (by omega)
  have e2 : shR 0 128 256 8 a1 0 a3 = a1 % 256 := by unfold shR; rw [if_pos rfl]
  have E7 : Hid (IntKind.u64.wrap ((a1 % 256 - 256) / 2 ^ k) % 256 = shR 7 128 256 8 a1 k a3) := (by
    rw [sar_all hS]
    unfold sgv
    rw [if_neg (by omega)]
    rw [pw_cast, wrap_u64']
    omega : IntKind.u64.wrap ((a1 % 256 - 256) / 2 ^ k) % 256 = shR 7 128 256 8 a1 k a3)
  have e7 := E7.out
  have e7t : (IntKind.u64.wrap ((a1 % 256 - 256) / 2 ^ k)).tmod 256 = shR 7 128 256 8 a1 k a3 := by rw [Int.tmod_eq_emod_of_nonneg (by rw [wrap_u64']; omega)]; exact e7
  have s7 := shR_lt hS 7 a1 k a3
  have s0 := s7.1
  have s1 := s7.2
  have ht2 : (a1 % 256 / 128 == 1) = true := by simp; omega
  clear T E7 s7
  go_enter Try.func3, Try.ntmps3
  go_wp2_with fail
  refine (awake_any _).mono ?_; rintro e w1 ⟨rfl, h1⟩
  go_wp2_with fail
  refine (Do_ok hS _ _ _ _ 0 _ (by decide) (by decide) x0 x1 (by decide) (by decide) f0 f1 (by decide)).mono ?_; rintro e w2 ⟨rfl, h2⟩
  go_wp2_with fail
  refine (Do_ok hS _ _ _ _ k _ (by decide) (by decide) x0 x1 (by omega) (by omega) f0 f1 (by omega)).mono ?_; rintro e w3 ⟨rfl, h3⟩
  go_wp2_with fail
  refine (Do_ok hS _ _ _ _ 0 _ (by decide) (by decide) x0 x1 (by omega) (by omega) f0 f1 (by omega)).mono ?_; rintro e w4 ⟨rfl, h4⟩
  go_wp2_with fail
  refine (Do_ok hS _ _ _ _ 8 _ (by decide) (by decide) x0 x1 (by omega) (by omega) f0 f1 (by omega)).mono ?_; rintro e w5 ⟨rfl, h5⟩
  go_wp2_with fail
  refine (Do_ok hS _ _ _ _ k _ (by decide) (by decide) x0 x1 (by omega) (by omega) f0 f1 (by omega)).mono ?_; rintro e w6 ⟨rfl, h6⟩
  go_wp2
  go_ret
  exact ⟨rfl, Grown.trans h1 (Grown.trans h2 (Grown.trans h3 (Grown.trans h4 (Grown.trans h5 h6))))⟩

set_option maxRecDepth 20000 in
set_option maxHeartbeats 2000000 in
theorem turns_8_zl (a1 a2 a3 : Int) (k : Nat) (w : World) (x0 : 0 ≤ a1) (x1 : a1 < 4294967296) (z0 : 0 ≤ a2) (f0 : 0 ≤ a3) (f1 : a3 < 4294967296) (hk : a2 % 32 = (k : Int)) (k2 : k ≤ 31) (hz : (k : Int) % 8 = 0) (ht : a1 % 256 < 128) :
    Calls Try.prog 3 #[.int .i64 1, .int .u32 a1, .int .u32 a2, .int .u32 a3] w fun e w' => e = .returned (.bool true) ∧ Grown w w' := by
  have hS : Sw 1 128 256 8 := Or.inl ⟨rfl, rfl, rfl, rfl⟩
  have T := turns_eq hS a1 a3 k2
  have e0 : shR 5 128 256 8 a1 0 a3 = a1 % 256 := by unfold shR; rw [if_pos rfl]
  have m0 : 0 ≤ a1 % 256 := by omega
  have m1 : a1 % 256 < 256 := by omega
  have e1 : shR 0 128 256 8 a1 k a3 = a1 % 256 := T.1 (by omega)
  have e2 : shR 0 128 256 8 a1 0 a3 = a1 % 256 := by unfold shR; rw [if_pos rfl]
  have E7 : Hid (IntKind.u64.wrap ((a1 % 256) / 2 ^ k) % 256 = shR 7 128 256 8 a1 k a3) := (by
    rw [sar_all hS]
    unfold sgv
    rw [if_pos ht]
    rw [pw_cast, wrap_u64']
    omega : IntKind.u64.wrap ((a1 % 256) / 2 ^ k) % 256 = shR 7 128 256 8 a1 k a3)
  have e7 := E7.out
  have e7t : (IntKind.u64.wrap ((a1 % 256) / 2 ^ k)).tmod 256 = shR 7 128 256 8 a1 k a3 := by rw [Int.tmod_eq_emod_of_nonneg (by rw [wrap_u64']; omega)]; exact e7
  have s7 := shR_lt hS 7 a1 k a3
  have s0 := s7.1
  have s1 := s7.2
  have ht2 : (a1 % 256 / 128 == 1) = false := by simp; omega
  clear T E7 s7
  go_enter Try.func3, Try.ntmps3
  go_wp2_with fail
  refine (awake_any _).mono ?_; rintro e w1 ⟨rfl, h1⟩
  go_wp2_with fail
  refine (Do_ok hS _ _ _ _ 0 _ (by decide) (by decide) x0 x1 (by decide) (by decide) f0 f1 (by decide)).mono ?_; rintro e w2 ⟨rfl, h2⟩
  go_wp2_with fail
  refine (Do_ok hS _ _ _ _ k _ (by decide) (by decide) x0 x1 (by omega) (by omega) f0 f1 (by omega)).mono ?_; rintro e w3 ⟨rfl, h3⟩
  go_wp2_with fail
  refine (Do_ok hS _ _ _ _ 0 _ (by decide) (by decide) x0 x1 (by omega) (by omega) f0 f1 (by omega)).mono ?_; rintro e w4 ⟨rfl, h4⟩
  go_wp2_with fail
  refine (Do_ok hS _ _ _ _ 8 _ (by decide) (by decide) x0 x1 (by omega) (by omega) f0 f1 (by omega)).mono ?_; rintro e w5 ⟨rfl, h5⟩
  go_wp2_with fail
  refine (Do_ok hS _ _ _ _ k _ (by decide) (by decide) x0 x1 (by omega) (by omega) f0 f1 (by omega)).mono ?_; rintro e w6 ⟨rfl, h6⟩
  go_wp2
  go_ret
  exact ⟨rfl, Grown.trans h1 (Grown.trans h2 (Grown.trans h3 (Grown.trans h4 (Grown.trans h5 h6))))⟩

set_option maxRecDepth 20000 in
set_option maxHeartbeats 2000000 in
theorem turns_8_nt (a1 a2 a3 : Int) (k : Nat) (w : World) (x0 : 0 ≤ a1) (x1 : a1 < 4294967296) (z0 : 0 ≤ a2) (f0 : 0 ≤ a3) (f1 : a3 < 4294967296) (hk : a2 % 32 = (k : Int)) (k2 : k ≤ 31) (hz : ((k : Int) % 8 == 0) = false) (ht : 128 ≤ a1 % 256) :
    Calls Try.prog 3 #[.int .i64 1, .int .u32 a1, .int .u32 a2, .int .u32 a3] w fun e w' => e = .returned (.bool true) ∧ Grown w w' := by
  have hS : Sw 1 128 256 8 := Or.inl ⟨rfl, rfl, rfl, rfl⟩
  have T := turns_eq hS a1 a3 k2
  have e0 : shR 5 128 256 8 a1 0 a3 = a1 % 256 := by unfold shR; rw [if_pos rfl]
  have m0 : 0 ≤ a1 % 256 := by omega
  have m1 : a1 % 256 < 256 := by omega
  have hn : k % 8 ≠ 0 := by simp at hz; omega
  have e1 := (T.2 hn).1
  have e2 := (T.2 hn).2
  have kp : 1 ≤ k := by omega
  clear hn
  have E7 : Hid (IntKind.u64.wrap ((a1 % 256 - 256) / 2 ^ k) % 256 = shR 7 128 256 8 a1 k a3) := (by
    rw [sar_all hS]
    unfold sgv
    rw [if_neg (by omega)]
    rw [pw_cast, wrap_u64']
    omega : IntKind.u64.wrap ((a1 % 256 - 256) / 2 ^ k) % 256 = shR 7 128 256 8 a1 k a3)
  have e7 := E7.out
  have e7t : (IntKind.u64.wrap ((a1 % 256 - 256) / 2 ^ k)).tmod 256 = shR 7 128 256 8 a1 k a3 := by rw [Int.tmod_eq_emod_of_nonneg (by rw [wrap_u64']; omega)]; exact e7
  have s7 := shR_lt hS 7 a1 k a3
  have s0 := s7.1
  have s1 := s7.2
  have ht2 : (a1 % 256 / 128 == 1) = true := by simp; omega
  clear T E7 s7
  go_enter Try.func3, Try.ntmps3
  go_wp2_with fail
  refine (awake_any _).mono ?_; rintro e w1 ⟨rfl, h1⟩
  go_wp2_with fail
  refine (Do_ok hS _ _ _ _ 0 _ (by decide) (by decide) x0 x1 (by decide) (by decide) f0 f1 (by decide)).mono ?_; rintro e w2 ⟨rfl, h2⟩
  go_wp2_with fail
  refine (Do_ok hS _ _ _ _ k _ (by decide) (by decide) x0 x1 (by omega) (by omega) f0 f1 (by omega)).mono ?_; rintro e w3 ⟨rfl, h3⟩
  go_wp2_with fail
  refine (Do_ok hS _ _ _ _ (k % 8) _ (by decide) (by decide) x0 x1 (by omega) (by omega) f0 f1 (by omega)).mono ?_; rintro e w4 ⟨rfl, h4⟩
  go_wp2_with fail
  refine (Do_ok hS _ _ _ _ (8 - k % 8) _ (by decide) (by decide) x0 x1 (by omega) (by omega) f0 f1 (by omega)).mono ?_; rintro e w5 ⟨rfl, h5⟩
  go_wp2_with fail
  refine (Do_ok hS _ _ _ _ k _ (by decide) (by decide) x0 x1 (by omega) (by omega) f0 f1 (by omega)).mono ?_; rintro e w6 ⟨rfl, h6⟩
  go_wp2
  go_ret
  exact ⟨rfl, Grown.trans h1 (Grown.trans h2 (Grown.trans h3 (Grown.trans h4 (Grown.trans h5 h6))))⟩

set_option maxRecDepth 20000 in
set_option maxHeartbeats 2000000 in
theorem turns_8_nl (a1 a2 a3 : Int) (k : Nat) (w : World) (x0 : 0 ≤ a1) (x1 : a1 < 4294967296) (z0 : 0 ≤ a2) (f0 : 0 ≤ a3) (f1 : a3 < 4294967296) (hk : a2 % 32 = (k : Int)) (k2 : k ≤ 31) (hz : ((k : Int) % 8 == 0) = false) (ht : a1 % 256 < 128) :
    Calls Try.prog 3 #[.int .i64 1, .int .u32 a1, .int .u32 a2, .int .u32 a3] w fun e w' => e = .returned (.bool true) ∧ Grown w w' := by
  have hS : Sw 1 128 256 8 := Or.inl ⟨rfl, rfl, rfl, rfl⟩
  have T := turns_eq hS a1 a3 k2
  have e0 : shR 5 128 256 8 a1 0 a3 = a1 % 256 := by unfold shR; rw [if_pos rfl]
  have m0 : 0 ≤ a1 % 256 := by omega
  have m1 : a1 % 256 < 256 := by omega
  have hn : k % 8 ≠ 0 := by simp at hz; omega
  have e1 := (T.2 hn).1
  have e2 := (T.2 hn).2
  have kp : 1 ≤ k := by omega
  clear hn
  have E7 : Hid (IntKind.u64.wrap ((a1 % 256) / 2 ^ k) % 256 = shR 7 128 256 8 a1 k a3) := (by
    rw [sar_all hS]
    unfold sgv
    rw [if_pos ht]
    rw [pw_cast, wrap_u64']
    omega : IntKind.u64.wrap ((a1 % 256) / 2 ^ k) % 256 = shR 7 128 256 8 a1 k a3)
  have e7 := E7.out
  have e7t : (IntKind.u64.wrap ((a1 % 256) / 2 ^ k)).tmod 256 = shR 7 128 256 8 a1 k a3 := by rw [Int.tmod_eq_emod_of_nonneg (by rw [wrap_u64']; omega)]; exact e7
  have s7 := shR_lt hS 7 a1 k a3
  have s0 := s7.1
  have s1 := s7.2
  have ht2 : (a1 % 256 / 128 == 1) = false := by simp; omega
  clear T E7 s7
  go_enter Try.func3, Try.ntmps3
  go_wp2_with fail
  refine (awake_any _).mono ?_; rintro e w1 ⟨rfl, h1⟩
  go_wp2_with fail
  refine (Do_ok hS _ _ _ _ 0 _ (by decide) (by decide) x0 x1 (by decide) (by decide) f0 f1 (by decide)).mono ?_; rintro e w2 ⟨rfl, h2⟩
  go_wp2_with fail
  refine (Do_ok hS _ _ _ _ k _ (by decide) (by decide) x0 x1 (by omega) (by omega) f0 f1 (by omega)).mono ?_; rintro e w3 ⟨rfl, h3⟩
  go_wp2_with fail
  refine (Do_ok hS _ _ _ _ (k % 8) _ (by decide) (by decide) x0 x1 (by omega) (by omega) f0 f1 (by omega)).mono ?_; rintro e w4 ⟨rfl, h4⟩
  go_wp2_with fail
  refine (Do_ok hS _ _ _ _ (8 - k % 8) _ (by decide) (by decide) x0 x1 (by omega) (by omega) f0 f1 (by omega)).mono ?_; rintro e w5 ⟨rfl, h5⟩
  go_wp2_with fail
  refine (Do_ok hS _ _ _ _ k _ (by decide) (by decide) x0 x1 (by omega) (by omega) f0 f1 (by omega)).mono ?_; rintro e w6 ⟨rfl, h6⟩
  go_wp2
  go_ret
  exact ⟨rfl, Grown.trans h1 (Grown.trans h2 (Grown.trans h3 (Grown.trans h4 (Grown.trans h5 h6))))⟩

set_option maxRecDepth 20000 in
set_option maxHeartbeats 2000000 in
theorem turns_16_zt (a1 a2 a3 : Int) (k : Nat) (w : World) (x0 : 0 ≤ a1) (x1 : a1 < 4294967296) (z0 : 0 ≤ a2) (f0 : 0 ≤ a3) (f1 : a3 < 4294967296) (hk : a2 % 32 = (k : Int)) (k2 : k ≤ 31) (hz : (k : Int) % 16 = 0) (ht : 32768 ≤ a1 % 65536) :
    Calls Try.prog 3 #[.int .i64 2, .int .u32 a1, .int .u32 a2, .int .u32 a3] w fun e w' => e = .returned (.bool true) ∧ Grown w w' := by
  have hS : Sw 2 32768 65536 16 := Or.inr (Or.inl ⟨rfl, rfl, rfl, rfl⟩)
  have T := turns_eq hS a1 a3 k2
  have e0 : shR 5 32768 65536 16 a1 0 a3 = a1 % 65536 := by unfold shR; rw [if_pos rfl]
  have m0 : 0 ≤ a1 % 65536 := by omega
  have m1 : a1 % 65536 < 65536 := by omega
  have e1 : shR 0 32768 65536 16 a1 k a3 = a1 % 65536 := T.1 (by omega)
  have e2 : shR 0 32768 65536 16 a1 0 a3 = a1 % 65536 := by unfold shR; rw [if_pos rfl]
  have E7 : Hid (IntKind.u64.wrap ((a1 % 65536 - 65536) / 2 ^ k) % 65536 = shR 7 32768 65536 16 a1 k a3) := (by
    rw [sar_all hS]
    unfold sgv
    rw [if_neg (by omega)]
    rw [pw_cast, wrap_u64']
    omega : IntKind.u64.wrap ((a1 % 65536 - 65536) / 2 ^ k) % 65536 = shR 7 32768 65536 16 a1 k a3)
  have e7 := E7.out
  have e7t : (IntKind.u64.wrap ((a1 % 65536 - 65536) / 2 ^ k)).tmod 65536 = shR 7 32768 65536 16 a1 k a3 := by rw [Int.tmod_eq_emod_of_nonneg (by rw [wrap_u64']; omega)]; exact e7
  have s7 := shR_lt hS 7 a1 k a3
  have s0 := s7.1
  have s1 := s7.2
  have ht2 : (a1 % 65536 / 32768 == 1) = true := by simp; omega
  clear T E7 s7
  go_enter Try.func3, Try.ntmps3
  go_wp2_with fail
  refine (awake_any _).mono ?_; rintro e w1 ⟨rfl, h1⟩
  go_wp2_with fail
  refine (Do_ok hS _ _ _ _ 0 _ (by decide) (by decide) x0 x1 (by decide) (by decide) f0 f1 (by decide)).mono ?_; rintro e w2 ⟨rfl, h2⟩
  go_wp2_with fail
  refine (Do_ok hS _ _ _ _ k _ (by decide) (by decide) x0 x1 (by omega) (by omega) f0 f1 (by omega)).mono ?_; rintro e w3 ⟨rfl, h3⟩
  go_wp2_with fail
  refine (Do_ok hS _ _ _ _ 0 _ (by decide) (by decide) x0 x1 (by omega) (by omega) f0 f1 (by omega)).mono ?_; rintro e w4 ⟨rfl, h4⟩
  go_wp2_with fail
  refine (Do_ok hS _ _ _ _ 16 _ (by decide) (by decide) x0 x1 (by omega) (by omega) f0 f1 (by omega)).mono ?_; rintro e w5 ⟨rfl, h5⟩
  go_wp2_with fail
  refine (Do_ok hS _ _ _ _ k _ (by decide) (by decide) x0 x1 (by omega) (by omega) f0 f1 (by omega)).mono ?_; rintro e w6 ⟨rfl, h6⟩
  go_wp2
  go_ret
  exact ⟨rfl, Grown.trans h1 (Grown.trans h2 (Grown.trans h3 (Grown.trans h4 (Grown.trans h5 h6))))⟩

set_option maxRecDepth 20000 in
set_option maxHeartbeats 2000000 in
theorem turns_16_zl (a1 a2 a3 : Int) (k : Nat) (w : World) (x0 : 0 ≤ a1) (x1 : a1 < 4294967296) (z0 : 0 ≤ a2) (f0 : 0 ≤ a3) (f1 : a3 < 4294967296) (hk : a2 % 32 = (k : Int)) (k2 : k ≤ 31) (hz : (k : Int) % 16 = 0) (ht : a1 % 65536 < 32768) :
    Calls Try.prog 3 #[.int .i64 2, .int .u32 a1, .int .u32 a2, .int .u32 a3] w fun e w' => e = .returned (.bool true) ∧ Grown w w' := by
  have hS : Sw 2 32768 65536 16 := Or.inr (Or.inl ⟨rfl, rfl, rfl, rfl⟩)
  have T := turns_eq hS a1 a3 k2
  have e0 : shR 5 32768 65536 16 a1 0 a3 = a1 % 65536 := by unfold shR; rw [if_pos rfl]
  have m0 : 0 ≤ a1 % 65536 := by omega
  have m1 : a1 % 65536 < 65536 := by omega
  have e1 : shR 0 32768 65536 16 a1 k a3 = a1 % 65536 := T.1 (by omega)
  have e2 : shR 0 32768 65536 16 a1 0 a3 = a1 % 65536 := by unfold shR; rw [if_pos rfl]
  have E7 : Hid (IntKind.u64.wrap ((a1 % 65536) / 2 ^ k) % 65536 = shR 7 32768 65536 16 a1 k a3) := (by
    rw [sar_all hS]
    unfold sgv
    rw [if_pos ht]
    rw [pw_cast, wrap_u64']
    omega : IntKind.u64.wrap ((a1 % 65536) / 2 ^ k) % 65536 = shR 7 32768 65536 16 a1 k a3)
  have e7 := E7.out
  have e7t : (IntKind.u64.wrap ((a1 % 65536) / 2 ^ k)).tmod 65536 = shR 7 32768 65536 16 a1 k a3 := by rw [Int.tmod_eq_emod_of_nonneg (by rw [wrap_u64']; omega)]; exact e7
  have s7 := shR_lt hS 7 a1 k a3
  have s0 := s7.1
  have s1 := s7.2
  have ht2 : (a1 % 65536 / 32768 == 1) = false := by simp; omega
  clear T E7 s7
  go_enter Try.func3, Try.ntmps3
  go_wp2_with fail
  refine (awake_any _).mono ?_; rintro e w1 ⟨rfl, h1⟩
  go_wp2_with fail
  refine (Do_ok hS _ _ _ _ 0 _ (by decide) (by decide) x0 x1 (by decide) (by decide) f0 f1 (by decide)).mono ?_; rintro e w2 ⟨rfl, h2⟩
  go_wp2_with fail
  refine (Do_ok hS _ _ _ _ k _ (by decide) (by decide) x0 x1 (by omega) (by omega) f0 f1 (by omega)).mono ?_; rintro e w3 ⟨rfl, h3⟩
  go_wp2_with fail
  refine (Do_ok hS _ _ _ _ 0 _ (by decide) (by decide) x0 x1 (by omega) (by omega) f0 f1 (by omega)).mono ?_; rintro e w4 ⟨rfl, h4⟩
  go_wp2_with fail
  refine (Do_ok hS _ _ _ _ 16 _ (by decide) (by decide) x0 x1 (by omega) (by omega) f0 f1 (by omega)).mono ?_; rintro e w5 ⟨rfl, h5⟩
  go_wp2_with fail
  refine (Do_ok hS _ _ _ _ k _ (by decide) (by decide) x0 x1 (by omega) (by omega) f0 f1 (by omega)).mono ?_; rintro e w6 ⟨rfl, h6⟩
  go_wp2
  go_ret
  exact ⟨rfl, Grown.trans h1 (Grown.trans h2 (Grown.trans h3 (Grown.trans h4 (Grown.trans h5 h6))))⟩

set_option maxRecDepth 20000 in
set_option maxHeartbeats 2000000 in
theorem turns_16_nt (a1 a2 a3 : Int) (k : Nat) (w : World) (x0 : 0 ≤ a1) (x1 : a1 < 4294967296) (z0 : 0 ≤ a2) (f0 : 0 ≤ a3) (f1 : a3 < 4294967296) (hk : a2 % 32 = (k : Int)) (k2 : k ≤ 31) (hz : ((k : Int) % 16 == 0) = false) (ht : 32768 ≤ a1 % 65536) :
    Calls Try.prog 3 #[.int .i64 2, .int .u32 a1, .int .u32 a2, .int .u32 a3] w fun e w' => e = .returned (.bool true) ∧ Grown w w' := by
  have hS : Sw 2 32768 65536 16 := Or.inr (Or.inl ⟨rfl, rfl, rfl, rfl⟩)
  have T := turns_eq hS a1 a3 k2
  have e0 : shR 5 32768 65536 16 a1 0 a3 = a1 % 65536 := by unfold shR; rw [if_pos rfl]
  have m0 : 0 ≤ a1 % 65536 := by omega
  have m1 : a1 % 65536 < 65536 := by omega
  have hn : k % 16 ≠ 0 := by simp at hz; omega
  have e1 := (T.2 hn).1
  have e2 := (T.2 hn).2
  have kp : 1 ≤ k := by omega
  clear hn
  have E7 : Hid (IntKind.u64.wrap ((a1 % 65536 - 65536) / 2 ^ k) % 65536 = shR 7 32768 65536 16 a1 k a3) := (by
    rw [sar_all hS]
    unfold sgv
    rw [if_neg (by omega)]
    rw [pw_cast, wrap_u64']
    omega : IntKind.u64.wrap ((a1 % 65536 - 65536) / 2 ^ k) % 65536 = shR 7 32768 65536 16 a1 k a3)
  have e7 := E7.out
  have e7t : (IntKind.u64.wrap ((a1 % 65536 - 65536) / 2 ^ k)).tmod 65536 = shR 7 32768 65536 16 a1 k a3 := by rw [Int.tmod_eq_emod_of_nonneg (by rw [wrap_u64']; omega)]; exact e7
  have s7 := shR_lt hS 7 a1 k a3
  have s0 := s7.1
  have s1 := s7.2
  have ht2 : (a1 % 65536 / 32768 == 1) = true := by simp; omega
  clear T E7 s7
  go_enter Try.func3, Try.ntmps3
  go_wp2_with fail
  refine (awake_any _).mono ?_; rintro e w1 ⟨rfl, h1⟩
  go_wp2_with fail
  refine (Do_ok hS _ _ _ _ 0 _ (by decide) (by decide) x0 x1 (by decide) (by decide) f0 f1 (by decide)).mono ?_; rintro e w2 ⟨rfl, h2⟩
  go_wp2_with fail
  refine (Do_ok hS _ _ _ _ k _ (by decide) (by decide) x0 x1 (by omega) (by omega) f0 f1 (by omega)).mono ?_; rintro e w3 ⟨rfl, h3⟩
  go_wp2_with fail
  refine (Do_ok hS _ _ _ _ (k % 16) _ (by decide) (by decide) x0 x1 (by omega) (by omega) f0 f1 (by omega)).mono ?_; rintro e w4 ⟨rfl, h4⟩
  go_wp2_with fail
  refine (Do_ok hS _ _ _ _ (16 - k % 16) _ (by decide) (by decide) x0 x1 (by omega) (by omega) f0 f1 (by omega)).mono ?_; rintro e w5 ⟨rfl, h5⟩
  go_wp2_with fail
  refine (Do_ok hS _ _ _ _ k _ (by decide) (by decide) x0 x1 (by omega) (by omega) f0 f1 (by omega)).mono ?_; rintro e w6 ⟨rfl, h6⟩
  go_wp2
  go_ret
  exact ⟨rfl, Grown.trans h1 (Grown.trans h2 (Grown.trans h3 (Grown.trans h4 (Grown.trans h5 h6))))⟩

set_option maxRecDepth 20000 in
set_option maxHeartbeats 2000000 in
theorem turns_16_nl (a1 a2 a3 : Int) (k : Nat) (w : World) (x0 : 0 ≤ a1) (x1 : a1 < 4294967296) (z0 : 0 ≤ a2) (f0 : 0 ≤ a3) (f1 : a3 < 4294967296) (hk : a2 % 32 = (k : Int)) (k2 : k ≤ 31) (hz : ((k : Int) % 16 == 0) = false) (ht : a1 % 65536 < 32768) :
    Calls Try.prog 3 #[.int .i64 2, .int .u32 a1, .int .u32 a2, .int .u32 a3] w fun e w' => e = .returned (.bool true) ∧ Grown w w' := by
  have hS : Sw 2 32768 65536 16 := Or.inr (Or.inl ⟨rfl, rfl, rfl, rfl⟩)
  have T := turns_eq hS a1 a3 k2
  have e0 : shR 5 32768 65536 16 a1 0 a3 = a1 % 65536 := by unfold shR; rw [if_pos rfl]
  have m0 : 0 ≤ a1 % 65536 := by omega
  have m1 : a1 % 65536 < 65536 := by omega
  have hn : k % 16 ≠ 0 := by simp at hz; omega
  have e1 := (T.2 hn).1
  have e2 := (T.2 hn).2
  have kp : 1 ≤ k := by omega
  clear hn
  have E7 : Hid (IntKind.u64.wrap ((a1 % 65536) / 2 ^ k) % 65536 = shR 7 32768 65536 16 a1 k a3) := (by
    rw [sar_all hS]
    unfold sgv
    rw [if_pos ht]
    rw [pw_cast, wrap_u64']
    omega : IntKind.u64.wrap ((a1 % 65536) / 2 ^ k) % 65536 = shR 7 32768 65536 16 a1 k a3)
  have e7 := E7.out
  have e7t : (IntKind.u64.wrap ((a1 % 65536) / 2 ^ k)).tmod 65536 = shR 7 32768 65536 16 a1 k a3 := by rw [Int.tmod_eq_emod_of_nonneg (by rw [wrap_u64']; omega)]; exact e7
  have s7 := shR_lt hS 7 a1 k a3
  have s0 := s7.1
  have s1 := s7.2
  have ht2 : (a1 % 65536 / 32768 == 1) = false := by simp; omega
  clear T E7 s7
  go_enter Try.func3, Try.ntmps3
  go_wp2_with fail
  refine (awake_any _).mono ?_; rintro e w1 ⟨rfl, h1⟩
  go_wp2_with fail
  refine (Do_ok hS _ _ _ _ 0 _ (by decide) (by decide) x0 x1 (by decide) (by decide) f0 f1 (by decide)).mono ?_; rintro e w2 ⟨rfl, h2⟩
  go_wp2_with fail
  refine (Do_ok hS _ _ _ _ k _ (by decide) (by decide) x0 x1 (by omega) (by omega) f0 f1 (by omega)).mono ?_; rintro e w3 ⟨rfl, h3⟩
  go_wp2_with fail
  refine (Do_ok hS _ _ _ _ (k % 16) _ (by decide) (by decide) x0 x1 (by omega) (by omega) f0 f1 (by omega)).mono ?_; rintro e w4 ⟨rfl, h4⟩
  go_wp2_with fail
  refine (Do_ok hS _ _ _ _ (16 - k % 16) _ (by decide) (by decide) x0 x1 (by omega) (by omega) f0 f1 (by omega)).mono ?_; rintro e w5 ⟨rfl, h5⟩
  go_wp2_with fail
  refine (Do_ok hS _ _ _ _ k _ (by decide) (by decide) x0 x1 (by omega) (by omega) f0 f1 (by omega)).mono ?_; rintro e w6 ⟨rfl, h6⟩
  go_wp2
  go_ret
  exact ⟨rfl, Grown.trans h1 (Grown.trans h2 (Grown.trans h3 (Grown.trans h4 (Grown.trans h5 h6))))⟩

set_option maxRecDepth 20000 in
set_option maxHeartbeats 2000000 in
theorem turns_32_zt (a1 a2 a3 : Int) (k : Nat) (w : World) (x0 : 0 ≤ a1) (x1 : a1 < 4294967296) (z0 : 0 ≤ a2) (f0 : 0 ≤ a3) (f1 : a3 < 4294967296) (hk : a2 % 32 = (k : Int)) (k2 : k ≤ 31) (hz : (k : Int) % 32 = 0) (ht : 2147483648 ≤ a1 % 4294967296) :
    Calls Try.prog 3 #[.int .i64 4, .int .u32 a1, .int .u32 a2, .int .u32 a3] w fun e w' => e = .returned (.bool true) ∧ Grown w w' := by
  have hS : Sw 4 2147483648 4294967296 32 := Or.inr (Or.inr ⟨rfl, rfl, rfl, rfl⟩)
  have T := turns_eq hS a1 a3 k2
  have e0 : shR 5 2147483648 4294967296 32 a1 0 a3 = a1 % 4294967296 := by unfold shR; rw [if_pos rfl]
  have m0 : 0 ≤ a1 % 4294967296 := by omega
  have m1 : a1 % 4294967296 < 4294967296 := by omega
  have e1 : shR 0 2147483648 4294967296 32 a1 k a3 = a1 % 4294967296 := T.1 (by omega)
  have e2 : shR 0 2147483648 4294967296 32 a1 0 a3 = a1 % 4294967296 := by unfold shR; rw [if_pos rfl]
  have E7 : Hid (IntKind.u64.wrap ((a1 % 4294967296 - 4294967296) / 2 ^ k) % 4294967296 = shR 7 2147483648 4294967296 32 a1 k a3) := (by
    rw [sar_all hS]
    unfold sgv
    rw [if_neg (by omega)]
    rw [pw_cast, wrap_u64']
    omega : IntKind.u64.wrap ((a1 % 4294967296 - 4294967296) / 2 ^ k) % 4294967296 = shR 7 2147483648 4294967296 32 a1 k a3)
  have e7 := E7.out
  have e7t : (IntKind.u64.wrap ((a1 % 4294967296 - 4294967296) / 2 ^ k)).tmod 4294967296 = shR 7 2147483648 4294967296 32 a1 k a3 := by rw [Int.tmod_eq_emod_of_nonneg (by rw [wrap_u64']; omega)]; exact e7
  have s7 := shR_lt hS 7 a1 k a3
  have s0 := s7.1
  have s1 := s7.2
  have ht2 : (a1 % 4294967296 / 2147483648 == 1) = true := by simp; omega
  clear T E7 s7
  go_enter Try.func3, Try.ntmps3
  go_wp2_with fail
  refine (awake_any _).mono ?_; rintro e w1 ⟨rfl, h1⟩
  go_wp2_with fail
  refine (Do_ok hS _ _ _ _ 0 _ (by decide) (by decide) x0 x1 (by decide) (by decide) f0 f1 (by decide)).mono ?_; rintro e w2 ⟨rfl, h2⟩
  go_wp2_with fail
  refine (Do_ok hS _ _ _ _ k _ (by decide) (by decide) x0 x1 (by omega) (by omega) f0 f1 (by omega)).mono ?_; rintro e w3 ⟨rfl, h3⟩
  go_wp2_with fail
  refine (Do_ok hS _ _ _ _ 0 _ (by decide) (by decide) x0 x1 (by omega) (by omega) f0 f1 (by omega)).mono ?_; rintro e w4 ⟨rfl, h4⟩
  go_wp2_with fail
  refine (Do_ok hS _ _ _ _ 0 _ (by decide) (by decide) x0 x1 (by omega) (by omega) f0 f1 (by omega)).mono ?_; rintro e w5 ⟨rfl, h5⟩
  go_wp2_with fail
  refine (Do_ok hS _ _ _ _ k _ (by decide) (by decide) x0 x1 (by omega) (by omega) f0 f1 (by omega)).mono ?_; rintro e w6 ⟨rfl, h6⟩
  go_wp2
  go_ret
  exact ⟨rfl, Grown.trans h1 (Grown.trans h2 (Grown.trans h3 (Grown.trans h4 (Grown.trans h5 h6))))⟩

set_option maxRecDepth 20000 in
set_option maxHeartbeats 2000000 in
theorem turns_32_zl (a1 a2 a3 : Int) (k : Nat) (w : World) (x0 : 0 ≤ a1) (x1 : a1 < 4294967296) (z0 : 0 ≤ a2) (f0 : 0 ≤ a3) (f1 : a3 < 4294967296) (hk : a2 % 32 = (k : Int)) (k2 : k ≤ 31) (hz : (k : Int) % 32 = 0) (ht : a1 % 4294967296 < 2147483648) :
    Calls Try.prog 3 #[.int .i64 4, .int .u32 a1, .int .u32 a2, .int .u32 a3] w fun e w' => e = .returned (.bool true) ∧ Grown w w' := by
  have hS : Sw 4 2147483648 4294967296 32 := Or.inr (Or.inr ⟨rfl, rfl, rfl, rfl⟩)
  have T := turns_eq hS a1 a3 k2
  have e0 : shR 5 2147483648 4294967296 32 a1 0 a3 = a1 % 4294967296 := by unfold shR; rw [if_pos rfl]
  have m0 : 0 ≤ a1 % 4294967296 := by omega
  have m1 : a1 % 4294967296 < 4294967296 := by omega
  have e1 : shR 0 2147483648 4294967296 32 a1 k a3 = a1 % 4294967296 := T.1 (by omega)
  have e2 : shR 0 2147483648 4294967296 32 a1 0 a3 = a1 % 4294967296 := by unfold shR; rw [if_pos rfl]
  have E7 : Hid (IntKind.u64.wrap ((a1 % 4294967296) / 2 ^ k) % 4294967296 = shR 7 2147483648 4294967296 32 a1 k a3) := (by
    rw [sar_all hS]
    unfold sgv
    rw [if_pos ht]
    rw [pw_cast, wrap_u64']
    omega : IntKind.u64.wrap ((a1 % 4294967296) / 2 ^ k) % 4294967296 = shR 7 2147483648 4294967296 32 a1 k a3)
  have e7 := E7.out
  have e7t : (IntKind.u64.wrap ((a1 % 4294967296) / 2 ^ k)).tmod 4294967296 = shR 7 2147483648 4294967296 32 a1 k a3 := by rw [Int.tmod_eq_emod_of_nonneg (by rw [wrap_u64']; omega)]; exact e7
  have s7 := shR_lt hS 7 a1 k a3
  have s0 := s7.1
  have s1 := s7.2
  have ht2 : (a1 % 4294967296 / 2147483648 == 1) = false := by simp; omega
  clear T E7 s7
  go_enter Try.func3, Try.ntmps3
  go_wp2_with fail
  refine (awake_any _).mono ?_; rintro e w1 ⟨rfl, h1⟩
  go_wp2_with fail
  refine (Do_ok hS _ _ _ _ 0 _ (by decide) (by decide) x0 x1 (by decide) (by decide) f0 f1 (by decide)).mono ?_; rintro e w2 ⟨rfl, h2⟩
  go_wp2_with fail
  refine (Do_ok hS _ _ _ _ k _ (by decide) (by decide) x0 x1 (by omega) (by omega) f0 f1 (by omega)).mono ?_; rintro e w3 ⟨rfl, h3⟩
  go_wp2_with fail
  refine (Do_ok hS _ _ _ _ 0 _ (by decide) (by decide) x0 x1 (by omega) (by omega) f0 f1 (by omega)).mono ?_; rintro e w4 ⟨rfl, h4⟩
  go_wp2_with fail
  refine (Do_ok hS _ _ _ _ 0 _ (by decide) (by decide) x0 x1 (by omega) (by omega) f0 f1 (by omega)).mono ?_; rintro e w5 ⟨rfl, h5⟩
  go_wp2_with fail
  refine (Do_ok hS _ _ _ _ k _ (by decide) (by decide) x0 x1 (by omega) (by omega) f0 f1 (by omega)).mono ?_; rintro e w6 ⟨rfl, h6⟩
  go_wp2
  go_ret
  exact ⟨rfl, Grown.trans h1 (Grown.trans h2 (Grown.trans h3 (Grown.trans h4 (Grown.trans h5 h6))))⟩

set_option maxRecDepth 20000 in
set_option maxHeartbeats 2000000 in
theorem turns_32_nt (a1 a2 a3 : Int) (k : Nat) (w : World) (x0 : 0 ≤ a1) (x1 : a1 < 4294967296) (z0 : 0 ≤ a2) (f0 : 0 ≤ a3) (f1 : a3 < 4294967296) (hk : a2 % 32 = (k : Int)) (k2 : k ≤ 31) (hz : ((k : Int) % 32 == 0) = false) (ht : 2147483648 ≤ a1 % 4294967296) :
    Calls Try.prog 3 #[.int .i64 4, .int .u32 a1, .int .u32 a2, .int .u32 a3] w fun e w' => e = .returned (.bool true) ∧ Grown w w' := by
  have hS : Sw 4 2147483648 4294967296 32 := Or.inr (Or.inr ⟨rfl, rfl, rfl, rfl⟩)
  have T := turns_eq hS a1 a3 k2
  have e0 : shR 5 2147483648 4294967296 32 a1 0 a3 = a1 % 4294967296 := by unfold shR; rw [if_pos rfl]
  have m0 : 0 ≤ a1 % 4294967296 := by omega
  have m1 : a1 % 4294967296 < 4294967296 := by omega
  have hn : k % 32 ≠ 0 := by simp at hz; omega
  have e1 := (T.2 hn).1
  have e2 := (T.2 hn).2
  have kp : 1 ≤ k := by omega
  clear hn
  have E7 : Hid (IntKind.u64.wrap ((a1 % 4294967296 - 4294967296) / 2 ^ k) % 4294967296 = shR 7 2147483648 4294967296 32 a1 k a3) := (by
    rw [sar_all hS]
    unfold sgv
    rw [if_neg (by omega)]
    rw [pw_cast, wrap_u64']
    omega : IntKind.u64.wrap ((a1 % 4294967296 - 4294967296) / 2 ^ k) % 4294967296 = shR 7 2147483648 4294967296 32 a1 k a3)
  have e7 := E7.out
  have e7t : (IntKind.u64.wrap ((a1 % 4294967296 - 4294967296) / 2 ^ k)).tmod 4294967296 = shR 7 2147483648 4294967296 32 a1 k a3 := by rw [Int.tmod_eq_emod_of_nonneg (by rw [wrap_u64']; omega)]; exact e7
  have s7 := shR_lt hS 7 a1 k a3
  have s0 := s7.1
  have s1 := s7.2
  have ht2 : (a1 % 4294967296 / 2147483648 == 1) = true := by simp; omega
  clear T E7 s7
  go_enter Try.func3, Try.ntmps3
  go_wp2_with fail
  refine (awake_any _).mono ?_; rintro e w1 ⟨rfl, h1⟩
  go_wp2_with fail
  refine (Do_ok hS _ _ _ _ 0 _ (by decide) (by decide) x0 x1 (by decide) (by decide) f0 f1 (by decide)).mono ?_; rintro e w2 ⟨rfl, h2⟩
  go_wp2_with fail
  refine (Do_ok hS _ _ _ _ k _ (by decide) (by decide) x0 x1 (by omega) (by omega) f0 f1 (by omega)).mono ?_; rintro e w3 ⟨rfl, h3⟩
  go_wp2_with fail
  refine (Do_ok hS _ _ _ _ (k % 32) _ (by decide) (by decide) x0 x1 (by omega) (by omega) f0 f1 (by omega)).mono ?_; rintro e w4 ⟨rfl, h4⟩
  go_wp2_with fail
  refine (Do_ok hS _ _ _ _ (32 - k % 32) _ (by decide) (by decide) x0 x1 (by omega) (by omega) f0 f1 (by omega)).mono ?_; rintro e w5 ⟨rfl, h5⟩
  go_wp2_with fail
  refine (Do_ok hS _ _ _ _ k _ (by decide) (by decide) x0 x1 (by omega) (by omega) f0 f1 (by omega)).mono ?_; rintro e w6 ⟨rfl, h6⟩
  go_wp2
  go_ret
  exact ⟨rfl, Grown.trans h1 (Grown.trans h2 (Grown.trans h3 (Grown.trans h4 (Grown.trans h5 h6))))⟩

set_option maxRecDepth 20000 in
set_option maxHeartbeats 2000000 in
theorem turns_32_nl (a1 a2 a3 : Int) (k : Nat) (w : World) (x0 : 0 ≤ a1) (x1 : a1 < 4294967296) (z0 : 0 ≤ a2) (f0 : 0 ≤ a3) (f1 : a3 < 4294967296) (hk : a2 % 32 = (k : Int)) (k2 : k ≤ 31) (hz : ((k : Int) % 32 == 0) = false) (ht : a1 % 4294967296 < 2147483648) :
    Calls Try.prog 3 #[.int .i64 4, .int .u32 a1, .int .u32 a2, .int .u32 a3] w fun e w' => e = .returned (.bool true) ∧ Grown w w' := by
  have hS : Sw 4 2147483648 4294967296 32 := Or.inr (Or.inr ⟨rfl, rfl, rfl, rfl⟩)
  have T := turns_eq hS a1 a3 k2
  have e0 : shR 5 2147483648 4294967296 32 a1 0 a3 = a1 % 4294967296 := by unfold shR; rw [if_pos rfl]
  have m0 : 0 ≤ a1 % 4294967296 := by omega
  have m1 : a1 % 4294967296 < 4294967296 := by omega
  have hn : k % 32 ≠ 0 := by simp at hz; omega
  have e1 := (T.2 hn).1
  have e2 := (T.2 hn).2
  have kp : 1 ≤ k := by omega
  clear hn
  have E7 : Hid (IntKind.u64.wrap ((a1 % 4294967296) / 2 ^ k) % 4294967296 = shR 7 2147483648 4294967296 32 a1 k a3) := (by
    rw [sar_all hS]
    unfold sgv
    rw [if_pos ht]
    rw [pw_cast, wrap_u64']
    omega : IntKind.u64.wrap ((a1 % 4294967296) / 2 ^ k) % 4294967296 = shR 7 2147483648 4294967296 32 a1 k a3)
  have e7 := E7.out
  have e7t : (IntKind.u64.wrap ((a1 % 4294967296) / 2 ^ k)).tmod 4294967296 = shR 7 2147483648 4294967296 32 a1 k a3 := by rw [Int.tmod_eq_emod_of_nonneg (by rw [wrap_u64']; omega)]; exact e7
  have s7 := shR_lt hS 7 a1 k a3
  have s0 := s7.1
  have s1 := s7.2
  have ht2 : (a1 % 4294967296 / 2147483648 == 1) = false := by simp; omega
  clear T E7 s7
  go_enter Try.func3, Try.ntmps3
  go_wp2_with fail
  refine (awake_any _).mono ?_; rintro e w1 ⟨rfl, h1⟩
  go_wp2_with fail
  refine (Do_ok hS _ _ _ _ 0 _ (by decide) (by decide) x0 x1 (by decide) (by decide) f0 f1 (by decide)).mono ?_; rintro e w2 ⟨rfl, h2⟩
  go_wp2_with fail
  refine (Do_ok hS _ _ _ _ k _ (by decide) (by decide) x0 x1 (by omega) (by omega) f0 f1 (by omega)).mono ?_; rintro e w3 ⟨rfl, h3⟩
  go_wp2_with fail
  refine (Do_ok hS _ _ _ _ (k % 32) _ (by decide) (by decide) x0 x1 (by omega) (by omega) f0 f1 (by omega)).mono ?_; rintro e w4 ⟨rfl, h4⟩
  go_wp2_with fail
  refine (Do_ok hS _ _ _ _ (32 - k % 32) _ (by decide) (by decide) x0 x1 (by omega) (by omega) f0 f1 (by omega)).mono ?_; rintro e w5 ⟨rfl, h5⟩
  go_wp2_with fail
  refine (Do_ok hS _ _ _ _ k _ (by decide) (by decide) x0 x1 (by omega) (by omega) f0 f1 (by omega)).mono ?_; rintro e w6 ⟨rfl, h6⟩
  go_wp2
  go_ret
  exact ⟨rfl, Grown.trans h1 (Grown.trans h2 (Grown.trans h3 (Grown.trans h4 (Grown.trans h5 h6))))⟩

theorem turns_size (a0 a1 a2 a3 : Int) (w : World) (hk : okSize a0 = false) :
    Calls Try.prog 3 #[.int .i64 a0, .int .u32 a1, .int .u32 a2, .int .u32 a3] w fun e w' => e = .returned (.bool true) ∧ Grown w w' := by
  go_enter Try.func3, Try.ntmps3
  go_wp2_with fail
  refine (awake_any _).mono ?_; rintro e w1 ⟨rfl, h1⟩
  go_wp2_with fail
  refine (Do_size _ _ _ _ _ _ hk).mono ?_; rintro e w2 ⟨rfl, h2⟩
  go_wp2
  go_ret
  exact ⟨rfl, Grown.trans h1 h2⟩

theorem ShiftTurns_walk (a0 a1 a2 a3 : Int) (w0 : (Lit.int .i64 a0).wf = true) (w1 : (Lit.int .u32 a1).wf = true) (w2 : (Lit.int .u32 a2).wf = true) (w3 : (Lit.int .u32 a3).wf = true) (w : World) :
    Calls Try.prog 3 #[.int .i64 a0, .int .u32 a1, .int .u32 a2, .int .u32 a3] w fun e w' => e = .returned (.bool true) ∧ Grown w w' := by
  have b1 := bounds_u32 w1
  have b2 := bounds_u32 w2
  have b3 := bounds_u32 w3
  cases hk : okSize a0
  · exact turns_size a0 a1 a2 a3 w hk
  · unfold okSize at hk
    simp only [Bool.or_eq_true, beq_iff_eq] at hk
    have hn : a2 % 32 = (((a2 % 32).toNat : Nat) : Int) := by omega
    have k2 : (a2 % 32).toNat ≤ 31 := by omega
    generalize (a2 % 32).toNat = k at hn k2
    rcases hk with (rfl | rfl) | rfl
    · by_cases hz : (k : Int) % 8 = 0 <;> by_cases ht : 128 ≤ a1 % 256
      · exact turns_8_zt a1 a2 a3 k w b1.1 (by omega) b2.1 b3.1 (by omega) hn k2 hz ht
      · exact turns_8_zl a1 a2 a3 k w b1.1 (by omega) b2.1 b3.1 (by omega) hn k2 hz (by omega)
      · exact turns_8_nt a1 a2 a3 k w b1.1 (by omega) b2.1 b3.1 (by omega) hn k2 (by simpa using hz) ht
      · exact turns_8_nl a1 a2 a3 k w b1.1 (by omega) b2.1 b3.1 (by omega) hn k2 (by simpa using hz) (by omega)
    · by_cases hz : (k : Int) % 16 = 0 <;> by_cases ht : 32768 ≤ a1 % 65536
      · exact turns_16_zt a1 a2 a3 k w b1.1 (by omega) b2.1 b3.1 (by omega) hn k2 hz ht
      · exact turns_16_zl a1 a2 a3 k w b1.1 (by omega) b2.1 b3.1 (by omega) hn k2 hz (by omega)
      · exact turns_16_nt a1 a2 a3 k w b1.1 (by omega) b2.1 b3.1 (by omega) hn k2 (by simpa using hz) ht
      · exact turns_16_nl a1 a2 a3 k w b1.1 (by omega) b2.1 b3.1 (by omega) hn k2 (by simpa using hz) (by omega)
    · by_cases hz : (k : Int) % 32 = 0 <;> by_cases ht : 2147483648 ≤ a1 % 4294967296
      · exact turns_32_zt a1 a2 a3 k w b1.1 (by omega) b2.1 b3.1 (by omega) hn k2 hz ht
      · exact turns_32_zl a1 a2 a3 k w b1.1 (by omega) b2.1 b3.1 (by omega) hn k2 hz (by omega)
      · exact turns_32_nt a1 a2 a3 k w b1.1 (by omega) b2.1 b3.1 (by omega) hn k2 (by simpa using hz) ht
      · exact turns_32_nl a1 a2 a3 k w b1.1 (by omega) b2.1 b3.1 (by omega) hn k2 (by simpa using hz) (by omega)
end Go.Proofs.Ytnfbflbghlmdjab
