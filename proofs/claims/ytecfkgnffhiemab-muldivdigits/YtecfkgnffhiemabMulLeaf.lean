/- Contracts of the small functions of package muldiv: for every input within their kinds they return what is named, and the world has the blocks that are named. -/
import Derived.Test.YtecfkgnffhiemabBase
import Derived.Test.YtecfkgnffhiemabShiftSpec
import Derived.Test.YtecfkgnffhiemabMulMath
namespace Go.Proofs.Ytecfkgnffhiemab
open Go.ChangeShapes Go.WideShapes Go.ChangeAt Go.RowKit
set_option linter.unusedVariables false

theorem mdSize_any (s : Int) (w : World) :
    Calls Try.prog 12 #[.int .i64 s] w fun e w' => e = .returned (.bool (okSize s)) ∧ w' = w := by
  by_cases h1 : s = 1
  · subst h1
    go_enter Try.func12, Try.ntmps12
    go_wp2
    go_ret
    exact ⟨rfl, rfl⟩
  · by_cases h2 : s = 2
    · subst h2
      go_enter Try.func12, Try.ntmps12
      go_wp2
      go_ret
      exact ⟨rfl, rfl⟩
    · by_cases h4 : s = 4
      · subst h4
        go_enter Try.func12, Try.ntmps12
        go_wp2
        go_ret
        exact ⟨rfl, rfl⟩
      · have e : okSize s = false := by simp [okSize, h1, h2, h4]
        rw [e]
        have g1 : (s == 1) = false := by simp [h1]
        have g2 : (s == 2) = false := by simp [h2]
        have g4 : (s == 4) = false := by simp [h4]
        go_enter Try.func12, Try.ntmps12
        go_wp2
        go_ret
        exact ⟨rfl, rfl⟩

theorem mdWidth_any {s H M : Int} {W : Nat} (hS : Sw s H M W) (w : World) :
    Calls Try.prog 13 #[.int .i64 s] w fun e w' => e = .returned (.agg #[.int .i64 s, .int .u64 (W : Int)]) ∧ w' = w.alloc (.cells #[.int .i64 s, .int .u64 (W : Int)] 48) := by
  rcases hS with ⟨rfl, rfl, rfl, rfl⟩ | ⟨rfl, rfl, rfl, rfl⟩ | ⟨rfl, rfl, rfl, rfl⟩
  · go_enter Try.func13, Try.ntmps13
    go_wp2
    exact bodyPost_ret (v := .agg #[.int .i64 1, .int .u64 8]) (by simp [results, Try.results13, go_sem]) rfl ⟨rfl, rfl⟩
  · go_enter Try.func13, Try.ntmps13
    go_wp2
    exact bodyPost_ret (v := .agg #[.int .i64 2, .int .u64 16]) (by simp [results, Try.results13, go_sem]) rfl ⟨rfl, rfl⟩
  · go_enter Try.func13, Try.ntmps13
    go_wp2
    exact bodyPost_ret (v := .agg #[.int .i64 4, .int .u64 32]) (by simp [results, Try.results13, go_sem]) rfl ⟨rfl, rfl⟩

theorem and64_mask {n : Int} (n0 : 0 ≤ n) (n1 : n < 18446744073709551616) (W : Nat) (hW : W ≤ 32) : bits .and .u64 n (((2 ^ W - 1 : Nat)) : Int) = n % ((2 ^ W : Nat) : Int) := by
  obtain ⟨m, rfl⟩ := Int.eq_ofNat_of_zero_le n0
  have h32 : (2 : Nat) ^ W ≤ 2 ^ 32 := Nat.pow_le_pow_right (by decide) hW
  have e32 : (2 : Nat) ^ 32 = 4294967296 := by decide
  have hp := Nat.two_pow_pos W
  rw [u64_and_nat _ _ (by omega) (by omega), Nat.and_two_pow_sub_one_eq_mod, Int.natCast_emod]

theorem mdCut_any {s H M : Int} {W : Nat} (hS : Sw s H M W) (n : Int) (w : World) (n0 : 0 ≤ n) (n1 : n < 18446744073709551616) :
    Calls Try.prog 17 #[.agg #[.int .i64 s, .int .u64 (W : Int)], .int .u64 n] w fun e w' => e = .returned (.int .u32 (n % M)) ∧ w' = w.alloc (.cells #[.int .i64 s, .int .u64 (W : Int)] 48) := by
  rcases hS with ⟨rfl, rfl, rfl, rfl⟩ | ⟨rfl, rfl, rfl, rfl⟩ | ⟨rfl, rfl, rfl, rfl⟩
  · have e : bits .and .u64 n 255 = n % 256 := and64_mask n0 n1 8 (by decide)
    go_enter Try.func17, Try.ntmps17
    go_wp2
    go_ret
    exact ⟨rfl, rfl⟩
  · have e : bits .and .u64 n 65535 = n % 65536 := and64_mask n0 n1 16 (by decide)
    go_enter Try.func17, Try.ntmps17
    go_wp2
    go_ret
    exact ⟨rfl, rfl⟩
  · have e : bits .and .u64 n 4294967295 = n % 4294967296 := and64_mask n0 n1 32 (by decide)
    go_enter Try.func17, Try.ntmps17
    go_wp2
    go_ret
    exact ⟨rfl, rfl⟩

theorem as8_any (n : Int) (w : World) (n0 : 0 ≤ n) (n1 : n < 18446744073709551616) :
    Calls Try.prog 39 #[.int .u64 n] w fun e w' => e = .returned (.int .i64 (sgv 256 128 (n % 256))) ∧ w' = w := by
  have b := sgv_bds (M := 256) (H := 128) (x := n % 256) (by decide) (by omega) (by omega)
  have e : IntKind.i8.wrap n = sgv 256 128 (n % 256) := by rw [wrap_i8', sgv_i8]
  go_enter Try.func39, Try.ntmps39
  go_wp2
  go_ret
  exact ⟨rfl, rfl⟩

theorem as16_any (n : Int) (w : World) (n0 : 0 ≤ n) (n1 : n < 18446744073709551616) :
    Calls Try.prog 40 #[.int .u64 n] w fun e w' => e = .returned (.int .i64 (sgv 65536 32768 (n % 65536))) ∧ w' = w := by
  have b := sgv_bds (M := 65536) (H := 32768) (x := n % 65536) (by decide) (by omega) (by omega)
  have e : IntKind.i16.wrap n = sgv 65536 32768 (n % 65536) := by rw [wrap_i16', sgv_i16]
  go_enter Try.func40, Try.ntmps40
  go_wp2
  go_ret
  exact ⟨rfl, rfl⟩
end Go.Proofs.Ytecfkgnffhiemab
