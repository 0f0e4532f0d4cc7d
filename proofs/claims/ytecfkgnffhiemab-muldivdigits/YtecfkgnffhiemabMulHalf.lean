/- Contracts of package muldiv's numbers looked at as signed ones, and of halves: for every input within their kinds they return what is named, and the world has at most new blocks. -/
import Derived.Test.YtecfkgnffhiemabMulLeaf
namespace Go.Proofs.Ytecfkgnffhiemab
open Go.ChangeShapes Go.WideShapes Go.ChangeAt Go.RowKit
set_option linter.unusedVariables false

theorem wrap_i32' (n : Int) : IntKind.i32.wrap n = (n + 2147483648) % 4294967296 - 2147483648 := by
  simp only [IntKind.wrap, IntKind.bits, IntKind.signed, Bool.true_and]
  split <;> simp_all <;> omega

theorem wrap_i64' (n : Int) : IntKind.i64.wrap n = (n + 9223372036854775808) % 18446744073709551616 - 9223372036854775808 := by
  simp only [IntKind.wrap, IntKind.bits, IntKind.signed, Bool.true_and]
  split <;> simp_all <;> omega

theorem as32_any (n : Int) (w : World) (n0 : 0 ≤ n) (n1 : n < 18446744073709551616) :
    Calls Try.prog 41 #[.int .u64 n] w fun e w' => e = .returned (.int .i64 (sgv 4294967296 2147483648 (n % 4294967296))) ∧ w' = w := by
  have b := sgv_bds (M := 4294967296) (H := 2147483648) (x := n % 4294967296) (by decide) (by omega) (by omega)
  have e : IntKind.i32.wrap n = sgv 4294967296 2147483648 (n % 4294967296) := by rw [wrap_i32', sgv_i32]
  go_enter Try.func41, Try.ntmps41
  go_wp2
  go_ret
  exact ⟨ret_int (by first | rfl | (rw [← e, wrap_i32']; rfl) | (rw [← sgv_i32]; unfold wrap32; omega)), rfl⟩

theorem as64_any (n : Int) (w : World) (n0 : 0 ≤ n) (n1 : n < 18446744073709551616) :
    Calls Try.prog 42 #[.int .u64 n] w fun e w' => e = .returned (.int .i64 (sgv 18446744073709551616 9223372036854775808 n)) ∧ w' = w := by
  have b := sgv_bds (M := 18446744073709551616) (H := 9223372036854775808) (x := n) (by decide) (by omega) (by omega)
  have e : IntKind.i64.wrap n = sgv 18446744073709551616 9223372036854775808 n := by rw [wrap_i64', sgv_i64, Int.emod_eq_of_lt n0 n1]
  have HE : Hid _ := e
  clear e
  go_enter Try.func42, Try.ntmps42
  go_wp2
  go_ret
  exact ⟨ret_int (by rw [← HE.out, wrap_i64']; unfold wrap64; rfl), rfl⟩

theorem mdSigned_any {s H M : Int} {W : Nat} (hS : Sw s H M W) (n : Int) (w : World) (n0 : 0 ≤ n) (n1 : n < 18446744073709551616) :
    Calls Try.prog 33 #[.int .i64 s, .int .u64 n] w fun e w' => e = .returned (.int .i64 (sgv M H (n % M))) ∧ w' = w := by
  rcases hS with ⟨rfl, rfl, rfl, rfl⟩ | ⟨rfl, rfl, rfl, rfl⟩ | ⟨rfl, rfl, rfl, rfl⟩
  · go_enter Try.func33, Try.ntmps33
    go_wp2_with fail
    refine (as8_any _ _ n0 n1).mono ?_; rintro e w1 ⟨rfl, hw⟩; replace hw := hw.symm; subst hw
    go_wp2
    go_ret
    exact ⟨rfl, rfl⟩
  · go_enter Try.func33, Try.ntmps33
    go_wp2_with fail
    refine (as16_any _ _ n0 n1).mono ?_; rintro e w1 ⟨rfl, hw⟩; replace hw := hw.symm; subst hw
    go_wp2
    go_ret
    exact ⟨rfl, rfl⟩
  · go_enter Try.func33, Try.ntmps33
    go_wp2_with fail
    refine (as32_any _ _ n0 n1).mono ?_; rintro e w1 ⟨rfl, hw⟩; replace hw := hw.symm; subst hw
    go_wp2
    go_ret
    exact ⟨rfl, rfl⟩

theorem mdSigned8_any (n : Int) (w : World) (n0 : 0 ≤ n) (n1 : n < 18446744073709551616) :
    Calls Try.prog 33 #[.int .i64 8, .int .u64 n] w fun e w' => e = .returned (.int .i64 (sgv 18446744073709551616 9223372036854775808 n)) ∧ w' = w := by
  go_enter Try.func33, Try.ntmps33
  go_wp2_with fail
  refine (as64_any _ _ n0 n1).mono ?_; rintro e w1 ⟨rfl, hw⟩; replace hw := hw.symm; subst hw
  go_wp2
  go_ret
  exact ⟨rfl, rfl⟩

/-- of two sizes -/
theorem mdSigned2_any {s H M : Int} {W : Nat} (hS : Sw s H M W) (n : Int) (w : World) (n0 : 0 ≤ n) (n1 : n < M * M) :
    Calls Try.prog 33 #[.int .i64 (2 * s), .int .u64 n] w fun e w' => e = .returned (.int .i64 (sgv (M * M) (H * M) n)) ∧ w' = w := by
  rcases hS with ⟨rfl, rfl, rfl, rfl⟩ | ⟨rfl, rfl, rfl, rfl⟩ | ⟨rfl, rfl, rfl, rfl⟩
  · have h := mdSigned_any (s := 2) (H := 32768) (M := 65536) (W := 16) (Or.inr (Or.inl ⟨rfl, rfl, rfl, rfl⟩)) n w n0 (by omega)
    rw [Int.emod_eq_of_lt n0 (by omega)] at h
    exact h
  · have h := mdSigned_any (s := 4) (H := 2147483648) (M := 4294967296) (W := 32) (Or.inr (Or.inr ⟨rfl, rfl, rfl, rfl⟩)) n w n0 (by omega)
    rw [Int.emod_eq_of_lt n0 (by omega)] at h
    exact h
  · exact mdSigned8_any n w n0 (by omega)

theorem mdHalves_any {s H M : Int} {W : Nat} (hS : Sw s H M W) (n : Int) (w : World) (n0 : 0 ≤ n) (n1 : n < 18446744073709551616) :
    Calls Try.prog 14 #[.agg #[.int .i64 s, .int .u64 (W : Int)], .int .u64 n] w fun e w' => e = .returned (.tuple #[.int .u32 (n % M), .int .u32 (n / M % M)]) ∧ Grown w w' := by
  have hS' := hS
  rcases hS with ⟨rfl, rfl, rfl, rfl⟩ | ⟨rfl, rfl, rfl, rfl⟩ | ⟨rfl, rfl, rfl, rfl⟩
  · have d0 : 0 ≤ n / 256 := by omega
    have d1 : n / 256 < 18446744073709551616 := by omega
    go_enter Try.func14, Try.ntmps14
    go_wp2
    go_region_held3 (fun w' => w'.cell? ⟨w.heap.size, 0, none⟩ = some (.int .i64 1) ∧ w'.cell? ⟨w.heap.size, 1, none⟩ = some (.int .u64 8))
      (simp [go_sem])
      ((go_at_call 17; refine (mdCut_any hS' _ _ (by omega) (by omega)).mono ?_; rintro e w1 ⟨rfl, hw⟩; replace hw := hw.symm; subst hw))
    go_wp2
    go_ret2
    refine ⟨rfl, ?_⟩
    repeat (first | exact Grown.refl _ | apply Grown.drew | apply Grown.alloc)
  · have d0 : 0 ≤ n / 65536 := by omega
    have d1 : n / 65536 < 18446744073709551616 := by omega
    go_enter Try.func14, Try.ntmps14
    go_wp2
    go_region_held3 (fun w' => w'.cell? ⟨w.heap.size, 0, none⟩ = some (.int .i64 2) ∧ w'.cell? ⟨w.heap.size, 1, none⟩ = some (.int .u64 16))
      (simp [go_sem])
      ((go_at_call 17; refine (mdCut_any hS' _ _ (by omega) (by omega)).mono ?_; rintro e w1 ⟨rfl, hw⟩; replace hw := hw.symm; subst hw))
    go_wp2
    go_ret2
    refine ⟨rfl, ?_⟩
    repeat (first | exact Grown.refl _ | apply Grown.drew | apply Grown.alloc)
  · have d0 : 0 ≤ n / 4294967296 := by omega
    have d1 : n / 4294967296 < 18446744073709551616 := by omega
    go_enter Try.func14, Try.ntmps14
    go_wp2
    go_region_held3 (fun w' => w'.cell? ⟨w.heap.size, 0, none⟩ = some (.int .i64 4) ∧ w'.cell? ⟨w.heap.size, 1, none⟩ = some (.int .u64 32))
      (simp [go_sem])
      ((go_at_call 17; refine (mdCut_any hS' _ _ (by omega) (by omega)).mono ?_; rintro e w1 ⟨rfl, hw⟩; replace hw := hw.symm; subst hw))
    go_wp2
    go_ret2
    refine ⟨rfl, ?_⟩
    repeat (first | exact Grown.refl _ | apply Grown.drew | apply Grown.alloc)
end Go.Proofs.Ytecfkgnffhiemab
