/- Contracts of the document's answers' small functions of layer 3 (package drawloomref03): for every input within their kinds they return what is named, and the world stays. -/
import Derived.Test.YtecfkgnffhiemaaRef01
import Derived.Test.YtecfkgnffhiemaaMulHalf
namespace Go.Proofs.Ytecfkgnffhiemaa
open Go.ChangeShapes Go.WideShapes Go.ChangeAt Go.RowKit
set_option linter.unusedVariables false

def Sb (bt H M : Int) : Prop := (bt = 8 ∧ H = 128 ∧ M = 256) ∨ (bt = 16 ∧ H = 32768 ∧ M = 65536) ∨ (bt = 32 ∧ H = 2147483648 ∧ M = 4294967296) ∨ (bt = 64 ∧ H = 9223372036854775808 ∧ M = 18446744073709551616)

theorem Sw.sb {s H M : Int} {W : Nat} (h : Sw s H M W) : Sb (W : Int) H M := by
  rcases h with ⟨rfl, rfl, rfl, rfl⟩ | ⟨rfl, rfl, rfl, rfl⟩ | ⟨rfl, rfl, rfl, rfl⟩ <;> simp [Sb]

theorem Sw.sb2 {s H M : Int} {W : Nat} (h : Sw s H M W) : Sb (2 * (W : Int)) (H * M) (M * M) := by
  rcases h with ⟨rfl, rfl, rfl, rfl⟩ | ⟨rfl, rfl, rfl, rfl⟩ | ⟨rfl, rfl, rfl, rfl⟩ <;> simp [Sb]

theorem Sign64_any (n : Int) (w : World) (n0 : 0 ≤ n) (n1 : n < 18446744073709551616) :
    Calls Try.prog 28 #[.int .u64 n, .int .i64 64] w fun e w' => e = .returned (.bool (sgn 9223372036854775808 n)) ∧ w' = w := by
  have HE : Hid ((n / 9223372036854775808 % 2 == 1) = sgn 9223372036854775808 n) := by unfold Hid sgn; rw [Bool.eq_iff_iff]; simp; omega
  go_enter Try.func28, Try.ntmps28
  go_wp2
  go_ret
  exact ⟨ret_bool HE.out, rfl⟩

theorem SignB_any {bt H M : Int} (hB : Sb bt H M) (n : Int) (w : World) (n0 : 0 ≤ n) (n1 : n < M) :
    Calls Try.prog 28 #[.int .u64 n, .int .i64 bt] w fun e w' => e = .returned (.bool (sgn H n)) ∧ w' = w := by
  rcases hB with ⟨rfl, rfl, rfl⟩ | ⟨rfl, rfl, rfl⟩ | ⟨rfl, rfl, rfl⟩ | ⟨rfl, rfl, rfl⟩
  · exact Sign_any sz1 n w n0 n1
  · exact Sign_any sz2 n w n0 n1
  · exact Sign_any sz4 n w n0 n1
  · exact Sign64_any n w n0 n1

theorem magnitude_any {bt H M : Int} (hB : Sb bt H M) (n : Int) (w : World) (n0 : 0 ≤ n) (n1 : n < M) :
    Calls Try.prog 25 #[.int .u64 n, .int .i64 bt] w fun e w' => e = .returned (.tuple #[.int .u64 (mag M H n), .bool (sgn H n)]) ∧ w' = w := by
  unfold mag
  cases hs : sgn H n
  · have HS : Hid (∀ w : World, Calls Try.prog 28 #[.int .u64 n, .int .i64 bt] w fun e w' => e = .returned (.bool false) ∧ w' = w) := fun w => by rw [← hs]; exact SignB_any hB n w n0 n1
    clear hs hB
    go_enter Try.func25, Try.ntmps25
    go_wp2_with fail
    refine (HS.out _).mono ?_; rintro e w1 ⟨rfl, hw⟩; replace hw := hw.symm; subst hw
    go_wp2
    exact bodyPost_ret (v := .tuple #[.int .u64 n, .bool false]) (by simp [results, Try.results25, go_sem]) rfl ⟨rfl, rfl⟩
  · have HS : Hid (∀ w : World, Calls Try.prog 28 #[.int .u64 n, .int .i64 bt] w fun e w' => e = .returned (.bool true) ∧ w' = w) := fun w => by rw [← hs]; exact SignB_any hB n w n0 n1
    have hn : H ≤ n := by unfold sgn at hs; exact of_decide_eq_true hs
    clear hs
    rcases hB with ⟨rfl, rfl, rfl⟩ | ⟨rfl, rfl, rfl⟩ | ⟨rfl, rfl, rfl⟩ | ⟨rfl, rfl, rfl⟩
    · have wn : IntKind.u64.wrap (256 - n) = 256 - n := by rw [wrap_u64']; omega
      go_enter Try.func25, Try.ntmps25
      go_wp2_with fail
      refine (HS.out _).mono ?_; rintro e w1 ⟨rfl, hw⟩; replace hw := hw.symm; subst hw
      go_wp2
      exact bodyPost_ret (v := .tuple #[.int .u64 (256 - n), .bool true]) (by simp [results, Try.results25, go_sem]) rfl ⟨rfl, rfl⟩
    · have wn : IntKind.u64.wrap (65536 - n) = 65536 - n := by rw [wrap_u64']; omega
      go_enter Try.func25, Try.ntmps25
      go_wp2_with fail
      refine (HS.out _).mono ?_; rintro e w1 ⟨rfl, hw⟩; replace hw := hw.symm; subst hw
      go_wp2
      exact bodyPost_ret (v := .tuple #[.int .u64 (65536 - n), .bool true]) (by simp [results, Try.results25, go_sem]) rfl ⟨rfl, rfl⟩
    · have wn : IntKind.u64.wrap (4294967296 - n) = 4294967296 - n := by rw [wrap_u64']; omega
      go_enter Try.func25, Try.ntmps25
      go_wp2_with fail
      refine (HS.out _).mono ?_; rintro e w1 ⟨rfl, hw⟩; replace hw := hw.symm; subst hw
      go_wp2
      exact bodyPost_ret (v := .tuple #[.int .u64 (4294967296 - n), .bool true]) (by simp [results, Try.results25, go_sem]) rfl ⟨rfl, rfl⟩
    · have wn : IntKind.u64.wrap (0 - n) = 18446744073709551616 - n := by rw [wrap_u64']; omega
      have wm : IntKind.u64.wrap (-n) = 18446744073709551616 - n := by rw [wrap_u64']; omega
      go_enter Try.func25, Try.ntmps25
      go_wp2_with fail
      refine (HS.out _).mono ?_; rintro e w1 ⟨rfl, hw⟩; replace hw := hw.symm; subst hw
      go_wp2
      exact bodyPost_ret (v := .tuple #[.int .u64 (18446744073709551616 - n), .bool true]) (by simp [results, Try.results25, go_sem]) rfl ⟨rfl, rfl⟩

theorem negated_any {bt H M : Int} (hB : Sb bt H M) (n : Int) (w : World) (n0 : 0 ≤ n) (n1 : n < M) :
    Calls Try.prog 26 #[.int .u64 n, .int .i64 bt] w fun e w' => e = .returned (.int .u64 ((M - n) % M)) ∧ w' = w := by
  rcases hB with ⟨rfl, rfl, rfl⟩ | ⟨rfl, rfl, rfl⟩ | ⟨rfl, rfl, rfl⟩ | ⟨rfl, rfl, rfl⟩
  · have wn : IntKind.u64.wrap (256 - n) = 256 - n := by rw [wrap_u64']; omega
    go_enter Try.func26, Try.ntmps26
    go_wp2_with fail
    refine (Cut_any sz1 _ _ (by omega) (by omega)).mono ?_; rintro e w1 ⟨rfl, hw⟩; replace hw := hw.symm; subst hw
    go_wp2
    go_ret
    exact ⟨ret_int (by omega), rfl⟩
  · have wn : IntKind.u64.wrap (65536 - n) = 65536 - n := by rw [wrap_u64']; omega
    go_enter Try.func26, Try.ntmps26
    go_wp2_with fail
    refine (Cut_any sz2 _ _ (by omega) (by omega)).mono ?_; rintro e w1 ⟨rfl, hw⟩; replace hw := hw.symm; subst hw
    go_wp2
    go_ret
    exact ⟨ret_int (by omega), rfl⟩
  · have wn : IntKind.u64.wrap (4294967296 - n) = 4294967296 - n := by rw [wrap_u64']; omega
    go_enter Try.func26, Try.ntmps26
    go_wp2_with fail
    refine (Cut_any sz4 _ _ (by omega) (by omega)).mono ?_; rintro e w1 ⟨rfl, hw⟩; replace hw := hw.symm; subst hw
    go_wp2
    go_ret
    exact ⟨ret_int (by omega), rfl⟩
  · have HE : Hid (IntKind.u64.wrap (-n) = (18446744073709551616 - n) % 18446744073709551616) := (by rw [wrap_u64']; omega : IntKind.u64.wrap (-n) = (18446744073709551616 - n) % 18446744073709551616)
    go_enter Try.func26, Try.ntmps26
    go_wp2
    go_ret
    exact ⟨ret_int (by first | exact HE.out | (rw [← HE.out]; congr 1; omega)), rfl⟩

theorem rhalves_any {s H M : Int} {W : Nat} (hS : Sw s H M W) (n : Int) (w : World) (n0 : 0 ≤ n) (n1 : n < 18446744073709551616) :
    Calls Try.prog 27 #[.int .u64 n, .int .i64 (W : Int)] w fun e w' => e = .returned (.tuple #[.int .u64 (n % M), .int .u64 (n / M % M)]) ∧ w' = w := by
  rcases hS with ⟨rfl, rfl, rfl, rfl⟩ | ⟨rfl, rfl, rfl, rfl⟩ | ⟨rfl, rfl, rfl, rfl⟩
  · have d0 : 0 ≤ n / 256 := by omega
    have d1 : n / 256 < 18446744073709551616 := by omega
    go_enter Try.func27, Try.ntmps27
    go_wp2_with fail
    refine (Cut_any sz1 _ _ n0 n1).mono ?_; rintro e w1 ⟨rfl, hw⟩; replace hw := hw.symm; subst hw
    go_wp2_with fail
    refine (Cut_any sz1 _ _ d0 d1).mono ?_; rintro e w1 ⟨rfl, hw⟩; replace hw := hw.symm; subst hw
    go_wp2
    go_ret2
    exact ⟨rfl, rfl⟩
  · have d0 : 0 ≤ n / 65536 := by omega
    have d1 : n / 65536 < 18446744073709551616 := by omega
    go_enter Try.func27, Try.ntmps27
    go_wp2_with fail
    refine (Cut_any sz2 _ _ n0 n1).mono ?_; rintro e w1 ⟨rfl, hw⟩; replace hw := hw.symm; subst hw
    go_wp2_with fail
    refine (Cut_any sz2 _ _ d0 d1).mono ?_; rintro e w1 ⟨rfl, hw⟩; replace hw := hw.symm; subst hw
    go_wp2
    go_ret2
    exact ⟨rfl, rfl⟩
  · have d0 : 0 ≤ n / 4294967296 := by omega
    have d1 : n / 4294967296 < 18446744073709551616 := by omega
    go_enter Try.func27, Try.ntmps27
    go_wp2_with fail
    refine (Cut_any sz4 _ _ n0 n1).mono ?_; rintro e w1 ⟨rfl, hw⟩; replace hw := hw.symm; subst hw
    go_wp2_with fail
    refine (Cut_any sz4 _ _ d0 d1).mono ?_; rintro e w1 ⟨rfl, hw⟩; replace hw := hw.symm; subst hw
    go_wp2
    go_ret2
    exact ⟨rfl, rfl⟩
theorem SignB_is {bt H M : Int} (hB : Sb bt H M) (n : Int) (o : Bool) (h : sgn H n = o) (w : World) (n0 : 0 ≤ n) (n1 : n < M) :
    Calls Try.prog 28 #[.int .u64 n, .int .i64 bt] w fun e w' => e = .returned (.bool o) ∧ w' = w := by
  subst h; exact SignB_any hB n w n0 n1

theorem magnitude_is {bt H M : Int} (hB : Sb bt H M) (n : Int) (o : Bool) (h : sgn H n = o) (w : World) (n0 : 0 ≤ n) (n1 : n < M) :
    Calls Try.prog 25 #[.int .u64 n, .int .i64 bt] w fun e w' => e = .returned (.tuple #[.int .u64 (mag M H n), .bool o]) ∧ w' = w := by
  subst h; exact magnitude_any hB n w n0 n1
end Go.Proofs.Ytecfkgnffhiemaa
