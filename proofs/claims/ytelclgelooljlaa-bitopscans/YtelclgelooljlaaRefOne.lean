/- Contracts of the document's answers that later layers lean on (package drawloomref01): for every input within their kinds they return what is named, and the world stays. -/
import Derived.Test.YtelclgelooljlaaGrow
namespace Go.Proofs.Ytelclgelooljlaa
open Go.ChangeShapes Go.WideShapes Go.ChangeAt Go.RowKit
set_option linter.unusedVariables false

theorem Set_any (f k : Int) (b : Bool) (w : World) (f0 : 0 ≤ f) (f1 : f < 4294967296) (hk : isFlag k) :
    Calls Try.prog 28 #[.int .u32 f, .int .u32 k, .bool b] w fun e w' => e = .returned (.int .u32 (setF f k b)) ∧ w' = w := by
  have k0 : 0 < k := by unfold isFlag at hk; omega
  have k1 : k ≤ 2048 := by unfold isFlag at hk; omega
  have hq : 0 ≤ f / k := Int.ediv_nonneg f0 (by omega)
  by_cases h : f / k % 2 = 1
  · have kf : k ≤ f := by unfold isFlag at hk; rcases hk with rfl | rfl | rfl | rfl | rfl | rfl <;> omega
    have e1 : (f / k % 2 == 1) = true := by simp [h]
    have HS : Hid (f / k % 2 = 1) := h
    clear h
    cases b
    · have HE : Hid (f - k = setF f k false) := (by unfold setF; rw [if_pos HS.out]; simp [flg] : f - k = setF f k false)
      go_enter Try.func28, Try.ntmps28
      go_wp2
      go_ret
      exact ⟨ret_int HE.out, rfl⟩
    · have HE : Hid (f = setF f k true) := (by unfold setF; rw [if_pos HS.out]; simp [flg] : f = setF f k true)
      go_enter Try.func28, Try.ntmps28
      go_wp2
      go_ret
      exact ⟨ret_int HE.out, rfl⟩
  · have kf : f + k < 4294967296 := by unfold isFlag at hk; rcases hk with rfl | rfl | rfl | rfl | rfl | rfl <;> omega
    have e1 : (f / k % 2 == 1) = false := by simp [h]
    have HS : Hid (¬ f / k % 2 = 1) := h
    clear h
    cases b
    · have HE : Hid (f = setF f k false) := (by unfold setF; rw [if_neg HS.out]; simp [flg] : f = setF f k false)
      go_enter Try.func28, Try.ntmps28
      go_wp2
      go_ret
      exact ⟨ret_int HE.out, rfl⟩
    · have HE : Hid (f + k = setF f k true) := (by unfold setF; rw [if_neg HS.out]; simp [flg] : f + k = setF f k true)
      go_enter Try.func28, Try.ntmps28
      go_wp2
      go_ret
      exact ⟨ret_int HE.out, rfl⟩

theorem Has_any (f k : Int) (w : World) (f0 : 0 ≤ f) (f1 : f < 4294967296) (hk : isFlag k) :
    Calls Try.prog 22 #[.int .u32 f, .int .u32 k] w fun e w' => e = .returned (.bool (hasF f k)) ∧ w' = w := by
  have k0 : 0 < k := by unfold isFlag at hk; omega
  have k1 : k ≤ 2048 := by unfold isFlag at hk; omega
  have hq : 0 ≤ f / k := Int.ediv_nonneg f0 (by omega)
  go_enter Try.func22, Try.ntmps22
  go_wp2
  go_ret
  exact ⟨rfl, rfl⟩

theorem Bits_ok {s H M sp bt : Int} (hS : Sz s H M sp bt) (w : World) :
    Calls Try.prog 32 #[.int .i64 s] w fun e w' => e = .returned (.int .i64 bt) ∧ w' = w := by
  rcases hS with ⟨rfl, rfl, rfl, rfl, rfl⟩ | ⟨rfl, rfl, rfl, rfl, rfl⟩ | ⟨rfl, rfl, rfl, rfl, rfl⟩
  all_goals
    go_enter Try.func32, Try.ntmps32
    go_wp2
    go_ret
    exact ⟨rfl, rfl⟩

theorem Bits_no (s : Int) (w : World) (h : okSize s = false) :
    Calls Try.prog 32 #[.int .i64 s] w fun e w' => e = .returned (.int .i64 0) ∧ w' = w := by
  unfold okSize at h
  simp only [Bool.or_eq_false_iff] at h
  obtain ⟨⟨h1, h2⟩, h4⟩ := h
  go_enter Try.func32, Try.ntmps32
  go_wp2
  go_ret
  exact ⟨rfl, rfl⟩

theorem Cut_any {s H M sp bt : Int} (hS : Sz s H M sp bt) (n : Int) (w : World) (n0 : 0 ≤ n) (n1 : n < 18446744073709551616) :
    Calls Try.prog 27 #[.int .u64 n, .int .i64 bt] w fun e w' => e = .returned (.int .u64 (n % M)) ∧ w' = w := by
  rcases hS with ⟨rfl, rfl, rfl, rfl, rfl⟩ | ⟨rfl, rfl, rfl, rfl, rfl⟩ | ⟨rfl, rfl, rfl, rfl, rfl⟩
  all_goals
    go_enter Try.func27, Try.ntmps27
    go_wp2
    go_ret
    exact ⟨rfl, rfl⟩

theorem Sign_any {s H M sp bt : Int} (hS : Sz s H M sp bt) (n : Int) (w : World) (n0 : 0 ≤ n) (n1 : n < M) :
    Calls Try.prog 33 #[.int .u64 n, .int .i64 bt] w fun e w' => e = .returned (.bool (sgn H n)) ∧ w' = w := by
  rcases hS with ⟨rfl, rfl, rfl, rfl, rfl⟩ | ⟨rfl, rfl, rfl, rfl, rfl⟩ | ⟨rfl, rfl, rfl, rfl, rfl⟩
  · have HE : Hid ((n / 128 % 2 == 1) = sgn 128 n) := by unfold Hid sgn; rw [Bool.eq_iff_iff]; simp; omega
    go_enter Try.func33, Try.ntmps33
    go_wp2
    go_ret
    exact ⟨ret_bool HE.out, rfl⟩
  · have HE : Hid ((n / 32768 % 2 == 1) = sgn 32768 n) := by unfold Hid sgn; rw [Bool.eq_iff_iff]; simp; omega
    go_enter Try.func33, Try.ntmps33
    go_wp2
    go_ret
    exact ⟨ret_bool HE.out, rfl⟩
  · have HE : Hid ((n / 2147483648 % 2 == 1) = sgn 2147483648 n) := by unfold Hid sgn; rw [Bool.eq_iff_iff]; simp; omega
    go_enter Try.func33, Try.ntmps33
    go_wp2
    go_ret
    exact ⟨ret_bool HE.out, rfl⟩
end Go.Proofs.Ytelclgelooljlaa
