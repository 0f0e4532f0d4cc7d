/- Contracts of the document's answers that later layers lean on (package drawloomref01): for every input within their kinds they return what is named, and the world stays. -/
import Derived.Test.YtecfkgnffhiemaaBase
namespace Go.Proofs.Ytecfkgnffhiemaa
open Go.ChangeShapes Go.WideShapes Go.ChangeAt Go.RowKit
set_option linter.unusedVariables false

theorem Set_any (f k : Int) (b : Bool) (w : World) (f0 : 0 ≤ f) (f1 : f < 4294967296) (hk : isFlag k) :
    Calls Try.prog 29 #[.int .u32 f, .int .u32 k, .bool b] w fun e w' => e = .returned (.int .u32 (setF f k b)) ∧ w' = w := by
  have k0 : 0 < k := by unfold isFlag at hk; omega
  have k1 : k ≤ 2048 := by unfold isFlag at hk; omega
  have hq : 0 ≤ f / k := Int.ediv_nonneg f0 (by omega)
  by_cases h : f / k % 2 = 1
  · have kf : k ≤ f := by unfold isFlag at hk; rcases hk with rfl | rfl | rfl | rfl | rfl | rfl <;> omega
    have e1 : (f / k % 2 == 1) = true := by simp [h]
    have HS : Hid (f / k % 2 = 1) := h
    clear h
    cases b
    · have HE : Hid (f - k = setF f k false) := (by unfold setF; rw [if_pos HS.out]; simp [flg] : f - k = setF f k false)
      go_enter Try.func29, Try.ntmps29
      go_wp2
      go_ret
      exact ⟨ret_int HE.out, rfl⟩
    · have HE : Hid (f = setF f k true) := (by unfold setF; rw [if_pos HS.out]; simp [flg] : f = setF f k true)
      go_enter Try.func29, Try.ntmps29
      go_wp2
      go_ret
      exact ⟨ret_int HE.out, rfl⟩
  · have kf : f + k < 4294967296 := by unfold isFlag at hk; rcases hk with rfl | rfl | rfl | rfl | rfl | rfl <;> omega
    have e1 : (f / k % 2 == 1) = false := by simp [h]
    have HS : Hid (¬ f / k % 2 = 1) := h
    clear h
    cases b
    · have HE : Hid (f = setF f k false) := (by unfold setF; rw [if_neg HS.out]; simp [flg] : f = setF f k false)
      go_enter Try.func29, Try.ntmps29
      go_wp2
      go_ret
      exact ⟨ret_int HE.out, rfl⟩
    · have HE : Hid (f + k = setF f k true) := (by unfold setF; rw [if_neg HS.out]; simp [flg] : f + k = setF f k true)
      go_enter Try.func29, Try.ntmps29
      go_wp2
      go_ret
      exact ⟨ret_int HE.out, rfl⟩

theorem Has_any (f k : Int) (w : World) (f0 : 0 ≤ f) (f1 : f < 4294967296) (hk : isFlag k) :
    Calls Try.prog 36 #[.int .u32 f, .int .u32 k] w fun e w' => e = .returned (.bool (hasF f k)) ∧ w' = w := by
  have k0 : 0 < k := by unfold isFlag at hk; omega
  have k1 : k ≤ 2048 := by unfold isFlag at hk; omega
  have hq : 0 ≤ f / k := Int.ediv_nonneg f0 (by omega)
  go_enter Try.func36, Try.ntmps36
  go_wp2
  go_ret
  exact ⟨rfl, rfl⟩

theorem Bits_ok {s H M sp bt : Int} (hS : Sz s H M sp bt) (w : World) :
    Calls Try.prog 23 #[.int .i64 s] w fun e w' => e = .returned (.int .i64 bt) ∧ w' = w := by
  rcases hS with ⟨rfl, rfl, rfl, rfl, rfl⟩ | ⟨rfl, rfl, rfl, rfl, rfl⟩ | ⟨rfl, rfl, rfl, rfl, rfl⟩
  all_goals
    go_enter Try.func23, Try.ntmps23
    go_wp2
    go_ret
    exact ⟨rfl, rfl⟩

theorem Bits_no (s : Int) (w : World) (h : okSize s = false) :
    Calls Try.prog 23 #[.int .i64 s] w fun e w' => e = .returned (.int .i64 0) ∧ w' = w := by
  unfold okSize at h
  simp only [Bool.or_eq_false_iff] at h
  obtain ⟨⟨h1, h2⟩, h4⟩ := h
  go_enter Try.func23, Try.ntmps23
  go_wp2
  go_ret
  exact ⟨rfl, rfl⟩

theorem Cut_any {s H M sp bt : Int} (hS : Sz s H M sp bt) (n : Int) (w : World) (n0 : 0 ≤ n) (n1 : n < 18446744073709551616) :
    Calls Try.prog 24 #[.int .u64 n, .int .i64 bt] w fun e w' => e = .returned (.int .u64 (n % M)) ∧ w' = w := by
  rcases hS with ⟨rfl, rfl, rfl, rfl, rfl⟩ | ⟨rfl, rfl, rfl, rfl, rfl⟩ | ⟨rfl, rfl, rfl, rfl, rfl⟩
  all_goals
    go_enter Try.func24, Try.ntmps24
    go_wp2
    go_ret
    exact ⟨rfl, rfl⟩

theorem Sign_any {s H M sp bt : Int} (hS : Sz s H M sp bt) (n : Int) (w : World) (n0 : 0 ≤ n) (n1 : n < M) :
    Calls Try.prog 28 #[.int .u64 n, .int .i64 bt] w fun e w' => e = .returned (.bool (sgn H n)) ∧ w' = w := by
  rcases hS with ⟨rfl, rfl, rfl, rfl, rfl⟩ | ⟨rfl, rfl, rfl, rfl, rfl⟩ | ⟨rfl, rfl, rfl, rfl, rfl⟩
  · have HE : Hid ((n / 128 % 2 == 1) = sgn 128 n) := by unfold Hid sgn; rw [Bool.eq_iff_iff]; simp; omega
    go_enter Try.func28, Try.ntmps28
    go_wp2
    go_ret
    exact ⟨ret_bool HE.out, rfl⟩
  · have HE : Hid ((n / 32768 % 2 == 1) = sgn 32768 n) := by unfold Hid sgn; rw [Bool.eq_iff_iff]; simp; omega
    go_enter Try.func28, Try.ntmps28
    go_wp2
    go_ret
    exact ⟨ret_bool HE.out, rfl⟩
  · have HE : Hid ((n / 2147483648 % 2 == 1) = sgn 2147483648 n) := by unfold Hid sgn; rw [Bool.eq_iff_iff]; simp; omega
    go_enter Try.func28, Try.ntmps28
    go_wp2
    go_ret
    exact ⟨ret_bool HE.out, rfl⟩

def cnt (n : Int) : Nat → Int
  | 0 => 0
  | k + 1 => cnt n k + n / 2 ^ k % 2

theorem cnt_bd (n : Int) (k : Nat) : 0 ≤ cnt n k ∧ cnt n k ≤ k := by
  induction k with
  | zero => simp [cnt]
  | succ k ih => simp only [cnt]; omega

theorem even_any (n : Int) (w : World) (n0 : 0 ≤ n) (n1 : n < 18446744073709551616) :
    Calls Try.prog 42 #[.int .u64 n] w fun e w' => e = .returned (.bool (cnt n 8 % 2 == 0)) ∧ w' = w := by
  go_enter Try.func42, Try.ntmps42
  go_wp2
  go_loop [3, 4] (fun c i => ∃ k : Nat, k ≤ 8 ∧ i = .int .i64 k ∧ c = .int .i64 (cnt n k)) (fun _ i => 8 - (intOf i).toNat)
  case atStart => exact ⟨0, by omega, rfl, rfl⟩
  case round =>
    obtain ⟨k, hk, rfl, rfl⟩ := hrel
    have hb := cnt_bd n k
    by_cases hlt : k < 8
    · have hq : 0 ≤ n / 2 ^ k := Int.ediv_nonneg n0 (Int.le_of_lt (Int.pow_pos (by decide)))
      have hcs : Hid (cnt n (k + 1) = cnt n k + n / 2 ^ k % 2) := (rfl : cnt n (k + 1) = cnt n k + n / 2 ^ k % 2)
      by_cases hbit : n / 2 ^ k % 2 = 1
      · have e1 : (n / 2 ^ k % 2 == 1) = true := by simp [hbit]
        have HB : Hid _ := hbit
        clear hbit
        go_wp2
        exact ⟨⟨k + 1, by omega, by go_num, by rw [hcs.out, HB.out]⟩, by simp [intOf]; omega⟩
      · have e1 : (n / 2 ^ k % 2 == 1) = false := by simp [hbit]
        have HB : Hid (n / 2 ^ k % 2 = 0) := (by omega : n / 2 ^ k % 2 = 0)
        clear hbit
        go_wp2
        exact ⟨⟨k + 1, by omega, by go_num, by rw [hcs.out, HB.out, Int.add_zero]⟩, by simp [intOf]; omega⟩
    · have : k = 8 := by omega
      subst this
      go_wp2
      go_ret
      exact ⟨rfl, rfl⟩

theorem ones_fin : ∀ m : Fin 256, Lib.onesCount m.val = m.val % 2 + m.val / 2 % 2 + m.val / 4 % 2 + m.val / 8 % 2 + m.val / 16 % 2 + m.val / 32 % 2 + m.val / 64 % 2 + m.val / 128 % 2 := by decide +kernel

theorem low_bit1 (n : Int) : n / 1 % 2 = n % 256 % 2 := by omega

theorem low_bit2 (n : Int) : n / 2 % 2 = n % 256 / 2 % 2 := by omega

theorem low_bit4 (n : Int) : n / 4 % 2 = n % 256 / 4 % 2 := by omega

theorem low_bit8 (n : Int) : n / 8 % 2 = n % 256 / 8 % 2 := by omega

theorem low_bit16 (n : Int) : n / 16 % 2 = n % 256 / 16 % 2 := by omega

theorem low_bit32 (n : Int) : n / 32 % 2 = n % 256 / 32 % 2 := by omega

theorem low_bit64 (n : Int) : n / 64 % 2 = n % 256 / 64 % 2 := by omega

theorem low_bit128 (n : Int) : n / 128 % 2 = n % 256 / 128 % 2 := by omega

theorem cnt_eight (n : Int) : cnt n 8 = 0 + n / 1 % 2 + n / 2 % 2 + n / 4 % 2 + n / 8 % 2 + n / 16 % 2 + n / 32 % 2 + n / 64 % 2 + n / 128 % 2 := by
  simp only [cnt]
  rfl

theorem cnt_ones (n : Int) (n0 : 0 ≤ n) : (cnt n 8 % 2 == 0) = par n := by
  have hn : ((n % 256).toNat : Int) = n % 256 := by omega
  have h := ones_fin ⟨(n % 256).toNat, by omega⟩
  simp only at h
  have e : cnt n 8 = ones n := by
    unfold ones
    rw [h, cnt_eight, low_bit1, low_bit2, low_bit4, low_bit8, low_bit16, low_bit32, low_bit64, low_bit128, Int.zero_add, ← hn]
    generalize (n % 256).toNat = m
    simp only [Int.natCast_add, Int.natCast_emod, Int.natCast_ediv]
    rfl
  unfold par
  rw [e]

theorem even_is (n : Int) (w : World) (n0 : 0 ≤ n) (n1 : n < 18446744073709551616) :
    Calls Try.prog 42 #[.int .u64 n] w fun e w' => e = .returned (.bool (par n)) ∧ w' = w := by
  rw [← cnt_ones n n0]
  exact even_any n w n0 n1

theorem By_any {s H M sp bt : Int} (hS : Sz s H M sp bt) (n f : Int) (w : World) (n0 : 0 ≤ n) (n1 : n < M) (f0 : 0 ≤ f) (f1 : f < 4294967296) :
    Calls Try.prog 30 #[.int .u64 n, .int .i64 bt, .int .u32 f] w fun e w' => e = .returned (.int .u32 (byF H n f)) ∧ w' = w := by
  have mt := hS.top.1
  have b1 := setF_bd f0 f1 64 (by simp) (n == 0)
  have b2 := setF_bd b1.1 b1.2 128 (by simp) (sgn H n)
  go_enter Try.func30, Try.ntmps30
  go_wp2_with fail
  refine (Set_any _ _ _ _ f0 f1 (by simp [isFlag])).mono ?_; rintro e w1 ⟨rfl, hw⟩; replace hw := hw.symm; subst hw
  go_wp2_with fail
  refine (Sign_any hS _ _ n0 n1).mono ?_; rintro e w1 ⟨rfl, hw⟩; replace hw := hw.symm; subst hw
  go_wp2_with fail
  refine (Set_any _ _ _ _ b1.1 b1.2 (by simp [isFlag])).mono ?_; rintro e w1 ⟨rfl, hw⟩; replace hw := hw.symm; subst hw
  go_wp2_with fail
  refine (even_is _ _ n0 (by omega)).mono ?_; rintro e w1 ⟨rfl, hw⟩; replace hw := hw.symm; subst hw
  go_wp2_with fail
  refine (Set_any _ _ _ _ b2.1 b2.2 (by simp [isFlag])).mono ?_; rintro e w1 ⟨rfl, hw⟩; replace hw := hw.symm; subst hw
  go_wp2
  go_ret
  exact ⟨rfl, rfl⟩
end Go.Proofs.Ytecfkgnffhiemaa
