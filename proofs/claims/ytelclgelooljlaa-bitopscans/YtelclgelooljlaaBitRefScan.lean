/- The contract of the document's answer drawloomref04.Scan: for every input within its kinds it returns what is named, and the world stays. -/
import Derived.Test.YtelclgelooljlaaRefOne
import Derived.Test.YtelclgelooljlaaBitOps
namespace Go.Proofs.Ytelclgelooljlaa
open Go.ChangeShapes Go.WideShapes Go.ChangeAt Go.RowKit
set_option linter.unusedVariables false

theorem rScan_no (up : Bool) (s a f : Int) (w : World) (hk : wideSize s = false) :
    Calls Try.prog 15 #[.bool up, .int .i64 s, .int .u32 a, .int .u32 f] w fun e w' => e = .returned (.tuple #[.int .u32 0, .bool false, .int .u32 0, .int .i64 2]) ∧ w' = w := by
  unfold wideSize at hk
  simp only [Bool.or_eq_false_iff] at hk
  obtain ⟨h2, h4⟩ := hk
  have g2 : (s != 2) = true := by simpa using h2
  have g4 : (s != 4) = true := by simpa using h4
  go_enter Try.func15, Try.ntmps15
  go_wp2
  refine bodyPost_ret (results_four rfl _ _ _) rfl ?_
  exact ⟨rfl, rfl⟩

theorem div_tb {x : Int} (x0 : 0 ≤ x) (j : Nat) : (x / 2 ^ j % 2 == 1) = tb x j := by
  have hp : (2 : Int) ^ j = ((2 ^ j : Nat) : Int) := by push_cast; rfl
  rw [hp, tb_div x x0 j, Bool.eq_iff_iff]
  simp

theorem rScan_zero2 (up : Bool) (a f : Int) (w : World) (a0 : 0 ≤ a) (a1 : a < 4294967296) (f0 : 0 ≤ f) (f1 : f < 4294967296) (h : a % 65536 = 0) :
    Calls Try.prog 15 #[.bool up, .int .i64 2, .int .u32 a, .int .u32 f] w fun e w' => e = .returned (.tuple #[.int .u32 0, .bool false, .int .u32 (setF f 64 true), .int .i64 0]) ∧ w' = w := by
  have wa : IntKind.u64.wrap a = a := by rw [wrap_u64']; omega
  have hq := fun w => Cut_any sz2 a w a0 (by omega)
  rw [h] at hq
  clear h
  go_enter Try.func15, Try.ntmps15
  go_wp2_with fail
  refine (hq _).mono ?_; rintro e w1 ⟨rfl, hw⟩; replace hw := hw.symm; subst hw
  go_wp2_with fail
  refine (Set_any _ _ _ _ f0 f1 fl64).mono ?_; rintro e w1 ⟨rfl, hw⟩; replace hw := hw.symm; subst hw
  go_wp2
  refine bodyPost_ret (results_four rfl _ _ _) rfl ?_
  exact ⟨rfl, rfl⟩

theorem rScan_true2 (a f : Int) (w : World) (a0 : 0 ≤ a) (a1 : a < 4294967296) (f0 : 0 ≤ f) (f1 : f < 4294967296) (h : a % 65536 ≠ 0) :
    Calls Try.prog 15 #[.bool true, .int .i64 2, .int .u32 a, .int .u32 f] w fun e w' => e = .returned (.tuple #[.int .u32 (fstB true (a % 65536) : Int), .bool true, .int .u32 (setF f 64 false), .int .i64 0]) ∧ w' = w := by
  have wa : IntKind.u64.wrap a = a := by rw [wrap_u64']; omega
  have hq := fun w => Cut_any sz2 a w a0 (by omega)
  have x0 : 0 ≤ a % 65536 := by omega
  have x1 : a % 65536 < 65536 := by omega
  have hz : (a % 65536 == 0) = false := by simpa using h
  revert h hq x0 x1 hz
  generalize a % 65536 = x
  intro h hq x0 x1 hz
  have HK : Hid (∃ k, k < 16 ∧ tb x k = true) := (by
    obtain ⟨k, hk, ht⟩ := some_bit x0 (by omega) h
    refine ⟨k, Nat.lt_of_not_le fun hle => ?_, ht⟩
    rw [tb_hi (W := 16) x1 hle] at ht; exact Bool.noConfusion ht : ∃ k, k < 16 ∧ tb x k = true)
  go_enter Try.func15, Try.ntmps15
  go_wp2_with fail
  refine (hq _).mono ?_; rintro e w1 ⟨rfl, hw⟩; replace hw := hw.symm; subst hw
  go_wp2_with fail
  refine (Set_any _ _ _ _ f0 f1 fl64).mono ?_; rintro e w1 ⟨rfl, hw⟩; replace hw := hw.symm; subst hw
  clear hq
  go_wp2
  go_loop [14, 15] (fun c i => ∃ k : Nat, k < 16 ∧ i = .int .i64 k ∧ c = .int .i64 0 ∧ ∀ j, j < k → tb x j = false) (fun _ i => 16 - (intOf i).toNat)
  case atStart => exact ⟨0, by omega, rfl, rfl, fun j hj => by omega⟩
  case round =>
    obtain ⟨k, hk, rfl, rfl, hn⟩ := hrel
    have hb := div_tb x0 k
    have q0 : 0 ≤ x / 2 ^ k := Int.ediv_nonneg x0 (Int.le_of_lt (Int.pow_pos (by decide)))
    by_cases hbit : tb x k = true
    · have HF : Hid _ := fstB_up (by omega) hbit hn
      rw [hbit] at hb
      go_wp2
      refine bodyPost_ret (results_four rfl _ _ _) rfl ?_
      exact ⟨ret_scan (by rw [HF.out]) rfl rfl, rfl⟩
    · have hbf : tb x k = false := by simpa using hbit
      have hk1 : k + 1 < 16 := by
        obtain ⟨m, hm, ht⟩ := HK.out
        refine Nat.lt_of_not_le fun hle => ?_
        have : m < k ∨ m = k := by omega
        rcases this with hc | hc
        · rw [hn m hc] at ht; cases ht
        · rw [hc, hbf] at ht; cases ht
      rw [hbf] at hb
      go_wp2
      exact ⟨⟨k + 1, hk1, by go_num, rfl, fun j hj => by
        by_cases e : j = k
        · rw [e]; exact hbf
        · exact hn j (by omega)⟩, by simp [intOf]; omega⟩

theorem rScan_false2 (a f : Int) (w : World) (a0 : 0 ≤ a) (a1 : a < 4294967296) (f0 : 0 ≤ f) (f1 : f < 4294967296) (h : a % 65536 ≠ 0) :
    Calls Try.prog 15 #[.bool false, .int .i64 2, .int .u32 a, .int .u32 f] w fun e w' => e = .returned (.tuple #[.int .u32 (fstB false (a % 65536) : Int), .bool true, .int .u32 (setF f 64 false), .int .i64 0]) ∧ w' = w := by
  have wa : IntKind.u64.wrap a = a := by rw [wrap_u64']; omega
  have hq := fun w => Cut_any sz2 a w a0 (by omega)
  have x0 : 0 ≤ a % 65536 := by omega
  have x1 : a % 65536 < 65536 := by omega
  have hz : (a % 65536 == 0) = false := by simpa using h
  revert h hq x0 x1 hz
  generalize a % 65536 = x
  intro h hq x0 x1 hz
  have HK : Hid (∃ k, k < 16 ∧ tb x k = true) := (by
    obtain ⟨k, hk, ht⟩ := some_bit x0 (by omega) h
    refine ⟨k, Nat.lt_of_not_le fun hle => ?_, ht⟩
    rw [tb_hi (W := 16) x1 hle] at ht; exact Bool.noConfusion ht : ∃ k, k < 16 ∧ tb x k = true)
  go_enter Try.func15, Try.ntmps15
  go_wp2_with fail
  refine (hq _).mono ?_; rintro e w1 ⟨rfl, hw⟩; replace hw := hw.symm; subst hw
  go_wp2_with fail
  refine (Set_any _ _ _ _ f0 f1 fl64).mono ?_; rintro e w1 ⟨rfl, hw⟩; replace hw := hw.symm; subst hw
  clear hq
  go_wp2
  go_loop [14, 15] (fun c i => ∃ k m : Nat, k ≤ 16 ∧ m < 16 ∧ i = .int .i64 k ∧ c = .int .i64 m ∧ ((∀ j, j < k → tb x j = false) ∨ (tb x m = true ∧ ∀ j, m < j → j < k → tb x j = false))) (fun _ i => 16 - (intOf i).toNat)
  case atStart => exact ⟨0, 0, by omega, by omega, rfl, rfl, Or.inl fun j hj => by omega⟩
  case round =>
    obtain ⟨k, m, hk, hm, rfl, rfl, hn⟩ := hrel
    have HN : Hid _ := hn
    clear hn
    by_cases hlt : k < 16
    · have hb := div_tb x0 k
      have q0 : 0 ≤ x / 2 ^ k := Int.ediv_nonneg x0 (Int.le_of_lt (Int.pow_pos (by decide)))
      by_cases hbit : tb x k = true
      · rw [hbit] at hb
        go_wp2
        exact ⟨⟨k + 1, k, by omega, hlt, by go_num, rfl, Or.inr ⟨hbit, fun j ja jb => by omega⟩⟩, by simp [intOf]; omega⟩
      · have hbf : tb x k = false := by simpa using hbit
        rw [hbf] at hb
        go_wp2
        refine ⟨⟨k + 1, m, by omega, hm, by go_num, rfl, ?_⟩, by simp [intOf]; omega⟩
        rcases HN.out with hn | ⟨ht, hn⟩
        · exact Or.inl fun j hj => by
            by_cases e : j = k
            · rw [e]; exact hbf
            · exact hn j (by omega)
        · exact Or.inr ⟨ht, fun j ja jb => by
            by_cases e : j = k
            · rw [e]; exact hbf
            · exact hn j ja (by omega)⟩
    · have hkw : k = 16 := by omega
      subst hkw
      have HF : Hid (fstB false x = m) := (by
        rcases HN.out with hn | ⟨ht, hn⟩
        · obtain ⟨i, hi, hti⟩ := HK.out
          rw [hn i hi] at hti; cases hti
        · exact fstB_down (by omega) ht fun j ja jb => by
            by_cases e : j < 16
            · exact hn j ja e
            · exact tb_hi (W := 16) x1 (by omega) : fstB false x = m)
      go_wp2
      refine bodyPost_ret (results_four rfl _ _ _) rfl ?_
      exact ⟨ret_scan (by rw [HF.out]) rfl rfl, rfl⟩

theorem rScan_zero4 (up : Bool) (a f : Int) (w : World) (a0 : 0 ≤ a) (a1 : a < 4294967296) (f0 : 0 ≤ f) (f1 : f < 4294967296) (h : a % 4294967296 = 0) :
    Calls Try.prog 15 #[.bool up, .int .i64 4, .int .u32 a, .int .u32 f] w fun e w' => e = .returned (.tuple #[.int .u32 0, .bool false, .int .u32 (setF f 64 true), .int .i64 0]) ∧ w' = w := by
  have wa : IntKind.u64.wrap a = a := by rw [wrap_u64']; omega
  have hq := fun w => Cut_any sz4 a w a0 (by omega)
  rw [h] at hq
  clear h
  go_enter Try.func15, Try.ntmps15
  go_wp2_with fail
  refine (hq _).mono ?_; rintro e w1 ⟨rfl, hw⟩; replace hw := hw.symm; subst hw
  go_wp2_with fail
  refine (Set_any _ _ _ _ f0 f1 fl64).mono ?_; rintro e w1 ⟨rfl, hw⟩; replace hw := hw.symm; subst hw
  go_wp2
  refine bodyPost_ret (results_four rfl _ _ _) rfl ?_
  exact ⟨rfl, rfl⟩

theorem rScan_true4 (a f : Int) (w : World) (a0 : 0 ≤ a) (a1 : a < 4294967296) (f0 : 0 ≤ f) (f1 : f < 4294967296) (h : a % 4294967296 ≠ 0) :
    Calls Try.prog 15 #[.bool true, .int .i64 4, .int .u32 a, .int .u32 f] w fun e w' => e = .returned (.tuple #[.int .u32 (fstB true (a % 4294967296) : Int), .bool true, .int .u32 (setF f 64 false), .int .i64 0]) ∧ w' = w := by
  have wa : IntKind.u64.wrap a = a := by rw [wrap_u64']; omega
  have hq := fun w => Cut_any sz4 a w a0 (by omega)
  have x0 : 0 ≤ a % 4294967296 := by omega
  have x1 : a % 4294967296 < 4294967296 := by omega
  have hz : (a % 4294967296 == 0) = false := by simpa using h
  revert h hq x0 x1 hz
  generalize a % 4294967296 = x
  intro h hq x0 x1 hz
  have HK : Hid (∃ k, k < 32 ∧ tb x k = true) := (by
    obtain ⟨k, hk, ht⟩ := some_bit x0 (by omega) h
    refine ⟨k, Nat.lt_of_not_le fun hle => ?_, ht⟩
    rw [tb_hi (W := 32) x1 hle] at ht; exact Bool.noConfusion ht : ∃ k, k < 32 ∧ tb x k = true)
  go_enter Try.func15, Try.ntmps15
  go_wp2_with fail
  refine (hq _).mono ?_; rintro e w1 ⟨rfl, hw⟩; replace hw := hw.symm; subst hw
  go_wp2_with fail
  refine (Set_any _ _ _ _ f0 f1 fl64).mono ?_; rintro e w1 ⟨rfl, hw⟩; replace hw := hw.symm; subst hw
  clear hq
  go_wp2
  go_loop [14, 15] (fun c i => ∃ k : Nat, k < 32 ∧ i = .int .i64 k ∧ c = .int .i64 0 ∧ ∀ j, j < k → tb x j = false) (fun _ i => 32 - (intOf i).toNat)
  case atStart => exact ⟨0, by omega, rfl, rfl, fun j hj => by omega⟩
  case round =>
    obtain ⟨k, hk, rfl, rfl, hn⟩ := hrel
    have hb := div_tb x0 k
    have q0 : 0 ≤ x / 2 ^ k := Int.ediv_nonneg x0 (Int.le_of_lt (Int.pow_pos (by decide)))
    by_cases hbit : tb x k = true
    · have HF : Hid _ := fstB_up (by omega) hbit hn
      rw [hbit] at hb
      go_wp2
      refine bodyPost_ret (results_four rfl _ _ _) rfl ?_
      exact ⟨ret_scan (by rw [HF.out]) rfl rfl, rfl⟩
    · have hbf : tb x k = false := by simpa using hbit
      have hk1 : k + 1 < 32 := by
        obtain ⟨m, hm, ht⟩ := HK.out
        refine Nat.lt_of_not_le fun hle => ?_
        have : m < k ∨ m = k := by omega
        rcases this with hc | hc
        · rw [hn m hc] at ht; cases ht
        · rw [hc, hbf] at ht; cases ht
      rw [hbf] at hb
      go_wp2
      exact ⟨⟨k + 1, hk1, by go_num, rfl, fun j hj => by
        by_cases e : j = k
        · rw [e]; exact hbf
        · exact hn j (by omega)⟩, by simp [intOf]; omega⟩

theorem rScan_false4 (a f : Int) (w : World) (a0 : 0 ≤ a) (a1 : a < 4294967296) (f0 : 0 ≤ f) (f1 : f < 4294967296) (h : a % 4294967296 ≠ 0) :
    Calls Try.prog 15 #[.bool false, .int .i64 4, .int .u32 a, .int .u32 f] w fun e w' => e = .returned (.tuple #[.int .u32 (fstB false (a % 4294967296) : Int), .bool true, .int .u32 (setF f 64 false), .int .i64 0]) ∧ w' = w := by
  have wa : IntKind.u64.wrap a = a := by rw [wrap_u64']; omega
  have hq := fun w => Cut_any sz4 a w a0 (by omega)
  have x0 : 0 ≤ a % 4294967296 := by omega
  have x1 : a % 4294967296 < 4294967296 := by omega
  have hz : (a % 4294967296 == 0) = false := by simpa using h
  revert h hq x0 x1 hz
  generalize a % 4294967296 = x
  intro h hq x0 x1 hz
  have HK : Hid (∃ k, k < 32 ∧ tb x k = true) := (by
    obtain ⟨k, hk, ht⟩ := some_bit x0 (by omega) h
    refine ⟨k, Nat.lt_of_not_le fun hle => ?_, ht⟩
    rw [tb_hi (W := 32) x1 hle] at ht; exact Bool.noConfusion ht : ∃ k, k < 32 ∧ tb x k = true)
  go_enter Try.func15, Try.ntmps15
  go_wp2_with fail
  refine (hq _).mono ?_; rintro e w1 ⟨rfl, hw⟩; replace hw := hw.symm; subst hw
  go_wp2_with fail
  refine (Set_any _ _ _ _ f0 f1 fl64).mono ?_; rintro e w1 ⟨rfl, hw⟩; replace hw := hw.symm; subst hw
  clear hq
  go_wp2
  go_loop [14, 15] (fun c i => ∃ k m : Nat, k ≤ 32 ∧ m < 32 ∧ i = .int .i64 k ∧ c = .int .i64 m ∧ ((∀ j, j < k → tb x j = false) ∨ (tb x m = true ∧ ∀ j, m < j → j < k → tb x j = false))) (fun _ i => 32 - (intOf i).toNat)
  case atStart => exact ⟨0, 0, by omega, by omega, rfl, rfl, Or.inl fun j hj => by omega⟩
  case round =>
    obtain ⟨k, m, hk, hm, rfl, rfl, hn⟩ := hrel
    have HN : Hid _ := hn
    clear hn
    by_cases hlt : k < 32
    · have hb := div_tb x0 k
      have q0 : 0 ≤ x / 2 ^ k := Int.ediv_nonneg x0 (Int.le_of_lt (Int.pow_pos (by decide)))
      by_cases hbit : tb x k = true
      · rw [hbit] at hb
        go_wp2
        exact ⟨⟨k + 1, k, by omega, hlt, by go_num, rfl, Or.inr ⟨hbit, fun j ja jb => by omega⟩⟩, by simp [intOf]; omega⟩
      · have hbf : tb x k = false := by simpa using hbit
        rw [hbf] at hb
        go_wp2
        refine ⟨⟨k + 1, m, by omega, hm, by go_num, rfl, ?_⟩, by simp [intOf]; omega⟩
        rcases HN.out with hn | ⟨ht, hn⟩
        · exact Or.inl fun j hj => by
            by_cases e : j = k
            · rw [e]; exact hbf
            · exact hn j (by omega)
        · exact Or.inr ⟨ht, fun j ja jb => by
            by_cases e : j = k
            · rw [e]; exact hbf
            · exact hn j ja (by omega)⟩
    · have hkw : k = 32 := by omega
      subst hkw
      have HF : Hid (fstB false x = m) := (by
        rcases HN.out with hn | ⟨ht, hn⟩
        · obtain ⟨i, hi, hti⟩ := HK.out
          rw [hn i hi] at hti; cases hti
        · exact fstB_down (by omega) ht fun j ja jb => by
            by_cases e : j < 32
            · exact hn j ja e
            · exact tb_hi (W := 32) x1 (by omega) : fstB false x = m)
      go_wp2
      refine bodyPost_ret (results_four rfl _ _ _) rfl ?_
      exact ⟨ret_scan (by rw [HF.out]) rfl rfl, rfl⟩

theorem rScan_zero {s H M : Int} {W : Nat} (hS : Sw s H M W) (up : Bool) (a f : Int) (w : World) (hk : wideSize s = true) (a0 : 0 ≤ a) (a1 : a < 4294967296) (f0 : 0 ≤ f) (f1 : f < 4294967296) (h : a % M = 0) :
    Calls Try.prog 15 #[.bool up, .int .i64 s, .int .u32 a, .int .u32 f] w fun e w' => e = .returned (.tuple #[.int .u32 0, .bool false, .int .u32 (setF f 64 true), .int .i64 0]) ∧ w' = w := by
  rcases hS with ⟨rfl, rfl, rfl, rfl⟩ | ⟨rfl, rfl, rfl, rfl⟩ | ⟨rfl, rfl, rfl, rfl⟩
  · exact absurd hk (by decide)
  · exact rScan_zero2 up a f w a0 a1 f0 f1 h
  · exact rScan_zero4 up a f w a0 a1 f0 f1 h

theorem rScan_ok {s H M : Int} {W : Nat} (hS : Sw s H M W) (up : Bool) (a f : Int) (w : World) (hk : wideSize s = true) (a0 : 0 ≤ a) (a1 : a < 4294967296) (f0 : 0 ≤ f) (f1 : f < 4294967296) (h : a % M ≠ 0) :
    Calls Try.prog 15 #[.bool up, .int .i64 s, .int .u32 a, .int .u32 f] w fun e w' => e = .returned (.tuple #[.int .u32 (fstB up (a % M) : Int), .bool true, .int .u32 (setF f 64 false), .int .i64 0]) ∧ w' = w := by
  rcases hS with ⟨rfl, rfl, rfl, rfl⟩ | ⟨rfl, rfl, rfl, rfl⟩ | ⟨rfl, rfl, rfl, rfl⟩
  · exact absurd hk (by decide)
  · cases up
    · exact rScan_false2 a f w a0 a1 f0 f1 h
    · exact rScan_true2 a f w a0 a1 f0 f1 h
  · cases up
    · exact rScan_false4 a f w a0 a1 f0 f1 h
    · exact rScan_true4 a f w a0 a1 f0 f1 h
end Go.Proofs.Ytelclgelooljlaa
