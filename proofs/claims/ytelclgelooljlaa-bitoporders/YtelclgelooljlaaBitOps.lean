/- Contracts of bitop.Bit, Scan and Extend: for every input within their kinds they return what is named, and the world stays. -/
import Derived.Test.YtelclgelooljlaaBitLeaf
namespace Go.Proofs.Ytelclgelooljlaa
open Go.ChangeShapes Go.WideShapes Go.ChangeAt Go.RowKit
set_option linter.unusedVariables false

theorem ret_scan {k l m : IntKind} {a b c d e f : Int} {x : Bool} (h : a = b) (g : c = d) (i : e = f) : Ending.returned (.tuple #[.int k a, .bool x, .int l c, .int m e]) = .returned (.tuple #[.int k b, .bool x, .int l d, .int m f]) := by rw [h, g, i]

theorem results_four {fn : Func} {t u v x : Tmp} (h : fn.results = #[.tmp t, .tmp u, .tmp v, .tmp x]) (tmps : Array Value) (P : Program) (w : World) :
    (results fn tmps).run P w = .ok (.tuple #[tmps.getD t undef, tmps.getD u undef, tmps.getD v undef, tmps.getD x undef]) w := by 
  simp [results, h]

theorem and1_mod {x : Int} (x0 : 0 ≤ x) (x1 : x < 4294967296) : bits .and .u32 x 1 = x % 2 := by
  have h := Nat.and_two_pow_sub_one_eq_mod x.toNat 1
  have e : (1 : Int).toNat = 2 ^ 1 - 1 := by decide
  rw [u32_and x 1 x0 x1 (by decide) (by decide), e, h]
  omega

theorem and1_tb {x : Int} (x0 : 0 ≤ x) (x1 : x < 4294967296) (j : Nat) : (bits .and .u32 (x / 2 ^ j) 1 == 1) = tb x j := by
  have hp : (2 : Int) ^ j = ((2 ^ j : Nat) : Int) := by push_cast; rfl
  have p := pw_pos j
  have q0 : 0 ≤ x / ((2 ^ j : Nat) : Int) := Int.ediv_nonneg x0 (by omega)
  have q1 : x / ((2 ^ j : Nat) : Int) ≤ x := Int.ediv_le_self _ x0
  rw [hp, and1_mod q0 (by omega), tb_div x x0 j, Bool.eq_iff_iff]
  simp

theorem btFirst_up (x : Int) (w : World) (x0 : 0 ≤ x) (x1 : x < 4294967296) (h : x ≠ 0) :
    Calls Try.prog 29 #[.bool true, .int .u32 x] w fun e w' => e = .returned (.int .u32 (fstB true x : Int)) ∧ w' = w := by
  have HK : Hid _ := some_bit x0 x1 h
  go_enter Try.func29, Try.ntmps29
  go_wp2
  go_step3
  go_wp2
  go_step3
  go_wp2
  go_loop [5] (fun i => ∃ k : Nat, k < 32 ∧ i = .int .u32 k ∧ ∀ j, j < k → tb x j = false) (fun i => 32 - (intOf i).toNat)
  case atStart => exact ⟨0, by omega, rfl, fun j hj => by omega⟩
  case round =>
    obtain ⟨k, hk, rfl, hn⟩ := hrel
    have hb := and1_tb x0 x1 k
    by_cases hbit : tb x k = true
    · have HF : Hid _ := fstB_up hk hbit hn
      rw [hbit] at hb
      go_wp2
      go_ret
      exact ⟨ret_int (by rw [HF.out]), rfl⟩
    · have hbf : tb x k = false := by simpa using hbit
      have hk1 : k + 1 < 32 := by
        obtain ⟨m, hm, ht⟩ := HK.out
        refine Nat.lt_of_not_le fun hle => ?_
        have : m < k ∨ m = k := by omega
        rcases this with hc | hc
        · rw [hn m hc] at ht; cases ht
        · rw [hc, hbf] at ht; cases ht
      rw [hbf] at hb
      go_wp2
      exact ⟨⟨k + 1, hk1, by go_num, fun j hj => by
        by_cases e : j = k
        · rw [e]; exact hbf
        · exact hn j (by omega)⟩, by simp [intOf]; omega⟩

theorem btFirst_down (x : Int) (w : World) (x0 : 0 ≤ x) (x1 : x < 4294967296) (h : x ≠ 0) :
    Calls Try.prog 29 #[.bool false, .int .u32 x] w fun e w' => e = .returned (.int .u32 (fstB false x : Int)) ∧ w' = w := by
  have HK : Hid _ := some_bit x0 x1 h
  go_enter Try.func29, Try.ntmps29
  go_wp2
  go_step3
  go_wp2
  go_step3
  go_wp2
  go_loop [5] (fun i => ∃ k : Nat, k < 32 ∧ i = .int .u32 k ∧ ∀ j, k < j → j < 32 → tb x j = false) (fun i => (intOf i).toNat)
  case atStart => exact ⟨31, by omega, rfl, fun j hj hl => by omega⟩
  case round =>
    obtain ⟨k, hk, rfl, hn⟩ := hrel
    have hb := and1_tb x0 x1 k
    by_cases hbit : tb x k = true
    · have HF : Hid _ := fstB_down hk hbit hn
      rw [hbit] at hb
      go_wp2
      go_ret
      exact ⟨ret_int (by rw [HF.out]), rfl⟩
    · have hbf : tb x k = false := by simpa using hbit
      have hk1 : 0 < k := by
        obtain ⟨m, hm, ht⟩ := HK.out
        refine Nat.lt_of_not_le fun hle => ?_
        have : k < m ∨ m = k := by omega
        rcases this with hc | hc
        · rw [hn m hc hm] at ht; cases ht
        · rw [hc, hbf] at ht; cases ht
      rw [hbf] at hb
      go_wp2
      exact ⟨⟨k - 1, by omega, by go_num, fun j hj hl => by
        by_cases e : j = k
        · rw [e]; exact hbf
        · exact hn j (by omega) hl⟩, by simp [intOf]; omega⟩

theorem btFirst_any (up : Bool) (x : Int) (w : World) (x0 : 0 ≤ x) (x1 : x < 4294967296) (h : x ≠ 0) :
    Calls Try.prog 29 #[.bool up, .int .u32 x] w fun e w' => e = .returned (.int .u32 (fstB up x : Int)) ∧ w' = w := by
  cases up
  · exact btFirst_down x w x0 x1 h
  · exact btFirst_up x w x0 x1 h

theorem btScan_no (up : Bool) (s a f : Int) (w : World) (hk : wideSize s = false) :
    Calls Try.prog 14 #[.bool up, .int .i64 s, .int .u32 a, .int .u32 f] w fun e w' => e = .returned (.tuple #[.int .u32 0, .bool false, .int .u32 0, .int .i64 2]) ∧ w' = w := by
  go_enter Try.func14, Try.ntmps14
  go_wp2_with (go_at_call 23; refine (btIsWide_any _ _).mono ?_; rintro e w1 ⟨rfl, hw⟩; replace hw := hw.symm; subst hw)
  refine bodyPost_ret (results_four rfl _ _ _) rfl ?_
  exact ⟨rfl, rfl⟩

theorem btScan_zero {s H M : Int} {W : Nat} (hS : Sw s H M W) (up : Bool) (a f : Int) (w : World) (hk : wideSize s = true) (a0 : 0 ≤ a) (a1 : a < 4294967296) (f0 : 0 ≤ f) (f1 : f < 4294967296) (h : a % M = 0) :
    Calls Try.prog 14 #[.bool up, .int .i64 s, .int .u32 a, .int .u32 f] w fun e w' => e = .returned (.tuple #[.int .u32 0, .bool false, .int .u32 (setF f 64 true), .int .i64 0]) ∧ w' = w := by
  go_enter Try.func14, Try.ntmps14
  go_wp2_with (first
    | (go_at_call 23; refine (btIsWide_any _ _).mono ?_; rintro e w1 ⟨rfl, hw⟩; replace hw := hw.symm; subst hw)
    | (go_at_call 24; refine (btCut_any hS _ _ a0 a1).mono ?_; rintro e w1 ⟨rfl, hw⟩; replace hw := hw.symm; subst hw)
    | (go_at_call 26; refine (btMark64 _ _ _ f0 f1).mono ?_; rintro e w1 ⟨rfl, hw⟩; replace hw := hw.symm; subst hw))
  refine bodyPost_ret (results_four rfl _ _ _) rfl ?_
  exact ⟨rfl, rfl⟩

theorem btScan_ok {s H M : Int} {W : Nat} (hS : Sw s H M W) (up : Bool) (a f : Int) (w : World) (hk : wideSize s = true) (a0 : 0 ≤ a) (a1 : a < 4294967296) (f0 : 0 ≤ f) (f1 : f < 4294967296) (h : a % M ≠ 0) :
    Calls Try.prog 14 #[.bool up, .int .i64 s, .int .u32 a, .int .u32 f] w fun e w' => e = .returned (.tuple #[.int .u32 (fstB up (a % M) : Int), .bool true, .int .u32 (setF f 64 false), .int .i64 0]) ∧ w' = w := by
  have mp := hS.pow.2.2.2.2.2.1
  have mt := hS.pow.2.2.2.2.1
  have x0 := (mod_bd mp a).1
  have x1 := (mod_bd mp a).2
  have hz : (a % M == 0) = false := by simpa using h
  have hq := fun w => btCut_any hS a w a0 a1
  revert hz hq h x0 x1
  generalize a % M = x
  intro h x0 x1 hz hq
  have x2 : x < 4294967296 := by omega
  clear x1 mt mp
  go_enter Try.func14, Try.ntmps14
  go_wp2_with (first
    | (go_at_call 23; refine (btIsWide_any _ _).mono ?_; rintro e w1 ⟨rfl, hw⟩; replace hw := hw.symm; subst hw)
    | (go_at_call 24; refine (hq _).mono ?_; rintro e w1 ⟨rfl, hw⟩; replace hw := hw.symm; subst hw)
    | (go_at_call 29; refine (btFirst_any _ _ _ x0 x2 h).mono ?_; rintro e w1 ⟨rfl, hw⟩; replace hw := hw.symm; subst hw)
    | (go_at_call 26; refine (btMark64 _ _ _ f0 f1).mono ?_; rintro e w1 ⟨rfl, hw⟩; replace hw := hw.symm; subst hw))
  refine bodyPost_ret (results_four rfl _ _ _) rfl ?_
  exact ⟨rfl, rfl⟩
end Go.Proofs.Ytelclgelooljlaa
