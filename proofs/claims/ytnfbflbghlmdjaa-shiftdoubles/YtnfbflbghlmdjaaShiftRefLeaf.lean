/- Contracts of the document's small answers of layer 2 (package drawloomref02): for every input within their kinds they return what is named, and the world stays. -/
import Derived.Test.YtnfbflbghlmdjaaRef01
import Derived.Test.YtnfbflbghlmdjaaShiftSpec
namespace Go.Proofs.Ytnfbflbghlmdjaa
open Go.ChangeShapes Go.WideShapes Go.ChangeAt Go.RowKit
set_option linter.unusedVariables false

theorem bit_any (n i : Int) (w : World) (n0 : 0 ≤ n) (n1 : n < 18446744073709551616) (i0 : 0 ≤ i) (i1 : i < 64) :
    Calls Try.prog 26 #[.int .u64 n, .int .i64 i] w fun e w' => e = .returned (.bool (tb n i.toNat)) ∧ w' = w := by
  obtain ⟨j, rfl⟩ := Int.eq_ofNat_of_zero_le i0
  have HE : Hid ((n / 2 ^ j % 2 == 1) = tb n (j : Int).toNat) := (by rw [Int.toNat_natCast, tb_div n n0 j, ← pw_cast]; rw [Bool.eq_iff_iff]; simp : (n / 2 ^ j % 2 == 1) = tb n (j : Int).toNat)
  have hq : 0 ≤ n / 2 ^ j := Int.ediv_nonneg n0 (Int.le_of_lt (Int.pow_pos (by decide)))
  go_enter Try.func26, Try.ntmps26
  go_wp2
  go_ret
  exact ⟨ret_bool HE.out, rfl⟩

theorem bit_neg (n i : Int) (w : World) (i0 : i < 0) :
    Calls Try.prog 26 #[.int .u64 n, .int .i64 i] w fun e w' => e = .returned (.bool false) ∧ w' = w := by
  have g : decide (0 ≤ i) = false := by simp; omega
  go_enter Try.func26, Try.ntmps26
  go_wp2
  go_ret
  exact ⟨rfl, rfl⟩

theorem CutR_any {R : Nat} (hR : isR R) (n : Int) (w : World) (n0 : 0 ≤ n) (n1 : n < 18446744073709551616) :
    Calls Try.prog 21 #[.int .u64 n, .int .i64 (R : Int)] w fun e w' => e = .returned (.int .u64 (n % ((2 ^ R : Nat) : Int))) ∧ w' = w := by
  rcases hR with rfl | rfl | rfl | rfl | rfl | rfl
  all_goals
    go_enter Try.func21, Try.ntmps21
    go_wp2
    go_ret
    exact ⟨rfl, rfl⟩

theorem left_any {R : Nat} (hR : isR R) (n : Int) (w : World) (n0 : 0 ≤ n) (n1 : n < ((2 ^ R : Nat) : Int)) :
    Calls Try.prog 50 #[.int .u64 n, .int .i64 (R : Int)] w fun e w' => e = .returned (.int .u64 (turn R n 1)) ∧ w' = w := by
  have HE : Hid _ := turn_one hR n0 n1
  have HR : Hid (isR R) := hR
  have n2 : n < 8589934592 := by
    rcases hR with rfl | rfl | rfl | rfl | rfl | rfl <;> simp only [Nat.reducePow] at n1 <;> omega
  clear n1
  rcases hR with rfl | rfl | rfl | rfl | rfl | rfl
  all_goals
    go_enter Try.func50, Try.ntmps50
    go_wp2_with (go_at_call 21; refine (CutR_any HR.out _ _ (by omega) (by omega)).mono ?_; rintro e w' ⟨rfl, hw⟩; replace hw := hw.symm; subst hw; simp only [Nat.reducePow])
    go_wp2
    go_ret
    exact ⟨ret_int HE.out, rfl⟩

theorem turned_any {R : Nat} (hR : isR R) (n : Int) (c : Nat) (w : World) (n0 : 0 ≤ n) (n1 : n < ((2 ^ R : Nat) : Int)) (hc : c ≤ 200) :
    Calls Try.prog 46 #[.int .u64 n, .int .i64 (R : Int), .int .i64 (c : Int)] w fun e w' => e = .returned (.int .u64 (turn R n c)) ∧ w' = w := by
  have HN : Hid _ := n1
  have HZ : Hid (turn R n 0 = n) := turn_zero n0 n1 (Nat.zero_mod R)
  have HT : Hid (∀ j, turn R (turn R n j) 1 = turn R n (j + 1)) := fun j => turn_turn hR n0 n1 j 1
  have hR1 : R ≤ 33 := by unfold isR at hR; omega
  clear n1
  go_enter Try.func46, Try.ntmps46
  go_wp2
  go_loop [0, 7] (fun v i => ∃ j : Nat, j ≤ c ∧ i = .int .i64 j ∧ v = .int .u64 (turn R n j)) (fun _ i => c - (intOf i).toNat)
  case atStart => exact ⟨0, by omega, rfl, by rw [HZ.out]⟩
  case round =>
    obtain ⟨j, hj, rfl, rfl⟩ := hrel
    by_cases hlt : j < c
    · have tb0 := turn_bd R n j
      have B : Hid _ := tb0
      clear tb0
      go_wp2_with (go_at_call 50; refine (left_any hR _ _ B.out.1 B.out.2).mono ?_; rintro e w' ⟨rfl, hw⟩; replace hw := hw.symm; subst hw)
      exact ⟨⟨j + 1, by omega, by go_num, by rw [HT.out]⟩, by simp [intOf]; omega⟩
    · have : j = c := by omega
      subst this
      go_wp2
      go_ret
      exact ⟨rfl, rfl⟩

theorem swap_af {f : Int} (f0 : 0 ≤ f) (f1 : f < 4294967296) (c v : Bool) : setF (setF (setF f 16 false) 1 c) 2048 v = setF (setF (setF f 1 c) 2048 v) 16 false := by
  refine tb_ext (bd3 f0 f1 _ _ _ fl16 fl1 fl2048 _ _ _).1 (bd3 f0 f1 _ _ _ fl1 fl2048 fl16 _ _ _).1 fun i => ?_
  rw [tb_set2048 (bd2 f0 f1 _ _ fl16 fl1 _ _).1, tb_set1 (bd1 f0 f1 _ fl16 _).1, tb_set16 f0, tb_set16 (bd2 f0 f1 _ _ fl1 fl2048 _ _).1, tb_set2048 (bd1 f0 f1 _ fl1 _).1, tb_set1 f0]
  by_cases h4 : i = 4
  · subst h4; simp
  · simp [h4]

theorem pow_split {k : Nat} (k2 : k ≤ 64) : (18446744073709551616 : Int) = ((2 ^ (64 - k) : Nat) : Int) * ((2 ^ k : Nat) : Int) := by
  rw [← Int.natCast_mul, ← Nat.pow_add, show 64 - k + k = 64 by omega]; rfl

theorem sar_wide {s H M : Int} {W : Nat} (hS : Sw s H M W) {x : Int} (x0 : 0 ≤ x) (x1 : x < M) (hx : H ≤ x) {k : Nat} (k1 : 1 ≤ k) (k2 : k ≤ 31) :
    (x + 18446744073709551616 - M) / ((2 ^ k : Nat) : Int) % M = sgv M H x / ((2 ^ k : Nat) : Int) % M ∧ tb (x + 18446744073709551616 - M) (k - 1) = decide (sgv M H x / ((2 ^ (k - 1) : Nat) : Int) % 2 = 1) := by
  have p := hS.pow
  have hg : sgv M H x = x - M := by unfold sgv; rw [if_neg (by omega)]
  have pk := pw_pos k
  have pk1 := pw_pos (k - 1)
  have e1 : x + 18446744073709551616 - M = sgv M H x + ((2 ^ (64 - k) : Nat) : Int) * ((2 ^ k : Nat) : Int) := by rw [hg, ← pow_split (k := k) (by omega)]; omega
  have e2 : x + 18446744073709551616 - M = sgv M H x + ((2 ^ (64 - (k - 1)) : Nat) : Int) * ((2 ^ (k - 1) : Nat) : Int) := by rw [hg, ← pow_split (k := k - 1) (by omega)]; omega
  refine ⟨?_, ?_⟩
  · rw [e1, Int.add_mul_ediv_right _ _ (by omega)]
    have : ((2 ^ (64 - k) : Nat) : Int) = ((2 ^ (64 - k - W) : Nat) : Int) * M := by rw [p.1, ← Int.natCast_mul, ← Nat.pow_add, show 64 - k - W + W = 64 - k by omega]
    rw [this, Int.add_mul_emod_self_right]
  · rw [tb_div _ (by omega), e2, Int.add_mul_ediv_right _ _ (by omega)]
    have : ((2 ^ (64 - (k - 1)) : Nat) : Int) = ((2 ^ (64 - (k - 1) - 1) : Nat) : Int) * 2 := by
      rw [show (2 : Int) = ((2 : Nat) : Int) from rfl, ← Int.natCast_mul, ← Nat.pow_succ, show (64 - (k - 1) - 1).succ = 64 - (k - 1) by omega]
    rw [this, Int.add_mul_emod_self_right]

theorem sar_low {s H M : Int} {W : Nat} (hS : Sw s H M W) {x : Int} (x0 : 0 ≤ x) (hx : x < H) (k : Nat) :
    x / ((2 ^ k : Nat) : Int) % M = sgv M H x / ((2 ^ k : Nat) : Int) % M ∧ tb x (k - 1) = decide (sgv M H x / ((2 ^ (k - 1) : Nat) : Int) % 2 = 1) := by
  have hg : sgv M H x = x := by unfold sgv; rw [if_pos hx]
  rw [hg]
  exact ⟨rfl, tb_div x x0 _⟩
end Go.Proofs.Ytnfbflbghlmdjaa
