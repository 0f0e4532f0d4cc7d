/- Contracts of the small functions of package shift: for every input within their kinds they return what is named, and the world has at most new blocks. -/
import Derived.Test.YtnfbflbghlmdjaaBase
import Derived.Test.YtnfbflbghlmdjaaShiftSpec
namespace Go.Proofs.Ytnfbflbghlmdjaa
open Go.ChangeShapes Go.WideShapes Go.ChangeAt Go.RowKit
set_option linter.unusedVariables false

theorem lowFive_any (c : Int) (w : World) (c0 : 0 ≤ c) (c1 : c < 4294967296) :
    Calls Try.prog 16 #[.int .u32 c] w fun e w' => e = .returned (.int .u32 (c % 32)) ∧ w' = w := by
  go_enter Try.func16, Try.ntmps16
  go_wp2
  go_ret
  exact ⟨ret_int (and_31 c0 c1), rfl⟩

theorem cut_any {s H M : Int} {W : Nat} (hS : Sw s H M W) (n : Int) (w : World) (n0 : 0 ≤ n) (n1 : n < 18446744073709551616) :
    Calls Try.prog 15 #[.int .u64 (W : Int), .int .u64 n] w fun e w' => e = .returned (.int .u32 (n % M)) ∧ w' = w := by
  rcases hS with ⟨rfl, rfl, rfl, rfl⟩ | ⟨rfl, rfl, rfl, rfl⟩ | ⟨rfl, rfl, rfl, rfl⟩
  · go_enter Try.func15, Try.ntmps15
    go_wp2
    go_ret
    exact ⟨ret_int (and_mask n0 n1 8 (by decide)), rfl⟩
  · go_enter Try.func15, Try.ntmps15
    go_wp2
    go_ret
    exact ⟨ret_int (and_mask n0 n1 16 (by decide)), rfl⟩
  · go_enter Try.func15, Try.ntmps15
    go_wp2
    go_ret
    exact ⟨ret_int (and_mask n0 n1 32 (by decide)), rfl⟩

theorem bit_ret {n : Int} (n0 : 0 ≤ n) (n1 : n < 4294967296) (j : Nat) : bits .and .u32 (n / ((2 ^ j : Nat) : Int)) 1 = flg (tb n j) 1 := by
  have b := div_bd n0 n1 j
  rw [and_1 b.1 b.2, flg_tb n0]

theorem top_any {s H M : Int} {W : Nat} (hS : Sw s H M W) (n : Int) (w : World) (n0 : 0 ≤ n) (n1 : n < 4294967296) :
    Calls Try.prog 30 #[.int .u64 (W : Int), .int .u32 n] w fun e w' => e = .returned (.int .u32 (flg (tb n (W - 1)) 1)) ∧ w' = w := by
  rcases hS with ⟨rfl, rfl, rfl, rfl⟩ | ⟨rfl, rfl, rfl, rfl⟩ | ⟨rfl, rfl, rfl, rfl⟩
  · go_enter Try.func30, Try.ntmps30
    go_wp2
    go_ret
    exact ⟨ret_int (bit_ret n0 n1 7), rfl⟩
  · go_enter Try.func30, Try.ntmps30
    go_wp2
    go_ret
    exact ⟨ret_int (bit_ret n0 n1 15), rfl⟩
  · go_enter Try.func30, Try.ntmps30
    go_wp2
    go_ret
    exact ⟨ret_int (bit_ret n0 n1 31), rfl⟩

theorem second_any {s H M : Int} {W : Nat} (hS : Sw s H M W) (n : Int) (w : World) (n0 : 0 ≤ n) (n1 : n < 4294967296) :
    Calls Try.prog 32 #[.int .u64 (W : Int), .int .u32 n] w fun e w' => e = .returned (.int .u32 (flg (tb n (W - 2)) 1)) ∧ w' = w := by
  rcases hS with ⟨rfl, rfl, rfl, rfl⟩ | ⟨rfl, rfl, rfl, rfl⟩ | ⟨rfl, rfl, rfl, rfl⟩
  · go_enter Try.func32, Try.ntmps32
    go_wp2
    go_ret
    exact ⟨ret_int (bit_ret n0 n1 6), rfl⟩
  · go_enter Try.func32, Try.ntmps32
    go_wp2
    go_ret
    exact ⟨ret_int (bit_ret n0 n1 14), rfl⟩
  · go_enter Try.func32, Try.ntmps32
    go_wp2
    go_ret
    exact ⟨ret_int (bit_ret n0 n1 30), rfl⟩

theorem signed_any {s H M : Int} {W : Nat} (hS : Sw s H M W) (n : Int) (w : World) (n0 : 0 ≤ n) (n1 : n < M) :
    Calls Try.prog 44 #[.int .u64 (W : Int), .int .u32 n] w fun e w' => e = .returned (.int .i64 (sgv M H n)) ∧ w' = w := by
  rcases hS with ⟨rfl, rfl, rfl, rfl⟩ | ⟨rfl, rfl, rfl, rfl⟩ | ⟨rfl, rfl, rfl, rfl⟩
  · go_enter Try.func44, Try.ntmps44
    go_wp2
    go_ret
    exact ⟨ret_int (by unfold sgv wrap64; split <;> omega), rfl⟩
  · go_enter Try.func44, Try.ntmps44
    go_wp2
    go_ret
    exact ⟨ret_int (by unfold sgv wrap64; split <;> omega), rfl⟩
  · go_enter Try.func44, Try.ntmps44
    go_wp2
    go_ret
    exact ⟨ret_int (by unfold sgv wrap64; split <;> omega), rfl⟩

theorem turnLeft_any {R : Nat} (hR : isR R) (k : Nat) (n : Int) (w : World) (n0 : 0 ≤ n) (n1 : n < ((2 ^ R : Nat) : Int)) (hk : k ≤ 33) :
    Calls Try.prog 37 #[.int .u64 n, .int .u32 (R : Int), .int .u32 (k : Int)] w fun e w' => e = .returned (.int .u64 (turn R n k)) ∧ w' = w := by
  have HC : Hid (bits .and .u64 (bits .or .u64 (IntKind.u64.wrap (n * 2 ^ (k % R))) (n / 2 ^ (R - k % R))) (((2 ^ R - 1 : Nat)) : Int) = turn R n k) := turn_code (by unfold isR at hR; omega) (Nat.mod_lt _ (by unfold isR at hR; omega)) n0 n1
  have n2 : n < 18446744073709551616 := by
    rcases hR with rfl | rfl | rfl | rfl | rfl | rfl <;> simp only [Nat.reducePow] at n1 <;> omega
  clear n1
  rcases hR with rfl | rfl | rfl | rfl | rfl | rfl
  all_goals
    go_enter Try.func37, Try.ntmps37
    go_wp2
    go_ret
    exact ⟨ret_int HC.out, rfl⟩

theorem turnBack_any {R : Nat} (hR : isR R) (k : Nat) (n : Int) (w : World) (n0 : 0 ≤ n) (n1 : n < ((2 ^ R : Nat) : Int)) (hk : k ≤ 31) :
    Calls Try.prog 37 #[.int .u64 n, .int .u32 (R : Int), .int .u32 ((R : Int) - (k : Int) % (R : Int))] w fun e w' => e = .returned (.int .u64 (turn R n (4 * R - k))) ∧ w' = w := by
  have h := turnLeft_any hR (R - k % R) n w n0 n1 (by unfold isR at hR; omega)
  rw [show ((R - k % R : Nat) : Int) = (R : Int) - (k : Int) % (R : Int) by rcases hR with rfl | rfl | rfl | rfl | rfl | rfl <;> omega, turn_mod R n (k := R - k % R) (l := 4 * R - k) (by rcases hR with rfl | rfl | rfl | rfl | rfl | rfl <;> omega)] at h
  exact h

theorem turnRight_any {R : Nat} (hR : isR R) (k : Nat) (n : Int) (w : World) (n0 : 0 ≤ n) (n1 : n < ((2 ^ R : Nat) : Int)) (hk : k ≤ 31) :
    Calls Try.prog 39 #[.int .u64 n, .int .u32 (R : Int), .int .u32 (k : Int)] w fun e w' => e = .returned (.int .u64 (turn R n (4 * R - k))) ∧ w' = w := by
  have N1 : Hid (n < ((2 ^ R : Nat) : Int)) := n1
  have HR : Hid (isR R) := hR
  clear n1
  rcases hR with rfl | rfl | rfl | rfl | rfl | rfl
  all_goals
    go_enter Try.func39, Try.ntmps39
    go_wp2_with fail
    refine (turnBack_any HR.out k n _ n0 N1.out hk).mono ?_; rintro e w' ⟨rfl, hw⟩; replace hw := hw.symm; subst hw
    go_wp2
    go_ret
    exact ⟨rfl, rfl⟩

theorem marked_any (r f : Int) (c v : Bool) (w : World) (f0 : 0 ≤ f) (f1 : f < 4294967296) :
    Calls Try.prog 18 #[.agg #[.int .u32 r, .int .u32 (flg c 1), .int .u32 (flg v 1)], .int .u32 f] w fun e w' => e = .returned (.int .u32 (setF (setF f 1 c) 2048 v)) ∧ Grown w w' := by
  have HC : Hid _ := mark_bits f0 f1 c v
  have e1 : flg true 1 = 1 := rfl
  have e0 : flg false 1 = 0 := rfl
  cases c <;> cases v
  all_goals
    simp only [e1, e0]
    go_enter Try.func18, Try.ntmps18
    go_wp2
    go_ret
    exact ⟨ret_int HC.out, Grown.alloc (Grown.refl _) _ _⟩

theorem by212_if {f : Int} (f0 : 0 ≤ f) (f1 : f < 4294967296) (z p s : Bool) :
    bits .or .u32 (bif p then bits .or .u32 (bif z then bits .or .u32 (bits .andNot .u32 f 212) 64 else bits .andNot .u32 f 212) 4 else (bif z then bits .or .u32 (bits .andNot .u32 f 212) 64 else bits .andNot .u32 f 212)) (flg s 128) = setF (setF (setF (setF f 16 false) 64 z) 128 s) 4 p := by
  have h := by_bits212 f0 f1 z p s
  have a1 := andNot_bd f0 f1 (b := 212) (by decide) (by decide)
  have e1 : bits .or .u32 (bits .andNot .u32 f 212) (flg z 64) = (bif z then bits .or .u32 (bits .andNot .u32 f 212) 64 else bits .andNot .u32 f 212) := by
    cases z
    · exact or_zero' a1.1 a1.2
    · rfl
  have a2 := flg_bd z 64 (by decide) (by decide)
  have a3 := or_bd a1.1 a1.2 a2.1 a2.2
  rw [e1] at h a3
  rw [← h]
  cases p
  · show _ = bits .or .u32 (bits .or .u32 _ 0) _
    rw [or_zero' a3.1 a3.2]; rfl
  · rfl

theorem byResult_any {s H M : Int} {W : Nat} (hS : Sw s H M W) (x f : Int) (w : World) (x0 : 0 ≤ x) (x1 : x < M) (f0 : 0 ≤ f) (f1 : f < 4294967296) :
    Calls Try.prog 19 #[.int .u64 (W : Int), .int .u32 x, .int .u32 f] w fun e w' => e = .returned (.int .u32 (byF H x (setF f 16 false))) ∧ w' = w := by
  have mt := hS.pow.2.2.2.2.1
  have he : setF (setF (setF (setF f 16 false) 64 (x == 0)) 128 (tb x (W - 1))) 4 (par x) = byF H x (setF f 16 false) := by
    unfold byF; rw [hS.sgn x0 x1]
  have HC : Hid _ := (by212_if f0 f1 (x == 0) (par x) (tb x (W - 1))).trans he
  clear he
  have ho := ones_bd x
  have e1 : flg true 1 = 1 := rfl
  have e0 : flg false 1 = 0 := rfl
  have x2 : x < 4294967296 := by omega
  have hW : 8 ≤ W ∧ W ≤ 32 := ⟨hS.pow.2.2.1, hS.pow.2.2.2.1⟩
  generalize byF H x (setF f 16 false) = out at *
  unfold par at HC
  cases hz : (x == 0) <;> cases hp : (ones x % 2 == 0) <;> cases ht : tb x (W - 1)
  all_goals
    rw [hz, hp, ht] at HC
    go_enter Try.func19, Try.ntmps19
    go_wp2_with (first
      | (go_at_call 45; refine (onesCount_any _ _).mono ?_; rintro e w' ⟨rfl, hw⟩; replace hw := hw.symm; subst hw)
      | (go_at_call 30; refine (top_any hS _ _ x0 x2).mono ?_; rintro e w' ⟨rfl, hw⟩; replace hw := hw.symm; subst hw; simp only [ht, e1, e0]))
    go_wp2
    go_ret
    exact ⟨ret_int HC.out, rfl⟩
end Go.Proofs.Ytnfbflbghlmdjaa
