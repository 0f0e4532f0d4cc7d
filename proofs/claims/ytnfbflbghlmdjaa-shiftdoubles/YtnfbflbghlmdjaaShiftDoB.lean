/- The contract of shift.Do, of more operations: for every input within its kinds it returns the result, the flags and the error that are named, and the world has at most new blocks. -/
import Derived.Test.YtnfbflbghlmdjaaShiftDoA
namespace Go.Proofs.Ytnfbflbghlmdjaa
open Go.ChangeShapes Go.WideShapes Go.ChangeAt Go.RowKit
set_option linter.unusedVariables false

set_option maxRecDepth 20000 in
set_option maxHeartbeats 1000000 in
theorem Do_1 {s H M : Int} {W : Nat} (hS : Sw s H M W) (a n f : Int) (k : Nat) (w : World) (a0 : 0 ≤ a) (a1 : a < 4294967296) (n0 : 0 ≤ n) (n1 : n < 4294967296) (f0 : 0 ≤ f) (f1 : f < 4294967296) (hk : n % 32 = (k : Int)) (k1 : 1 ≤ k) :
    Calls Try.prog 10 #[.int .i64 1, .int .i64 s, .int .u32 a, .int .u32 n, .int .u32 f] w fun e w' =>
      e = .returned (.tuple #[.int .u32 (mvR 1 H M W (a % M) k (tb f 0)), .int .u32 (mvF 1 H M W (a % M) k f), .int .i64 0]) ∧ Grown w w' := by
  have p := hS.pow
  have hx := mod_bd (M := M) (by omega) a
  have m0 : 0 < M := by omega
  obtain ⟨x0, x1⟩ := hx
  have k2 : k ≤ 31 := by omega
  have hf := cf_of f0 f1
  have hwa : IntKind.u64.wrap a = a := by rw [wrap_u64']; omega
  have nk : ((k : Int) == 0) = false := by simp; omega
  have hR : Hid (0 ≤ mvR 1 H M W (a % M) k (tb f 0) ∧ mvR 1 H M W (a % M) k (tb f 0) < M) := mvR_bd hS x0 x1 _ _ _
  have hB : Hid _ := bd2 f0 f1 1 2048 fl1 fl2048 (mvC 1 H M W (a % M) k (tb f 0)) (mvV 1 H M W (a % M) k (tb f 0))
  have hS' : Hid (Sw s H M W) := hS
  clear p
  rcases hS with ⟨rfl, rfl, rfl, rfl⟩ | ⟨rfl, rfl, rfl, rfl⟩ | ⟨rfl, rfl, rfl, rfl⟩
  all_goals
    go_enter Try.func10, Try.ntmps10
    go_wp2_with (first
      | (go_at_call 15; refine (cut_any hS'.out _ _ a0 (by omega)).mono ?_; rintro e w1 ⟨rfl, hw⟩; replace hw := hw.symm; subst hw)
      | (go_at_call 16; refine (lowFive_any _ _ n0 n1).mono ?_; rintro e w1 ⟨rfl, hw⟩; replace hw := hw.symm; subst hw))
    go_wp2_with fail
    refine (moves_any _ (tb f 0) _).mono ?_; rintro e w1 ⟨b0, b1, b3, b4, b5, b6, rfl, hg1, hh⟩
    have hi := idx1 b0 b3 b4 b5 b6
    go_wp2_with fail
    refine (ror_any hS'.out _ k (tb f 0) b0 b1 b3 b4 b5 b6 _ x0 x1 k1 k2 hh).mono ?_; rintro e w2 ⟨rfl, hg2⟩
    have hgw := Grown.trans hg1 hg2
    clear hg1 hg2 hh hi
    unfold mvd
    go_wp2_with fail
    refine (marked_any _ _ _ _ _ f0 f1).mono ?_; rintro e w3 ⟨rfl, hg3⟩
    have hgx := Grown.trans hgw (Grown.trans (Grown.alloc (Grown.refl _) _ _) hg3)
    have hcell := first_cell hg3
    clear hgw hg3
    go_wp2
    go_ret3
    exact ⟨rfl, hgx⟩

set_option maxRecDepth 20000 in
set_option maxHeartbeats 1000000 in
theorem Do_5 {s H M : Int} {W : Nat} (hS : Sw s H M W) (a n f : Int) (k : Nat) (w : World) (a0 : 0 ≤ a) (a1 : a < 4294967296) (n0 : 0 ≤ n) (n1 : n < 4294967296) (f0 : 0 ≤ f) (f1 : f < 4294967296) (hk : n % 32 = (k : Int)) (k1 : 1 ≤ k) :
    Calls Try.prog 10 #[.int .i64 5, .int .i64 s, .int .u32 a, .int .u32 n, .int .u32 f] w fun e w' =>
      e = .returned (.tuple #[.int .u32 (mvR 5 H M W (a % M) k (tb f 0)), .int .u32 (mvF 5 H M W (a % M) k f), .int .i64 0]) ∧ Grown w w' := by
  have p := hS.pow
  have hx := mod_bd (M := M) (by omega) a
  have m0 : 0 < M := by omega
  obtain ⟨x0, x1⟩ := hx
  have k2 : k ≤ 31 := by omega
  have hf := cf_of f0 f1
  have hwa : IntKind.u64.wrap a = a := by rw [wrap_u64']; omega
  have nk : ((k : Int) == 0) = false := by simp; omega
  have hR : Hid (0 ≤ mvR 5 H M W (a % M) k (tb f 0) ∧ mvR 5 H M W (a % M) k (tb f 0) < M) := mvR_bd hS x0 x1 _ _ _
  have hB : Hid _ := bd2 f0 f1 1 2048 fl1 fl2048 (mvC 5 H M W (a % M) k (tb f 0)) (mvV 5 H M W (a % M) k (tb f 0))
  have hS' : Hid (Sw s H M W) := hS
  clear p
  rcases hS with ⟨rfl, rfl, rfl, rfl⟩ | ⟨rfl, rfl, rfl, rfl⟩ | ⟨rfl, rfl, rfl, rfl⟩
  all_goals
    go_enter Try.func10, Try.ntmps10
    go_wp2_with (first
      | (go_at_call 15; refine (cut_any hS'.out _ _ a0 (by omega)).mono ?_; rintro e w1 ⟨rfl, hw⟩; replace hw := hw.symm; subst hw)
      | (go_at_call 16; refine (lowFive_any _ _ n0 n1).mono ?_; rintro e w1 ⟨rfl, hw⟩; replace hw := hw.symm; subst hw))
    go_wp2_with fail
    refine (moves_any _ (tb f 0) _).mono ?_; rintro e w1 ⟨b0, b1, b3, b4, b5, b6, rfl, hg1, hh⟩
    have hi := idx5 b0 b3 b4 b5 b6
    go_wp2_with fail
    refine (shr_any hS'.out _ k (tb f 0) b0 b1 b3 b4 b5 b6 _ x0 x1 k1 k2 hh).mono ?_; rintro e w2 ⟨rfl, hg2⟩
    have hgw := Grown.trans hg1 hg2
    clear hg1 hg2 hh hi
    unfold mvd
    go_wp2_with fail
    refine (marked_any _ _ _ _ _ f0 f1).mono ?_; rintro e w3 ⟨rfl, hg3⟩
    have hgx := Grown.trans hgw (Grown.trans (Grown.alloc (Grown.refl _) _ _) hg3)
    have hcell := first_cell hg3
    clear hgw hg3
    go_wp2_with fail
    refine (byResult_any hS'.out _ _ _ hR.out.1 hR.out.2 hB.out.1 hB.out.2).mono ?_; rintro e w4 ⟨rfl, hw⟩; replace hw := hw.symm; subst hw
    go_wp2
    go_ret3
    exact ⟨rfl, hgx⟩
end Go.Proofs.Ytnfbflbghlmdjaa
