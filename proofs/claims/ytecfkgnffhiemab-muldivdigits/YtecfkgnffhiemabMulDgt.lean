/- Plain facts on decimal digits, parted and put together, and their sums put right: no walk; each under the bounds that it names. -/
import Derived.Test.YtecfkgnffhiemabMulAdj
namespace Go.Proofs.Ytecfkgnffhiemab
open Go.RowKit
set_option linter.unusedVariables false

theorem dX0 (al ah b f : Int) : rX 0 al ah b f = (al % 256 + flg (dOff (al % 256) (hasF f 16)) 6 + flg (dHi (al % 256) (hasF f 1)) 96) % 256 := by
  unfold rX adX; rw [if_pos rfl]
theorem dX4 (al ah b f : Int) : rX 4 al ah b f = al % 256 % (b % 256) := by
  unfold rX adX; rw [if_neg (by decide), if_neg (by decide), if_neg (by decide), if_neg (by decide), if_pos rfl]
theorem dX5 (al ah b f : Int) : rX 5 al ah b f = (al % 256 + ah % 256 * (b % 256)) % 256 := by
  unfold rX adX; rw [if_neg (by decide), if_neg (by decide), if_neg (by decide), if_neg (by decide), if_neg (by decide)]
theorem dY4 (al ah b f : Int) : rY 4 al ah b f = al % 256 / (b % 256) := by
  unfold rY adY; rw [if_neg (by decide), if_neg (by decide), if_neg (by decide), if_neg (by decide), if_pos rfl]
theorem dY5 (al ah b f : Int) : rY 5 al ah b f = 0 := by
  unfold rY adY; rw [if_neg (by decide), if_neg (by decide), if_neg (by decide), if_neg (by decide), if_neg (by decide)]

/-- what Aam parts Aad puts together -/
theorem join_part (a b f g h k : Int) (hb : b % 256 ≠ 0) : rX 5 (rX 4 a h b f) (rY 4 a k b g) b f = a % 256 := by
  have A := mod_bd (M := 256) (by decide) a
  have B := mod_bd (M := 256) (by decide) b
  have x := mod_bd (M := b % 256) (by omega) (a % 256)
  have q0 : 0 ≤ a % 256 / (b % 256) := Int.ediv_nonneg A.1 B.1
  have q1 : a % 256 / (b % 256) ≤ a % 256 := Int.ediv_le_self _ A.1
  have e := Int.mul_ediv_add_emod (a % 256) (b % 256)
  rw [dX5, dX4, dY4, Int.emod_eq_of_lt (a := a % 256 % (b % 256)) x.1 (by omega), Int.emod_eq_of_lt (a := a % 256 / (b % 256)) q0 (by omega), Int.mul_comm, Int.add_comm, e]
  omega

/-- CF behind an adjustment -/
theorem rF_odd {op al ah b f : Int} (f0 : 0 ≤ f) (f1 : f < 4294967296) (c : Bool) (hc : adC op (al % 256) (dOff (al % 256) (hasF f 16)) (dHi (al % 256) (hasF f 1)) = c) : rF op al ah b f % 2 = if c = true then 1 else 0 := by
  unfold rF adF
  rw [hc]
  generalize adA op (dOff (al % 256) (hasF f 16)) = a
  have b2 := bd2 f0 f1 16 1 fl16 fl1 a c
  have b3 := bd1 b2.1 b2.2 2048 fl2048 false
  have b6 := byF_bd b3.1 b3.2 128 (rX op al ah b f)
  refine carry_of b6.1 ?_
  rw [hasF_1 b6.1]
  unfold byF
  rw [tb_set4 (bd2 b3.1 b3.2 _ _ fl64 fl128 _ _).1, tb_set128 (bd1 b3.1 b3.2 _ fl64 _).1, tb_set64 b3.1, tb_set2048 b2.1, tb_set1 (bd1 f0 f1 16 fl16 a).1]
  simp

/-- two numbers of two decimal digits, digit by digit -/
theorem dig_ff {x y : Int} (x0 : 0 ≤ x) (x1 : x ≤ 9) (y0 : 0 ≤ y) (y1 : y ≤ 9) {z t : Int} (z0 : 0 ≤ z) (z1 : z ≤ 9) (t0 : 0 ≤ t) (t1 : t ≤ 9) :
    (∀ o h : Bool, o = (decide (9 < (x * 16 + y + (z * 16 + t)) % 256 % 16) || decide (15 < y + t)) → h = (decide (153 < (x * 16 + y + (z * 16 + t)) % 256) || decide (255 < x * 16 + y + (z * 16 + t))) →
      ((x * 16 + y + (z * 16 + t)) % 256 + flg o 6 + flg h 96) % 256 = (x * 10 + y + (z * 10 + t)) % 100 / 10 * 16 + (x * 10 + y + (z * 10 + t)) % 10 ∧ h = decide (99 < x * 10 + y + (z * 10 + t))) := by
  intro o h ho hh
  have eo : o = decide (9 < y + t) := by
    rw [ho, Bool.eq_iff_iff]; simp only [Bool.or_eq_true, decide_eq_true_eq]; omega
  have eh : h = decide (99 < x * 10 + y + (z * 10 + t)) := by
    rw [hh, Bool.eq_iff_iff]; simp only [Bool.or_eq_true, decide_eq_true_eq]; omega
  refine ⟨?_, eh⟩
  rw [eo, eh]
  unfold flg
  simp only [decide_eq_true_eq]
  split <;> split
  · have a1 : (x * 10 + y + (z * 10 + t)) % 10 = y + t - 10 := by omega
    have a2 : (x * 10 + y + (z * 10 + t)) % 100 / 10 = x + z - 9 := by omega
    have a3 : ((x * 16 + y + (z * 16 + t)) % 256 + 6 + 96) % 256 = (x * 16 + y + (z * 16 + t)) + 102 - 256 := by omega
    rw [a1, a2, a3]
    omega
  · have a1 : (x * 10 + y + (z * 10 + t)) % 10 = y + t - 10 := by omega
    have a2 : (x * 10 + y + (z * 10 + t)) % 100 / 10 = x + z + 1 := by omega
    have a3 : ((x * 16 + y + (z * 16 + t)) % 256 + 6 + 0) % 256 = (x * 16 + y + (z * 16 + t)) + 6 := by omega
    rw [a1, a2, a3]
    omega
  · have a1 : (x * 10 + y + (z * 10 + t)) % 10 = y + t := by omega
    have a2 : (x * 10 + y + (z * 10 + t)) % 100 / 10 = x + z - 10 := by omega
    have a3 : ((x * 16 + y + (z * 16 + t)) % 256 + 0 + 96) % 256 = (x * 16 + y + (z * 16 + t)) + 96 - 256 := by omega
    rw [a1, a2, a3]
    omega
  · have a1 : (x * 10 + y + (z * 10 + t)) % 10 = y + t := by omega
    have a2 : (x * 10 + y + (z * 10 + t)) % 100 / 10 = x + z := by omega
    have a3 : ((x * 16 + y + (z * 16 + t)) % 256 + 0 + 0) % 256 = (x * 16 + y + (z * 16 + t)) := by omega
    rw [a1, a2, a3]
    omega
end Go.Proofs.Ytecfkgnffhiemab
