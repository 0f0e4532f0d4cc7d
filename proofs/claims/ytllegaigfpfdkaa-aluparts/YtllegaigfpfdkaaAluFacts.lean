/- Plain facts on what the operations of alu come to: they undo one another, order values, and go together of halves; each under the bounds that it names. -/
import Derived.Test.YtllegaigfpfdkaaAluRefDoes
namespace Go.Proofs.Ytllegaigfpfdkaa
set_option linter.unusedVariables false

theorem doR_bd {s H M sp bt x y : Int} (hS : Sz s H M sp bt) (x0 : 0 ≤ x) (x1 : x < M) (y0 : 0 ≤ y) (y1 : y < M) (op f : Int) : 0 ≤ doR op M x y f ∧ doR op M x y f < M := by
  have h := workR_bd hS x0 x1 y0 y1 op (f % 2)
  unfold doR
  repeat' split
  · omega
  · omega
  · omega
  · exact h

theorem or_self' {x : Int} (x0 : 0 ≤ x) (x1 : x < 4294967296) : bits .or .u32 x x = x := by
  rw [u32_or x x x0 x1 x0 x1, Nat.or_self]; omega
theorem xor_back {x y : Int} (x0 : 0 ≤ x) (x1 : x < 4294967296) (y0 : 0 ≤ y) (y1 : y < 4294967296) : bits .xor .u32 (bits .xor .u32 x y) y = x := by
  have b := xor_bd x0 x1 y0 y1
  rw [u32_xor _ y b.1 b.2 y0 y1, u32_xor x y x0 x1 y0 y1, Int.toNat_natCast, Nat.xor_assoc, Nat.xor_self, Nat.xor_zero]; omega

theorem back_or {s H M sp bt x : Int} (hS : Sz s H M sp bt) (x0 : 0 ≤ x) (x1 : x < M) (f : Int) : doR 1 M x x f = x := by
  have mt := hS.top.1
  show bits .or .u32 x x = x
  exact or_self' x0 (by omega)
theorem back_add {s H M sp bt x y : Int} (hS : Sz s H M sp bt) (x0 : 0 ≤ x) (x1 : x < M) (y0 : 0 ≤ y) (y1 : y < M) (f : Int) : doR 5 M (doR 0 M x y f % M) y f = x := by
  show subR M (addR M x y 0 % M) y 0 = x
  unfold subR addR
  rcases hS with ⟨rfl, rfl, rfl, rfl, rfl⟩ | ⟨rfl, rfl, rfl, rfl, rfl⟩ | ⟨rfl, rfl, rfl, rfl, rfl⟩ <;> omega
theorem back_adc {s H M sp bt x y : Int} (hS : Sz s H M sp bt) (x0 : 0 ≤ x) (x1 : x < M) (y0 : 0 ≤ y) (y1 : y < M) (f : Int) : doR 3 M (doR 2 M x y f % M) y f = x := by
  show subR M (addR M x y (f % 2) % M) y (f % 2) = x
  unfold subR addR
  rcases hS with ⟨rfl, rfl, rfl, rfl, rfl⟩ | ⟨rfl, rfl, rfl, rfl, rfl⟩ | ⟨rfl, rfl, rfl, rfl, rfl⟩ <;> omega
theorem back_xor {s H M sp bt x y : Int} (hS : Sz s H M sp bt) (x0 : 0 ≤ x) (x1 : x < M) (y0 : 0 ≤ y) (y1 : y < M) (f : Int) : doR 6 M (doR 6 M x y f % M) y f = x := by
  have mt := hS.top.1
  have b := bits_lt hS x0 x1 y0 y1
  show bits .xor .u32 (bits .xor .u32 x y % M) y = x
  rw [Int.emod_eq_of_lt b.2.1.1 b.2.1.2]
  exact xor_back x0 (by omega) y0 (by omega)
theorem back_not {s H M sp bt x : Int} (hS : Sz s H M sp bt) (x0 : 0 ≤ x) (x1 : x < M) (y f : Int) : doR 12 M (doR 12 M x y f % M) y f = x := by
  show M - 1 - (M - 1 - x) % M = x
  rw [Int.emod_eq_of_lt (by omega) (by omega)]; omega
theorem back_neg {s H M sp bt x : Int} (hS : Sz s H M sp bt) (x0 : 0 ≤ x) (x1 : x < M) (y f : Int) : doR 11 M (doR 11 M x y f % M) y f = x := by
  show subR M 0 (subR M 0 x 0 % M) 0 = x
  unfold subR
  rcases hS with ⟨rfl, rfl, rfl, rfl, rfl⟩ | ⟨rfl, rfl, rfl, rfl, rfl⟩ | ⟨rfl, rfl, rfl, rfl, rfl⟩ <;> omega
theorem back_inc {s H M sp bt x : Int} (hS : Sz s H M sp bt) (x0 : 0 ≤ x) (x1 : x < M) (y f : Int) : doR 10 M (doR 9 M x y f % M) y f = x := by
  show subR M (addR M x 1 0 % M) 1 0 = x
  unfold subR addR
  rcases hS with ⟨rfl, rfl, rfl, rfl, rfl⟩ | ⟨rfl, rfl, rfl, rfl, rfl⟩ | ⟨rfl, rfl, rfl, rfl, rfl⟩ <;> omega

theorem hasF_tb {f : Int} (f0 : 0 ≤ f) (j : Nat) : hasF f ((2 ^ j : Nat) : Int) = tb f j := by
  rw [tb_div f f0 j]; unfold hasF; rw [Bool.eq_iff_iff]; simp
theorem has_by {f : Int} (f0 : 0 ≤ f) (f1 : f < 4294967296) (H r : Int) (c a v : Bool) :
    hasF (byF H r (setF (setF (setF f 1 c) 16 a) 2048 v)) 1 = c ∧ hasF (byF H r (setF (setF (setF f 1 c) 16 a) 2048 v)) 64 = (r == 0) ∧
    hasF (byF H r (setF (setF (setF f 1 c) 16 a) 2048 v)) 128 = sgn H r ∧ hasF (byF H r (setF (setF (setF f 1 c) 16 a) 2048 v)) 2048 = v := by
  have b3 := bd3 f0 f1 _ _ _ fl1 fl16 fl2048 c a v
  have b6 := byF_bd b3.1 b3.2 H r
  have t : ∀ i, tb (byF H r (setF (setF (setF f 1 c) 16 a) 2048 v)) i = if i = 2 then par r else if i = 7 then sgn H r else if i = 6 then (r == 0) else if i = 11 then v else if i = 4 then a else if i = 0 then c else tb f i := fun i => by
    unfold byF
    rw [tb_set4 (bd2 b3.1 b3.2 _ _ fl64 fl128 _ _).1, tb_set128 (bd1 b3.1 b3.2 _ fl64 _).1, tb_set64 b3.1, tb_set2048 (bd2 f0 f1 _ _ fl1 fl16 _ _).1, tb_set16 (bd1 f0 f1 _ fl1 _).1, tb_set1 f0]
  exact ⟨(hasF_tb b6.1 0).trans (t 0), (hasF_tb b6.1 6).trans (t 6), (hasF_tb b6.1 7).trans (t 7), (hasF_tb b6.1 11).trans (t 11)⟩

def sgv (M H x : Int) : Int := if x < H then x else x - M

theorem sign_order {M H x y : Int} (h2 : M = 2 * H) (x0 : 0 ≤ x) (x1 : x < M) (y0 : 0 ≤ y) (y1 : y < M) :
    (sgn H (subR M x y 0) != subV M H x y 0) = decide (sgv M H x < sgv M H y) := by
  have hr : (x < y ∧ subR M x y 0 = x - y + M) ∨ (¬ x < y ∧ subR M x y 0 = x - y) := by
    unfold subR
    by_cases h : x < y
    · left
      refine ⟨h, ?_⟩
      rw [Int.sub_zero, ← Int.add_emod_right, Int.emod_eq_of_lt (by omega) (by omega)]
    · right
      refine ⟨h, ?_⟩
      rw [Int.sub_zero, Int.emod_eq_of_lt (by omega) (by omega)]
  unfold subV sgv sgn
  generalize subR M x y 0 = r at *
  by_cases hx : H ≤ x <;> by_cases hy : H ≤ y <;> by_cases hz : H ≤ r
  all_goals
    simp only [hx, hy, hz, decide_true, decide_false, bne_self_eq_false, Bool.false_and, Bool.true_and, Bool.bne_false, Bool.bne_true, beq_self_eq_true, Bool.not_false, Bool.true_bne, Bool.false_bne]
    rw [Bool.eq_iff_iff]
    simp
    repeat' split
    all_goals omega

theorem orders {s H M sp bt x y f : Int} (hS : Sz s H M sp bt) (x0 : 0 ≤ x) (x1 : x < M) (y0 : 0 ≤ y) (y1 : y < M) (f0 : 0 ≤ f) (f1 : f < 4294967296) :
    hasF (doF 7 M H x y f) 1 = decide (x < y) ∧ hasF (doF 7 M H x y f) 64 = (x == y) ∧ (hasF (doF 7 M H x y f) 128 != hasF (doF 7 M H x y f) 2048) = decide (sgv M H x < sgv M H y) := by
  have hD := doF_is f0 f1 M H x y
  have h := has_by f0 f1 H (subR M x y 0) (subC x y 0) (subA x y 0) (subV M H x y 0)
  rw [hD.2.2.2.2.1]
  unfold subF
  rw [h.1, h.2.1, h.2.2.1, h.2.2.2]
  have t := hS.top
  refine ⟨?_, ?_, ?_⟩
  · unfold subC; rw [Int.add_zero]
  · unfold subR
    rw [Bool.eq_iff_iff]
    simp only [beq_iff_eq]
    rcases hS with ⟨rfl, rfl, rfl, rfl, rfl⟩ | ⟨rfl, rfl, rfl, rfl, rfl⟩ | ⟨rfl, rfl, rfl, rfl, rfl⟩ <;> omega
  · exact sign_order t.2.1 x0 x1 y0 y1

theorem sgn_half (x : Int) (x0 : 0 ≤ x) : sgn 32768 (x / 65536) = sgn 2147483648 x := by
  unfold sgn; rw [Bool.eq_iff_iff]; simp only [decide_eq_true_eq]; omega
theorem carry_of {g : Int} (g0 : 0 ≤ g) {c : Bool} (h : hasF g 1 = c) : g % 2 = if c = true then 1 else 0 := by
  unfold hasF at h
  subst h
  simp only [beq_iff_eq, Int.ediv_one]
  split <;> omega
theorem doF_bd {f : Int} (f0 : 0 ≤ f) (f1 : f < 4294967296) (op M H x y : Int) : 0 ≤ doF op M H x y f ∧ doF op M H x y f < 4294967296 := by
  unfold doF
  split
  · exact ⟨f0, f1⟩
  · exact byF_bd (lay_bd op M H x y (f % 2) f0 f1).1 (lay_bd op M H x y (f % 2) f0 f1).2 _ _

theorem parts_sum {a b f : Int} (a0 : 0 ≤ a) (a1 : a < 4294967296) (b0 : 0 ≤ b) (b1 : b < 4294967296) (f0 : 0 ≤ f) (f1 : f < 4294967296) :
    doR 0 4294967296 a b f = (doR 2 65536 (a / 65536) (b / 65536) (doF 0 65536 32768 (a % 65536) (b % 65536) f) * 65536 + doR 0 65536 (a % 65536) (b % 65536) f) % 4294967296 ∧
    hasF (doF 0 4294967296 2147483648 a b f) 1 = hasF (doF 2 65536 32768 (a / 65536) (b / 65536) (doF 0 65536 32768 (a % 65536) (b % 65536) f)) 1 ∧
    hasF (doF 0 4294967296 2147483648 a b f) 2048 = hasF (doF 2 65536 32768 (a / 65536) (b / 65536) (doF 0 65536 32768 (a % 65536) (b % 65536) f)) 2048 := by
  have bF := doF_bd f0 f1 0 65536 32768 (a % 65536) (b % 65536)
  have hF : hasF (doF 0 65536 32768 (a % 65536) (b % 65536) f) 1 = addC 65536 (a % 65536) (b % 65536) 0 := by
    rw [(doF_is f0 f1 65536 32768 (a % 65536) (b % 65536)).1]; exact (has_by f0 f1 _ _ _ _ _).1
  have c := carry_of bF.1 hF
  generalize hg : doF 0 65536 32768 (a % 65536) (b % 65536) f = g at *
  rw [(doF_is f0 f1 4294967296 2147483648 a b).1, (doF_is bF.1 bF.2 65536 32768 (a / 65536) (b / 65536)).2.1]
  unfold addF
  rw [(has_by f0 f1 _ _ _ _ _).1, (has_by f0 f1 _ _ _ _ _).2.2.2, (has_by bF.1 bF.2 _ _ _ _ _).1, (has_by bF.1 bF.2 _ _ _ _ _).2.2.2]
  clear hg hF bF
  have hc : g % 2 = (a % 65536 + b % 65536) / 65536 := by
    rw [c]; unfold addC; simp only [decide_eq_true_eq]; split <;> omega
  have hr : addR 65536 (a / 65536) (b / 65536) (g % 2) = addR 4294967296 a b 0 / 65536 := by
    unfold addR; rw [hc]; omega
  refine ⟨?_, ?_, ?_⟩
  · show addR 4294967296 a b 0 = (addR 65536 (a / 65536) (b / 65536) (g % 2) * 65536 + addR 65536 (a % 65536) (b % 65536) 0) % 4294967296
    rw [hr]; unfold addR; omega
  · unfold addC; rw [hc, Bool.eq_iff_iff]; simp only [decide_eq_true_eq]; omega
  · unfold addV
    rw [hr, sgn_half a a0, sgn_half b b0, sgn_half (addR 4294967296 a b 0) (mod_bd (by decide) _).1]

theorem parts_diff {a b f : Int} (a0 : 0 ≤ a) (a1 : a < 4294967296) (b0 : 0 ≤ b) (b1 : b < 4294967296) (f0 : 0 ≤ f) (f1 : f < 4294967296) :
    doR 5 4294967296 a b f = (doR 3 65536 (a / 65536) (b / 65536) (doF 5 65536 32768 (a % 65536) (b % 65536) f) * 65536 + doR 5 65536 (a % 65536) (b % 65536) f) % 4294967296 ∧
    hasF (doF 5 4294967296 2147483648 a b f) 1 = hasF (doF 3 65536 32768 (a / 65536) (b / 65536) (doF 5 65536 32768 (a % 65536) (b % 65536) f)) 1 ∧
    hasF (doF 5 4294967296 2147483648 a b f) 2048 = hasF (doF 3 65536 32768 (a / 65536) (b / 65536) (doF 5 65536 32768 (a % 65536) (b % 65536) f)) 2048 := by
  have bF := doF_bd f0 f1 5 65536 32768 (a % 65536) (b % 65536)
  have hF : hasF (doF 5 65536 32768 (a % 65536) (b % 65536) f) 1 = subC (a % 65536) (b % 65536) 0 := by
    rw [(doF_is f0 f1 65536 32768 (a % 65536) (b % 65536)).2.2.1]; exact (has_by f0 f1 _ _ _ _ _).1
  have c := carry_of bF.1 hF
  generalize hg : doF 5 65536 32768 (a % 65536) (b % 65536) f = g at *
  rw [(doF_is f0 f1 4294967296 2147483648 a b).2.2.1, (doF_is bF.1 bF.2 65536 32768 (a / 65536) (b / 65536)).2.2.2.1]
  unfold subF
  rw [(has_by f0 f1 _ _ _ _ _).1, (has_by f0 f1 _ _ _ _ _).2.2.2, (has_by bF.1 bF.2 _ _ _ _ _).1, (has_by bF.1 bF.2 _ _ _ _ _).2.2.2]
  clear hg hF bF
  have hc : g % 2 = if a % 65536 < b % 65536 then 1 else 0 := by
    rw [c]; unfold subC; simp only [decide_eq_true_eq, Int.add_zero]
  clear c
  have hr : subR 65536 (a / 65536) (b / 65536) (g % 2) = subR 4294967296 a b 0 / 65536 := by
    unfold subR; rw [hc]; split <;> omega
  refine ⟨?_, ?_, ?_⟩
  · show subR 4294967296 a b 0 = (subR 65536 (a / 65536) (b / 65536) (g % 2) * 65536 + subR 65536 (a % 65536) (b % 65536) 0) % 4294967296
    rw [hr]; unfold subR; omega
  · unfold subC; rw [hc, Bool.eq_iff_iff]; simp only [decide_eq_true_eq]; split <;> omega
  · unfold subV
    rw [hr, sgn_half a a0, sgn_half b b0, sgn_half (subR 4294967296 a b 0) (mod_bd (by decide) _).1]
end Go.Proofs.Ytllegaigfpfdkaa
