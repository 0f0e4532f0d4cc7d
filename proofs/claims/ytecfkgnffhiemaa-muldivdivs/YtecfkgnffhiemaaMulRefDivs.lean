/- The contract of the document's answer to quotients, whole (drawloomref03.Div): it returns what muldiv.Div does, and the world has at most new blocks. -/
import Derived.Test.YtecfkgnffhiemaaMulRefDivS
namespace Go.Proofs.Ytecfkgnffhiemaa
open Go.ChangeShapes Go.WideShapes Go.ChangeAt Go.RowKit
set_option linter.unusedVariables false

theorem ng_is (M x : Int) : -x % M = ng M x := by
  unfold ng
  rw [show M - x = -x + M by omega, Int.add_emod_right]

/-- the signed quotient, by magnitudes -/
theorem sd_is {s H M : Int} {W : Nat} (hS : Sw s H M W) (lo hi b : Int) {S T : Bool} (hs : sgn (H * M) (divN M lo hi) = S) (ht : sgn H (b % M) = T) :
    (divA M H lo hi).tdiv (sgv M H (b % M)) = (if S = T then mN M H lo hi / mD M H b else -(mN M H lo hi / mD M H b)) ∧
    (divA M H lo hi).tmod (sgv M H (b % M)) = (if S = true then -(mN M H lo hi % mD M H b) else mN M H lo hi % mD M H b) := by
  have p := hS.pow
  have c := mod_bd p.2.2.2.2.2.1 b
  have y0 := (mag_bd p.2.2.2.2.2.2 c.1 c.2).1
  have h := tdiv_mag (mN_bd hS lo hi).1 (y := mD M H b) y0 S T
  unfold divA
  rw [sgv_mag (M * M), sgv_mag M, hs, ht]
  exact h

theorem rDiv_ok {s H M : Int} {W : Nat} (hS : Sw s H M W) (sg : Bool) (lo hi b : Int) (w : World) (l0 : 0 ≤ lo) (l1 : lo < 4294967296) (h0 : 0 ≤ hi) (h1 : hi < 4294967296) (b0 : 0 ≤ b) (b1 : b < 4294967296) :
    Calls Try.prog 13 #[.bool sg, .int .i64 s, .int .u32 lo, .int .u32 hi, .int .u32 b] w fun e w' => e = .returned (.tuple #[.int .u32 (ansQ sg M H lo hi b), .int .u32 (ansR sg M H lo hi b), .bool (divO sg M H lo hi b), .int .i64 0]) ∧ Grown w w' := by
  by_cases hz : b % M = 0
  · have e : divO sg M H lo hi b = false := by unfold divO; rw [if_pos hz]
    unfold ansQ ansR
    rw [e]
    exact rDiv_zero hS sg lo hi b w l0 l1 h0 h1 b0 b1 hz
  · cases sg
    · by_cases hq : divN M lo hi / (b % M) < M
      · have e : divO false M H lo hi b = true := by unfold divO; rw [if_neg hz]; simpa using hq
        unfold ansQ ansR
        rw [e]
        exact rDiv_uy hS lo hi b w l0 l1 h0 h1 b0 b1 hz hq
      · have e : divO false M H lo hi b = false := by unfold divO; rw [if_neg hz]; simpa using hq
        unfold ansQ ansR
        rw [e]
        exact rDiv_un hS lo hi b w l0 l1 h0 h1 b0 b1 hz hq
    · have p := hS.pow
      have q0 : 0 ≤ mN M H lo hi / mD M H b := Int.ediv_nonneg (mN_bd hS lo hi).1 (Int.le_of_lt (mD_bd hS b hz).1)
      have y := mD_bd hS b hz
      have r := mod_bd y.1 (mN M H lo hi)
      cases hs : sgn (H * M) (divN M lo hi) <;> cases ht : sgn H (b % M)
      · have hd := sd_is hS lo hi b hs ht
        rw [if_pos rfl, if_neg (by decide)] at hd
        by_cases gq : H - 1 < mN M H lo hi / mD M H b
        · have e : divO true M H lo hi b = false := by
            unfold divO; rw [if_neg hz, if_pos rfl, hd.1]
            rw [decide_eq_false (p := mN M H lo hi / mD M H b < H) (by omega), Bool.and_false]
          unfold ansQ ansR
          rw [e]
          exact rDivS_nff hS lo hi b w l0 l1 h0 h1 b0 b1 hz hs ht gq
        · have e : divO true M H lo hi b = true := by
            unfold divO; rw [if_neg hz, if_pos rfl, hd.1]
            rw [decide_eq_true (p := -H ≤ mN M H lo hi / mD M H b) (by omega), decide_eq_true (p := mN M H lo hi / mD M H b < H) (by omega)]; rfl
          have eq : divQ true M H lo hi b = mN M H lo hi / mD M H b := by
            unfold divQ; rw [if_pos rfl, hd.1]
            exact Int.emod_eq_of_lt q0 (by omega)
          have er : divR true M H lo hi b = mN M H lo hi % mD M H b := by
            unfold divR; rw [if_pos rfl, hd.2]
            exact Int.emod_eq_of_lt r.1 (by omega)
          unfold ansQ ansR
          rw [e, eq, er]
          exact rDivS_yff hS lo hi b w l0 l1 h0 h1 b0 b1 hz hs ht gq
      · have hd := sd_is hS lo hi b hs ht
        rw [if_neg (by decide), if_neg (by decide)] at hd
        by_cases gq : H < mN M H lo hi / mD M H b
        · have e : divO true M H lo hi b = false := by
            unfold divO; rw [if_neg hz, if_pos rfl, hd.1]
            rw [decide_eq_false (p := -H ≤ -(mN M H lo hi / mD M H b)) (by omega), Bool.false_and]
          unfold ansQ ansR
          rw [e]
          exact rDivS_nft hS lo hi b w l0 l1 h0 h1 b0 b1 hz hs ht gq
        · have e : divO true M H lo hi b = true := by
            unfold divO; rw [if_neg hz, if_pos rfl, hd.1]
            rw [decide_eq_true (p := -H ≤ -(mN M H lo hi / mD M H b)) (by omega), decide_eq_true (p := -(mN M H lo hi / mD M H b) < H) (by omega)]; rfl
          have eq : divQ true M H lo hi b = ng M (mN M H lo hi / mD M H b) := by
            unfold divQ; rw [if_pos rfl, hd.1]
            exact ng_is _ _
          have er : divR true M H lo hi b = mN M H lo hi % mD M H b := by
            unfold divR; rw [if_pos rfl, hd.2]
            exact Int.emod_eq_of_lt r.1 (by omega)
          unfold ansQ ansR
          rw [e, eq, er]
          exact rDivS_yft hS lo hi b w l0 l1 h0 h1 b0 b1 hz hs ht gq
      · have hd := sd_is hS lo hi b hs ht
        rw [if_neg (by decide), if_pos rfl] at hd
        by_cases gq : H < mN M H lo hi / mD M H b
        · have e : divO true M H lo hi b = false := by
            unfold divO; rw [if_neg hz, if_pos rfl, hd.1]
            rw [decide_eq_false (p := -H ≤ -(mN M H lo hi / mD M H b)) (by omega), Bool.false_and]
          unfold ansQ ansR
          rw [e]
          exact rDivS_ntf hS lo hi b w l0 l1 h0 h1 b0 b1 hz hs ht gq
        · have e : divO true M H lo hi b = true := by
            unfold divO; rw [if_neg hz, if_pos rfl, hd.1]
            rw [decide_eq_true (p := -H ≤ -(mN M H lo hi / mD M H b)) (by omega), decide_eq_true (p := -(mN M H lo hi / mD M H b) < H) (by omega)]; rfl
          have eq : divQ true M H lo hi b = ng M (mN M H lo hi / mD M H b) := by
            unfold divQ; rw [if_pos rfl, hd.1]
            exact ng_is _ _
          have er : divR true M H lo hi b = ng M (mN M H lo hi % mD M H b) := by
            unfold divR; rw [if_pos rfl, hd.2]
            exact ng_is _ _
          unfold ansQ ansR
          rw [e, eq, er]
          exact rDivS_ytf hS lo hi b w l0 l1 h0 h1 b0 b1 hz hs ht gq
      · have hd := sd_is hS lo hi b hs ht
        rw [if_pos rfl, if_pos rfl] at hd
        by_cases gq : H - 1 < mN M H lo hi / mD M H b
        · have e : divO true M H lo hi b = false := by
            unfold divO; rw [if_neg hz, if_pos rfl, hd.1]
            rw [decide_eq_false (p := mN M H lo hi / mD M H b < H) (by omega), Bool.and_false]
          unfold ansQ ansR
          rw [e]
          exact rDivS_ntt hS lo hi b w l0 l1 h0 h1 b0 b1 hz hs ht gq
        · have e : divO true M H lo hi b = true := by
            unfold divO; rw [if_neg hz, if_pos rfl, hd.1]
            rw [decide_eq_true (p := -H ≤ mN M H lo hi / mD M H b) (by omega), decide_eq_true (p := mN M H lo hi / mD M H b < H) (by omega)]; rfl
          have eq : divQ true M H lo hi b = mN M H lo hi / mD M H b := by
            unfold divQ; rw [if_pos rfl, hd.1]
            exact Int.emod_eq_of_lt q0 (by omega)
          have er : divR true M H lo hi b = ng M (mN M H lo hi % mD M H b) := by
            unfold divR; rw [if_pos rfl, hd.2]
            exact ng_is _ _
          unfold ansQ ansR
          rw [e, eq, er]
          exact rDivS_ytt hS lo hi b w l0 l1 h0 h1 b0 b1 hz hs ht gq
end Go.Proofs.Ytecfkgnffhiemaa
