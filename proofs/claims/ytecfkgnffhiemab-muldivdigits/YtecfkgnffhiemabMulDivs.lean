/- The contract of muldiv.Div, whole: for every input within its kinds it returns what is named, and the world has at most new blocks. -/
import Derived.Test.YtecfkgnffhiemabMulDiv
import Derived.Test.YtecfkgnffhiemabMulMul
namespace Go.Proofs.Ytecfkgnffhiemab
open Go.ChangeShapes Go.WideShapes Go.ChangeAt Go.RowKit
set_option linter.unusedVariables false

theorem mdDiv_some {s H M : Int} {W : Nat} (hS : Sw s H M W) (sg : Bool) (lo hi b Q R : Int) (w : World) (l0 : 0 ≤ lo) (l1 : lo < 4294967296) (h0 : 0 ≤ hi) (h1 : hi < 4294967296) (b0 : 0 ≤ b) (b1 : b < 4294967296) (hz : b % M ≠ 0) (q0 : 0 ≤ Q) (q1 : Q < 18446744073709551616) (r0 : 0 ≤ R) (r1 : R < 18446744073709551616)
    (HQ : quoSays sg s W (divN M lo hi) (b % M) Q R true) :
    Calls Try.prog 8 #[.bool sg, .int .i64 s, .int .u32 lo, .int .u32 hi, .int .u32 b] w fun e w' => e = .returned (.tuple #[.int .u32 (Q % M), .int .u32 (R % M), .bool true, .int .i64 0]) ∧ Grown w w' := by
  have hk := hS.ok
  have mt := hS.pow.2.2.2.2.1
  have d0 := (mod_bd hS.pow.2.2.2.2.2.1 b).1
  have d1 := (mod_bd hS.pow.2.2.2.2.2.1 b).2
  have wb : IntKind.u64.wrap b = b := by rw [wrap_u64']; omega
  have wd : IntKind.u64.wrap (b % M) = b % M := by rw [wrap_u64']; omega
  have b2 : b < 18446744073709551616 := by omega
  have hz' : (b % M == 0) = false := by simp; omega
  cases sg
  · have HQ' := quo_f HQ
    have HH : Hid (∀ w : World, Calls Try.prog 18 #[.agg #[.int .i64 s, .int .u64 (W : Int)], .int .u64 (divN M lo hi), .int .u64 (b % M)] w fun e w' => e = .returned (.tuple #[.int .u64 Q, .int .u64 R, .bool true]) ∧ Grown w w') := HQ'
    clear HQ HQ'
    go_enter Try.func8, Try.ntmps8
    go_wp2_with fail
    refine (mdSize_any _ _).mono ?_; rintro e w1 ⟨rfl, hw⟩; replace hw := hw.symm; subst hw
    go_wp2_with fail
    refine (mdWidth_any hS _).mono ?_; rintro e w1 ⟨rfl, hw⟩; replace hw := hw.symm; subst hw
    go_wp2_with fail
    refine (mdCut_any hS _ _ b0 b2).mono ?_; rintro e w1 ⟨rfl, hw⟩; replace hw := hw.symm; subst hw
    go_wp2_with fail
    refine (mdWhole_any hS _ _ _ l0 l1 h0 h1).mono ?_; rintro e w1 ⟨rfl, hg1⟩
    go_wp2_with fail
    refine (HH.out _).mono ?_; rintro e w2 ⟨rfl, hg2⟩
    have hc0 : w2.cell? ⟨w.heap.size + 1, 0, none⟩ = some (.int .i64 s) := Grown.holds hg2 (Grown.holds hg1 (by simp [go_sem]))
    have hc1 : w2.cell? ⟨w.heap.size + 1, 1, none⟩ = some (.int .u64 (W : Int)) := Grown.holds hg2 (Grown.holds hg1 (by simp [go_sem]))
    go_wp2
    go_region_held3 (fun w' => w'.cell? ⟨w.heap.size + 1, 0, none⟩ = some (.int .i64 s) ∧ w'.cell? ⟨w.heap.size + 1, 1, none⟩ = some (.int .u64 (W : Int)))
      (refine ⟨?_, ?_⟩ <;> first | (refine Grown.holds ?_ hc0; repeat (first | exact Grown.refl _ | apply Grown.drew | apply Grown.alloc)) | (refine Grown.holds ?_ hc1; repeat (first | exact Grown.refl _ | apply Grown.drew | apply Grown.alloc)))
      ((go_at_call 17; refine (mdCut_any hS _ _ (by assumption) (by assumption)).mono ?_; rintro e w1 ⟨rfl, hw⟩; replace hw := hw.symm; subst hw))
    go_wp2
    exact bodyPost_ret (v := .tuple #[.int .u32 (Q % M), .int .u32 (R % M), .bool true, .int .i64 0]) (by simp [results, Try.results8, go_sem]) rfl
      ⟨rfl, Grown.trans (Grown.trans (Grown.trans (by repeat (first | exact Grown.refl _ | apply Grown.drew | apply Grown.alloc)) hg1) hg2) (by repeat (first | exact Grown.refl _ | apply Grown.drew | apply Grown.alloc))⟩
  · have HQ' := quo_t HQ
    have HH : Hid (∀ w : World, Calls Try.prog 19 #[.agg #[.int .i64 s, .int .u64 (W : Int)], .int .u64 (divN M lo hi), .int .u64 (b % M)] w fun e w' => e = .returned (.tuple #[.int .u64 Q, .int .u64 R, .bool true]) ∧ Grown w w') := HQ'
    clear HQ HQ'
    go_enter Try.func8, Try.ntmps8
    go_wp2_with fail
    refine (mdSize_any _ _).mono ?_; rintro e w1 ⟨rfl, hw⟩; replace hw := hw.symm; subst hw
    go_wp2_with fail
    refine (mdWidth_any hS _).mono ?_; rintro e w1 ⟨rfl, hw⟩; replace hw := hw.symm; subst hw
    go_wp2_with fail
    refine (mdCut_any hS _ _ b0 b2).mono ?_; rintro e w1 ⟨rfl, hw⟩; replace hw := hw.symm; subst hw
    go_wp2_with fail
    refine (mdWhole_any hS _ _ _ l0 l1 h0 h1).mono ?_; rintro e w1 ⟨rfl, hg1⟩
    go_wp2_with fail
    refine (HH.out _).mono ?_; rintro e w2 ⟨rfl, hg2⟩
    have hc0 : w2.cell? ⟨w.heap.size + 1, 0, none⟩ = some (.int .i64 s) := Grown.holds hg2 (Grown.holds hg1 (by simp [go_sem]))
    have hc1 : w2.cell? ⟨w.heap.size + 1, 1, none⟩ = some (.int .u64 (W : Int)) := Grown.holds hg2 (Grown.holds hg1 (by simp [go_sem]))
    go_wp2
    go_region_held3 (fun w' => w'.cell? ⟨w.heap.size + 1, 0, none⟩ = some (.int .i64 s) ∧ w'.cell? ⟨w.heap.size + 1, 1, none⟩ = some (.int .u64 (W : Int)))
      (refine ⟨?_, ?_⟩ <;> first | (refine Grown.holds ?_ hc0; repeat (first | exact Grown.refl _ | apply Grown.drew | apply Grown.alloc)) | (refine Grown.holds ?_ hc1; repeat (first | exact Grown.refl _ | apply Grown.drew | apply Grown.alloc)))
      ((go_at_call 17; refine (mdCut_any hS _ _ (by assumption) (by assumption)).mono ?_; rintro e w1 ⟨rfl, hw⟩; replace hw := hw.symm; subst hw))
    go_wp2
    exact bodyPost_ret (v := .tuple #[.int .u32 (Q % M), .int .u32 (R % M), .bool true, .int .i64 0]) (by simp [results, Try.results8, go_sem]) rfl
      ⟨rfl, Grown.trans (Grown.trans (Grown.trans (by repeat (first | exact Grown.refl _ | apply Grown.drew | apply Grown.alloc)) hg1) hg2) (by repeat (first | exact Grown.refl _ | apply Grown.drew | apply Grown.alloc))⟩

/-- what muldiv.Div answers -/
def ansQ (sg : Bool) (M H lo hi b : Int) : Int := if divO sg M H lo hi b = true then divQ sg M H lo hi b else 0
def ansR (sg : Bool) (M H lo hi b : Int) : Int := if divO sg M H lo hi b = true then divR sg M H lo hi b else 0

theorem quo_of {s H M : Int} {W : Nat} (hS : Sw s H M W) (sg : Bool) (lo hi b : Int) (hz : b % M ≠ 0) :
    ∃ Q R, quoSays sg s W (divN M lo hi) (b % M) Q R (divO sg M H lo hi b) ∧ 0 ≤ Q ∧ Q < 18446744073709551616 ∧ 0 ≤ R ∧ R < 18446744073709551616 ∧ (divO sg M H lo hi b = true → Q % M = divQ sg M H lo hi b ∧ R % M = divR sg M H lo hi b) := by
  have p := hS.pow
  have bn := divN_bd hS lo hi
  have bb := mod_bd p.2.2.2.2.2.1 b
  cases sg
  · have q0 : 0 ≤ divN M lo hi / (b % M) := Int.ediv_nonneg bn.1 bb.1
    have q1 : divN M lo hi / (b % M) ≤ divN M lo hi := Int.ediv_le_self _ bn.1
    have r := mod_bd (M := b % M) (by omega) (divN M lo hi)
    have e : divO false M H lo hi b = decide (divN M lo hi / (b % M) < M) := by
      unfold divO; rw [if_neg hz]; rfl
    rw [e]
    refine ⟨divN M lo hi / (b % M), divN M lo hi % (b % M), fun w => mdDivide_any hS _ _ w bn.1 bn.2.2 (by omega) (by omega), q0, by omega, r.1, by omega, fun h => ⟨Int.emod_eq_of_lt q0 (by simpa using h), Int.emod_eq_of_lt r.1 (by omega)⟩⟩
  · have e : divO true M H lo hi b = sqO M H (divN M lo hi) (b % M) := by
      unfold divO; rw [if_neg hz]; rfl
    rw [e]
    refine ⟨sqQ M H (divN M lo hi) (b % M), sqR M H (divN M lo hi) (b % M), fun w => mdDivideS_any hS _ _ w bn.1 bn.2.1 bn.2.2 (by omega) bb.2, (mod_bd (by decide) _).1, (mod_bd (by decide) _).2, (mod_bd (by decide) _).1, (mod_bd (by decide) _).2, fun _ => ⟨?_, ?_⟩⟩
    · unfold sqQ divQ divA
      rw [if_pos rfl, wrap_u64', half_lo hS]
      generalize (sgv (M * M) (H * M) (divN M lo hi)).tdiv (sgv M H (b % M)) = T
      unfold wrap64
      rcases hS with ⟨rfl, rfl, rfl, rfl⟩ | ⟨rfl, rfl, rfl, rfl⟩ | ⟨rfl, rfl, rfl, rfl⟩ <;> omega
    · unfold sqR divR divA
      rw [if_pos rfl, wrap_u64', half_lo hS]

theorem mdDiv_ok {s H M : Int} {W : Nat} (hS : Sw s H M W) (sg : Bool) (lo hi b : Int) (w : World) (l0 : 0 ≤ lo) (l1 : lo < 4294967296) (h0 : 0 ≤ hi) (h1 : hi < 4294967296) (b0 : 0 ≤ b) (b1 : b < 4294967296) :
    Calls Try.prog 8 #[.bool sg, .int .i64 s, .int .u32 lo, .int .u32 hi, .int .u32 b] w fun e w' => e = .returned (.tuple #[.int .u32 (ansQ sg M H lo hi b), .int .u32 (ansR sg M H lo hi b), .bool (divO sg M H lo hi b), .int .i64 0]) ∧ Grown w w' := by
  by_cases hz : b % M = 0
  · have e : divO sg M H lo hi b = false := by unfold divO; rw [if_pos hz]
    unfold ansQ ansR
    rw [e]
    exact mdDiv_zero hS sg lo hi b w b0 b1 hz
  · obtain ⟨Q, R, hq, q0, q1, r0, r1, he⟩ := quo_of hS sg lo hi b hz
    unfold ansQ ansR
    cases ho : divO sg M H lo hi b
    · rw [ho] at hq
      exact mdDiv_none hS sg lo hi b Q R w l0 l1 h0 h1 b0 b1 hz hq
    · rw [ho] at hq
      have h := mdDiv_some hS sg lo hi b Q R w l0 l1 h0 h1 b0 b1 hz q0 q1 r0 r1 hq
      rw [(he ho).1, (he ho).2] at h
      exact h

theorem ans_bd {s H M : Int} {W : Nat} (hS : Sw s H M W) (sg : Bool) (lo hi b : Int) : 0 ≤ ansQ sg M H lo hi b ∧ ansQ sg M H lo hi b < 4294967296 ∧ 0 ≤ ansR sg M H lo hi b ∧ ansR sg M H lo hi b < 4294967296 := by
  have p := hS.pow
  unfold ansQ ansR
  cases ho : divO sg M H lo hi b
  · simp
  · by_cases hz : b % M = 0
    · have e : divO sg M H lo hi b = false := by unfold divO; rw [if_pos hz]
      rw [e] at ho; cases ho
    · obtain ⟨Q, R, hq, q0, q1, r0, r1, he⟩ := quo_of hS sg lo hi b hz
      have h := he ho
      have m1 := mod_bd p.2.2.2.2.2.1 Q
      have m2 := mod_bd p.2.2.2.2.2.1 R
      rw [h.1] at m1
      rw [h.2] at m2
      rw [if_pos rfl, if_pos rfl]
      omega
end Go.Proofs.Ytecfkgnffhiemab
