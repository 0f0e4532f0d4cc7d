/- Contracts of the document's own answers: has, Parse, code, data, second, third. -/
import Derived.Test.YtpgionhhjmlmmaaSegAwake
namespace Go.Proofs.Ytpgionhhjmlmmaa
open Go.ChangeShapes Go.WideShapes Go.ChangeAt Go.RowKit
set_option linter.unusedVariables false

def twoT (t : Int) : Bool := (t.tdiv 2).tmod 2 == 1
def fourT (t : Int) : Bool := (t.tdiv 4).tmod 2 == 1

theorem twoT_eq {t : Int} (h : 0 ≤ t) : twoT t = two t := by
  unfold twoT two
  rw [Int.tdiv_eq_ediv_of_nonneg h, Int.tmod_eq_emod_of_nonneg (Int.ediv_nonneg h (by decide))]
  by_cases e : t / 2 % 2 = 1 <;> simp [e]
theorem fourT_eq {t : Int} (h : 0 ≤ t) : fourT t = four t := by
  unfold fourT four
  rw [Int.tdiv_eq_ediv_of_nonneg h, Int.tmod_eq_emod_of_nonneg (Int.ediv_nonneg h (by decide))]
  by_cases e : t / 4 % 2 = 1 <;> simp [e]


theorem has12_any (x : Int) (w : World) (x0 : 0 ≤ x) (x1 : x < 4294967296) : Calls Try.prog 21 #[.int .u32 x, .int .i64 12] w fun e w' => e = .returned (.bool (bitP x 4096)) ∧ w' = w := by
  go_enter Try.func21, Try.ntmps21
  go_wp2
  go_ret
  exact ⟨ret_bool (by unfold bitP; by_cases h : x / 4096 % 2 = 1 <;> simp [h]), rfl⟩


theorem has15_any (x : Int) (w : World) (x0 : 0 ≤ x) (x1 : x < 4294967296) : Calls Try.prog 21 #[.int .u32 x, .int .i64 15] w fun e w' => e = .returned (.bool (bitP x 32768)) ∧ w' = w := by
  go_enter Try.func21, Try.ntmps21
  go_wp2
  go_ret
  exact ⟨ret_bool (by unfold bitP; by_cases h : x / 32768 % 2 = 1 <;> simp [h]), rfl⟩


theorem has22_any (x : Int) (w : World) (x0 : 0 ≤ x) (x1 : x < 4294967296) : Calls Try.prog 21 #[.int .u32 x, .int .i64 22] w fun e w' => e = .returned (.bool (bitP x 4194304)) ∧ w' = w := by
  go_enter Try.func21, Try.ntmps21
  go_wp2
  go_ret
  exact ⟨ret_bool (by unfold bitP; by_cases h : x / 4194304 % 2 = 1 <;> simp [h]), rfl⟩


theorem has23_any (x : Int) (w : World) (x0 : 0 ≤ x) (x1 : x < 4294967296) : Calls Try.prog 21 #[.int .u32 x, .int .i64 23] w fun e w' => e = .returned (.bool (bitP x 8388608)) ∧ w' = w := by
  go_enter Try.func21, Try.ntmps21
  go_wp2
  go_ret
  exact ⟨ret_bool (by unfold bitP; by_cases h : x / 8388608 % 2 = 1 <;> simp [h]), rfl⟩


set_option maxHeartbeats 1000000 in
theorem refParse_any (lo hi : Int) (w : World) (l0 : 0 ≤ lo) (l1 : lo < 4294967296) (h0 : 0 ≤ hi) (h1 : hi < 4294967296) :
    Calls Try.prog 11 #[.int .u32 lo, .int .u32 hi] w fun e w' => e = .returned (.agg #[.int .u32 (baseB lo hi), .int .u32 (limB lo hi), .int .i64 (typB hi), .bool (!bitP hi 4096), .int .i64 (dplB hi), .bool (bitP hi 32768), .bool (bitP hi 4194304)]) ∧ Grown w w' := by
  go_enter Try.func11, Try.ntmps11
  go_wp2_with fail
  refine (has23_any _ _ h0 h1).mono ?_; rintro e w' ⟨rfl, hw⟩; replace hw := hw.symm; subst hw
  generalize hq : bitP hi 8388608 = q
  cases q
  · have HL : limB lo hi = limS lo hi := by unfold limB; rw [hq]; rfl
    go_wp2_with fail
    refine (has12_any _ _ h0 h1).mono ?_; rintro e w' ⟨rfl, hw⟩; replace hw := hw.symm; subst hw
    go_wp2_with fail
    refine (has15_any _ _ h0 h1).mono ?_; rintro e w' ⟨rfl, hw⟩; replace hw := hw.symm; subst hw
    go_wp2_with fail
    refine (has22_any _ _ h0 h1).mono ?_; rintro e w' ⟨rfl, hw⟩; replace hw := hw.symm; subst hw
    go_wp2
    exact bodyPost_ret (v := .agg #[.int .u32 (baseB lo hi), .int .u32 (limB lo hi), .int .i64 (typB hi), .bool (!bitP hi 4096), .int .i64 (dplB hi), .bool (bitP hi 32768), .bool (bitP hi 4194304)]) (by simp [results, Try.results11, go_sem, HL, baseB, typB, dplB, limS]) rfl ⟨rfl, Grown.alloc (Grown.refl _) _ _⟩
  · have HL : limB lo hi = limS lo hi * 4096 + 4095 := by unfold limB; rw [hq]; rfl
    go_wp2_with fail
    refine (has12_any _ _ h0 h1).mono ?_; rintro e w' ⟨rfl, hw⟩; replace hw := hw.symm; subst hw
    go_wp2_with fail
    refine (has15_any _ _ h0 h1).mono ?_; rintro e w' ⟨rfl, hw⟩; replace hw := hw.symm; subst hw
    go_wp2_with fail
    refine (has22_any _ _ h0 h1).mono ?_; rintro e w' ⟨rfl, hw⟩; replace hw := hw.symm; subst hw
    go_wp2
    exact bodyPost_ret (v := .agg #[.int .u32 (baseB lo hi), .int .u32 (limB lo hi), .int .i64 (typB hi), .bool (!bitP hi 4096), .int .i64 (dplB hi), .bool (bitP hi 32768), .bool (bitP hi 4194304)]) (by simp [results, Try.results11, go_sem, HL, baseB, typB, dplB, limS]) rfl ⟨rfl, Grown.alloc (Grown.refl _) _ _⟩


theorem ref_code (b l t : Int) (s : Bool) (d : Int) (p g : Bool) (w : World) : Calls Try.prog 31 #[.agg #[.int .u32 b, .int .u32 l, .int .i64 t, .bool s, .int .i64 d, .bool p, .bool g]] w fun e w' => e = .returned (.bool (isC s t)) ∧ Grown w w' := by
  go_enter Try.func31, Try.ntmps31
  go_wp2
  all_goals go_ret
  all_goals refine ⟨ret_bool ?_, Grown.alloc (Grown.refl _) _ _⟩
  all_goals cases s <;> first | (simp_all [isC]; done) | (simp_all [isC]; omega)


theorem ref_data (b l t : Int) (s : Bool) (d : Int) (p g : Bool) (w : World) : Calls Try.prog 33 #[.agg #[.int .u32 b, .int .u32 l, .int .i64 t, .bool s, .int .i64 d, .bool p, .bool g]] w fun e w' => e = .returned (.bool (isD s t)) ∧ Grown w w' := by
  go_enter Try.func33, Try.ntmps33
  go_wp2
  all_goals go_ret
  all_goals refine ⟨ret_bool ?_, Grown.alloc (Grown.refl _) _ _⟩
  all_goals cases s <;> first | (simp_all [isD]; done) | (simp_all [isD]; omega)


theorem ref_second (b l t : Int) (s : Bool) (d : Int) (p g : Bool) (w : World) (t0 : -9223372036854775808 ≤ t) (t1 : t < 9223372036854775808) : Calls Try.prog 32 #[.agg #[.int .u32 b, .int .u32 l, .int .i64 t, .bool s, .int .i64 d, .bool p, .bool g]] w fun e w' => e = .returned (.bool (twoT t)) ∧ Grown w w' := by
  go_enter Try.func32, Try.ntmps32
  go_wp2
  all_goals go_ret
  all_goals exact ⟨ret_bool (by simp [twoT]), Grown.alloc (Grown.refl _) _ _⟩


theorem ref_third (b l t : Int) (s : Bool) (d : Int) (p g : Bool) (w : World) (t0 : -9223372036854775808 ≤ t) (t1 : t < 9223372036854775808) : Calls Try.prog 34 #[.agg #[.int .u32 b, .int .u32 l, .int .i64 t, .bool s, .int .i64 d, .bool p, .bool g]] w fun e w' => e = .returned (.bool (fourT t)) ∧ Grown w w' := by
  go_enter Try.func34, Try.ntmps34
  go_wp2
  all_goals go_ret
  all_goals exact ⟨ret_bool (by simp [fourT]), Grown.alloc (Grown.refl _) _ _⟩

end Go.Proofs.Ytpgionhhjmlmmaa
