/- Contracts of Parse and of the document's own. -/
import Derived.Test.YtpgionhhjmlmmaaSegLeaf
import Derived.Test.YtpgionhhjmlmmaaSegWord
namespace Go.Proofs.Ytpgionhhjmlmmaa
open Go.ChangeShapes Go.WideShapes Go.ChangeAt Go.RowKit
set_option linter.unusedVariables false


theorem bit12_any (x : Int) (w : World) (x0 : 0 ≤ x) (x1 : x < 4294967296) : Calls Try.prog 20 #[.int .u32 x, .int .u64 12] w fun e w' => e = .returned (.bool (bitP x 4096)) ∧ w' = w := by
  have h := bit_and x0 x1 4096 (by decide)
  go_enter Try.func20, Try.ntmps20
  go_wp2
  go_ret
  exact ⟨rfl, rfl⟩


theorem bit15_any (x : Int) (w : World) (x0 : 0 ≤ x) (x1 : x < 4294967296) : Calls Try.prog 20 #[.int .u32 x, .int .u64 15] w fun e w' => e = .returned (.bool (bitP x 32768)) ∧ w' = w := by
  have h := bit_and x0 x1 32768 (by decide)
  go_enter Try.func20, Try.ntmps20
  go_wp2
  go_ret
  exact ⟨rfl, rfl⟩


theorem bit22_any (x : Int) (w : World) (x0 : 0 ≤ x) (x1 : x < 4294967296) : Calls Try.prog 20 #[.int .u32 x, .int .u64 22] w fun e w' => e = .returned (.bool (bitP x 4194304)) ∧ w' = w := by
  have h := bit_and x0 x1 4194304 (by decide)
  go_enter Try.func20, Try.ntmps20
  go_wp2
  go_ret
  exact ⟨rfl, rfl⟩


theorem bit23_any (x : Int) (w : World) (x0 : 0 ≤ x) (x1 : x < 4294967296) : Calls Try.prog 20 #[.int .u32 x, .int .u64 23] w fun e w' => e = .returned (.bool (bitP x 8388608)) ∧ w' = w := by
  have h := bit_and x0 x1 8388608 (by decide)
  go_enter Try.func20, Try.ntmps20
  go_wp2
  go_ret
  exact ⟨rfl, rfl⟩


set_option maxHeartbeats 1000000 in
theorem parse_any (lo hi : Int) (w : World) (l0 : 0 ≤ lo) (l1 : lo < 4294967296) (h0 : 0 ≤ hi) (h1 : hi < 4294967296) :
    Calls Try.prog 10 #[.int .u32 lo, .int .u32 hi] w fun e w' => e = .returned (.agg #[.int .u32 (baseB lo hi), .int .u32 (limB lo hi), .int .i64 (typB hi), .bool (!bitP hi 4096), .int .i64 (dplB hi), .bool (bitP hi 32768), .bool (bitP hi 4194304)]) ∧ Grown w w' := by
  have f1 := word_lim l0 l1 h0 h1
  have f2 := word_page lo hi
  have f3 := word_base l0 l1 h0 h1
  have f4 := word_typ h0 h1
  have f5 := word_dpl h0 h1
  have hl := limB_bd lo hi
  have b4 := typB_bd hi
  have b5 := dplB_bd hi
  go_enter Try.func10, Try.ntmps10
  go_wp2_with fail
  refine (bit23_any _ _ h0 h1).mono ?_; rintro e w' ⟨rfl, hw⟩; replace hw := hw.symm; subst hw
  generalize hq : bitP hi 8388608 = q
  cases q
  · have HL : limB lo hi = limS lo hi := by unfold limB; rw [hq]; rfl
    go_wp2_with fail
    refine (bit12_any _ _ h0 h1).mono ?_; rintro e w' ⟨rfl, hw⟩; replace hw := hw.symm; subst hw
    go_wp2_with fail
    refine (bit15_any _ _ h0 h1).mono ?_; rintro e w' ⟨rfl, hw⟩; replace hw := hw.symm; subst hw
    go_wp2_with fail
    refine (bit22_any _ _ h0 h1).mono ?_; rintro e w' ⟨rfl, hw⟩; replace hw := hw.symm; subst hw
    go_wp2
    exact bodyPost_ret (v := .agg #[.int .u32 (baseB lo hi), .int .u32 (limB lo hi), .int .i64 (typB hi), .bool (!bitP hi 4096), .int .i64 (dplB hi), .bool (bitP hi 32768), .bool (bitP hi 4194304)]) (by simp [results, Try.results10, go_sem, HL]) rfl ⟨rfl, Grown.alloc (Grown.refl _) _ _⟩
  · have HL : limB lo hi = limS lo hi * 4096 + 4095 := by unfold limB; rw [hq]; rfl
    go_wp2_with fail
    refine (bit12_any _ _ h0 h1).mono ?_; rintro e w' ⟨rfl, hw⟩; replace hw := hw.symm; subst hw
    go_wp2_with fail
    refine (bit15_any _ _ h0 h1).mono ?_; rintro e w' ⟨rfl, hw⟩; replace hw := hw.symm; subst hw
    go_wp2_with fail
    refine (bit22_any _ _ h0 h1).mono ?_; rintro e w' ⟨rfl, hw⟩; replace hw := hw.symm; subst hw
    go_wp2
    exact bodyPost_ret (v := .agg #[.int .u32 (baseB lo hi), .int .u32 (limB lo hi), .int .i64 (typB hi), .bool (!bitP hi 4096), .int .i64 (dplB hi), .bool (bitP hi 32768), .bool (bitP hi 4194304)]) (by simp [results, Try.results10, go_sem, HL]) rfl ⟨rfl, Grown.alloc (Grown.refl _) _ _⟩
end Go.Proofs.Ytpgionhhjmlmmaa
