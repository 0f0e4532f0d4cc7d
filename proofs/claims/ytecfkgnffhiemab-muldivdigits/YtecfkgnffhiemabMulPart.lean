/- The contract of package muldiv's part of a value into digits: for every input within its kinds it returns what is named, and the world has at most new blocks. -/
import Derived.Test.YtecfkgnffhiemabMulDig
namespace Go.Proofs.Ytecfkgnffhiemab
open Go.ChangeShapes Go.WideShapes Go.ChangeAt Go.RowKit
set_option linter.unusedVariables false

theorem part_any (al ah b : Int) (af cf : Bool) (w : World) (a0 : 0 ≤ al) (a1 : al < 256) (b0 : 0 < b) (b1 : b < 256) :
    Calls Try.prog 28 #[.agg #[.int .u8 al, .int .u8 ah, .bool af, .bool cf], .int .u8 b] w fun e w' => e = .returned (.tuple #[.agg #[.int .u8 (al % b), .int .u8 (al / b), .bool false, .bool false], .bool true]) ∧ Grown w w' := by
  have hb : b ≠ 0 := by omega
  have hb' : (b == 0) = false := by simp; omega
  have b2 : 0 ≤ b := by omega
  have q0 : 0 ≤ al / b := Int.ediv_nonneg a0 b2
  have q1 : al / b < 256 := Int.lt_of_le_of_lt (Int.ediv_le_self _ a0) a1
  have HM : Hid (al.tmod b = al % b) := Int.tmod_eq_emod_of_nonneg a0
  have HQ : Hid (IntKind.u8.wrap (al.tdiv b) = al / b) := (by rw [Int.tdiv_eq_ediv_of_nonneg a0]; exact Int.emod_eq_of_lt q0 q1 : IntKind.u8.wrap (al.tdiv b) = al / b)
  go_enter Try.func28, Try.ntmps28
  go_wp2
  go_region_held3 (fun w' => w'.cell? ⟨w.heap.size, 0, none⟩ = some (.int .u8 al))
    (simp [go_sem])
    (fail)
  all_goals
    go_wp2
    exact bodyPost_ret (v := .tuple #[.agg #[.int .u8 (al.tmod b), .int .u8 (IntKind.u8.wrap (al.tdiv b)), .bool false, .bool false], .bool true]) (by simp [results, Try.results28, go_sem]) rfl
      ⟨by rw [HM.out, HQ.out], by repeat (first | exact Grown.refl _ | apply Grown.drew | apply Grown.alloc | (refine Grown.setCell ?_ (by simp) _))⟩
end Go.Proofs.Ytecfkgnffhiemab
