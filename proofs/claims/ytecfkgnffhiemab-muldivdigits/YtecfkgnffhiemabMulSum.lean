/- Contracts of package muldiv's packed sums: for every input within their kinds they return what is named, and the world has at most new blocks. -/
import Derived.Test.YtecfkgnffhiemabMulDig
namespace Go.Proofs.Ytecfkgnffhiemab
open Go.ChangeShapes Go.WideShapes Go.ChangeAt Go.RowKit
set_option linter.unusedVariables false

set_option maxHeartbeats 4000000 in
theorem packedSum_ff (al ah : Int) (af cf : Bool) (w : World) (a0 : 0 ≤ al) (a1 : al < 256) (HO : Hid (dOff al af = false)) (HH : Hid (dHi al cf = false)) :
    Calls Try.prog 22 #[.agg #[.int .u8 al, .int .u8 ah, .bool af, .bool cf]] w fun e w' => e = .returned (.agg #[.int .u8 (al), .int .u8 ah, .bool false, .bool false]) ∧ Grown w w' := by
  go_enter Try.func22, Try.ntmps22
  go_wp2
  go_region_held3 (fun w' => w'.cell? ⟨w.heap.size, 0, none⟩ = some (.int .u8 al) ∧ w'.cell? ⟨w.heap.size, 1, none⟩ = some (.int .u8 ah) ∧ w'.cell? ⟨w.heap.size, 2, none⟩ = some (.bool af) ∧ w'.cell? ⟨w.heap.size, 3, none⟩ = some (.bool cf))
    (simp [go_sem])
    ((first
    | (go_at_call 34; refine (lowOff_is _ HO.out _ _ _ a0 a1).mono ?_; rintro e w1 ⟨rfl, hw⟩; replace hw := hw.symm; subst hw)
    | (go_at_call 35; refine (highOff_is _ HH.out _ _ _ a0 a1).mono ?_; rintro e w1 ⟨rfl, hw⟩; replace hw := hw.symm; subst hw)))
  all_goals
    go_wp2
    exact bodyPost_ret (v := .agg #[.int .u8 (al), .int .u8 ah, .bool false, .bool false]) (by first | (simp [results, Try.results22, go_sem]; done) | (simp [results, Try.results22, go_sem]; omega)) rfl
      ⟨rfl, by repeat (first | exact Grown.refl _ | apply Grown.drew | apply Grown.alloc | (refine Grown.setCell ?_ (by simp) _))⟩

set_option maxHeartbeats 4000000 in
theorem packedSum_ft (al ah : Int) (af cf : Bool) (w : World) (a0 : 0 ≤ al) (a1 : al < 256) (HO : Hid (dOff al af = false)) (HH : Hid (dHi al cf = true)) :
    Calls Try.prog 22 #[.agg #[.int .u8 al, .int .u8 ah, .bool af, .bool cf]] w fun e w' => e = .returned (.agg #[.int .u8 ((al + 96) % 256), .int .u8 ah, .bool false, .bool true]) ∧ Grown w w' := by
  go_enter Try.func22, Try.ntmps22
  go_wp2
  go_region_held3 (fun w' => w'.cell? ⟨w.heap.size, 0, none⟩ = some (.int .u8 al) ∧ w'.cell? ⟨w.heap.size, 1, none⟩ = some (.int .u8 ah) ∧ w'.cell? ⟨w.heap.size, 2, none⟩ = some (.bool af) ∧ w'.cell? ⟨w.heap.size, 3, none⟩ = some (.bool cf))
    (simp [go_sem])
    ((first
    | (go_at_call 34; refine (lowOff_is _ HO.out _ _ _ a0 a1).mono ?_; rintro e w1 ⟨rfl, hw⟩; replace hw := hw.symm; subst hw)
    | (go_at_call 35; refine (highOff_is _ HH.out _ _ _ a0 a1).mono ?_; rintro e w1 ⟨rfl, hw⟩; replace hw := hw.symm; subst hw)))
  all_goals
    go_wp2
    exact bodyPost_ret (v := .agg #[.int .u8 ((al + 96) % 256), .int .u8 ah, .bool false, .bool true]) (by first | (simp [results, Try.results22, go_sem]; done) | (simp [results, Try.results22, go_sem]; omega)) rfl
      ⟨rfl, by repeat (first | exact Grown.refl _ | apply Grown.drew | apply Grown.alloc | (refine Grown.setCell ?_ (by simp) _))⟩

set_option maxHeartbeats 4000000 in
theorem packedSum_tf (al ah : Int) (af cf : Bool) (w : World) (a0 : 0 ≤ al) (a1 : al < 256) (HO : Hid (dOff al af = true)) (HH : Hid (dHi al cf = false)) :
    Calls Try.prog 22 #[.agg #[.int .u8 al, .int .u8 ah, .bool af, .bool cf]] w fun e w' => e = .returned (.agg #[.int .u8 ((al + 6) % 256), .int .u8 ah, .bool true, .bool false]) ∧ Grown w w' := by
  go_enter Try.func22, Try.ntmps22
  go_wp2
  go_region_held3 (fun w' => w'.cell? ⟨w.heap.size, 0, none⟩ = some (.int .u8 al) ∧ w'.cell? ⟨w.heap.size, 1, none⟩ = some (.int .u8 ah) ∧ w'.cell? ⟨w.heap.size, 2, none⟩ = some (.bool af) ∧ w'.cell? ⟨w.heap.size, 3, none⟩ = some (.bool cf))
    (simp [go_sem])
    ((first
    | (go_at_call 34; refine (lowOff_is _ HO.out _ _ _ a0 a1).mono ?_; rintro e w1 ⟨rfl, hw⟩; replace hw := hw.symm; subst hw)
    | (go_at_call 35; refine (highOff_is _ HH.out _ _ _ a0 a1).mono ?_; rintro e w1 ⟨rfl, hw⟩; replace hw := hw.symm; subst hw)))
  all_goals
    go_wp2
    exact bodyPost_ret (v := .agg #[.int .u8 ((al + 6) % 256), .int .u8 ah, .bool true, .bool false]) (by first | (simp [results, Try.results22, go_sem]; done) | (simp [results, Try.results22, go_sem]; omega)) rfl
      ⟨rfl, by repeat (first | exact Grown.refl _ | apply Grown.drew | apply Grown.alloc | (refine Grown.setCell ?_ (by simp) _))⟩

set_option maxHeartbeats 4000000 in
theorem packedSum_tt (al ah : Int) (af cf : Bool) (w : World) (a0 : 0 ≤ al) (a1 : al < 256) (HO : Hid (dOff al af = true)) (HH : Hid (dHi al cf = true)) :
    Calls Try.prog 22 #[.agg #[.int .u8 al, .int .u8 ah, .bool af, .bool cf]] w fun e w' => e = .returned (.agg #[.int .u8 ((al + 6 + 96) % 256), .int .u8 ah, .bool true, .bool true]) ∧ Grown w w' := by
  go_enter Try.func22, Try.ntmps22
  go_wp2
  go_region_held3 (fun w' => w'.cell? ⟨w.heap.size, 0, none⟩ = some (.int .u8 al) ∧ w'.cell? ⟨w.heap.size, 1, none⟩ = some (.int .u8 ah) ∧ w'.cell? ⟨w.heap.size, 2, none⟩ = some (.bool af) ∧ w'.cell? ⟨w.heap.size, 3, none⟩ = some (.bool cf))
    (simp [go_sem])
    ((first
    | (go_at_call 34; refine (lowOff_is _ HO.out _ _ _ a0 a1).mono ?_; rintro e w1 ⟨rfl, hw⟩; replace hw := hw.symm; subst hw)
    | (go_at_call 35; refine (highOff_is _ HH.out _ _ _ a0 a1).mono ?_; rintro e w1 ⟨rfl, hw⟩; replace hw := hw.symm; subst hw)))
  all_goals
    go_wp2
    exact bodyPost_ret (v := .agg #[.int .u8 ((al + 6 + 96) % 256), .int .u8 ah, .bool true, .bool true]) (by first | (simp [results, Try.results22, go_sem]; done) | (simp [results, Try.results22, go_sem]; omega)) rfl
      ⟨rfl, by repeat (first | exact Grown.refl _ | apply Grown.drew | apply Grown.alloc | (refine Grown.setCell ?_ (by simp) _))⟩
end Go.Proofs.Ytecfkgnffhiemab
