/- Contracts of package muldiv's single digits and parts: for every input within their kinds they return what is named, and the world has at most new blocks. -/
import Derived.Test.YtecfkgnffhiemabMulDig
namespace Go.Proofs.Ytecfkgnffhiemab
open Go.ChangeShapes Go.WideShapes Go.ChangeAt Go.RowKit
set_option linter.unusedVariables false

set_option maxHeartbeats 4000000 in
theorem single_pf (al ah : Int) (af cf : Bool) (w : World) (a0 : 0 ≤ al) (a1 : al < 256) (h0 : 0 ≤ ah) (h1 : ah < 256) (HO : Hid (dOff al af = false)) :
    Calls Try.prog 26 #[.agg #[.int .u8 al, .int .u8 ah, .bool af, .bool cf], .int .i8 (6), .int .i8 (1)] w fun e w' => e = .returned (.agg #[.int .u8 (al % 16), .int .u8 (ah), .bool false, .bool false]) ∧ Grown w w' := by
  have e15 : bits .and .u8 (al) 15 = al % 16 := u8_and15 _ (by omega) (by omega)
  go_enter Try.func26, Try.ntmps26
  go_wp2
  go_region_held3 (fun w' => w'.cell? ⟨w.heap.size, 0, none⟩ = some (.int .u8 al) ∧ w'.cell? ⟨w.heap.size, 1, none⟩ = some (.int .u8 ah) ∧ w'.cell? ⟨w.heap.size, 2, none⟩ = some (.bool af) ∧ w'.cell? ⟨w.heap.size, 3, none⟩ = some (.bool cf))
    (simp [go_sem])
    ((go_at_call 34; refine (lowOff_is _ HO.out _ _ _ a0 a1).mono ?_; rintro e w1 ⟨rfl, hw⟩; replace hw := hw.symm; subst hw))
  all_goals
    go_wp2_with (go_at_call 34; refine (lowOff_is _ HO.out _ _ _ a0 a1).mono ?_; rintro e w1 ⟨rfl, hw⟩; replace hw := hw.symm; subst hw)
    exact bodyPost_ret (v := .agg #[.int .u8 (al % 16), .int .u8 (ah), .bool false, .bool false]) (by first | (simp [results, Try.results26, go_sem]; done) | (simp [results, Try.results26, go_sem]; omega)) rfl
      ⟨rfl, by repeat (first | exact Grown.refl _ | apply Grown.drew | apply Grown.alloc | (refine Grown.setCell ?_ (by simp) _))⟩

set_option maxHeartbeats 4000000 in
theorem single_pt (al ah : Int) (af cf : Bool) (w : World) (a0 : 0 ≤ al) (a1 : al < 256) (h0 : 0 ≤ ah) (h1 : ah < 256) (HO : Hid (dOff al af = true)) :
    Calls Try.prog 26 #[.agg #[.int .u8 al, .int .u8 ah, .bool af, .bool cf], .int .i8 (6), .int .i8 (1)] w fun e w' => e = .returned (.agg #[.int .u8 ((al + 6) % 256 % 16), .int .u8 ((ah + 1) % 256), .bool true, .bool true]) ∧ Grown w w' := by
  have e15 : bits .and .u8 ((al + 6) % 256) 15 = (al + 6) % 256 % 16 := u8_and15 _ (by omega) (by omega)
  go_enter Try.func26, Try.ntmps26
  go_wp2
  go_region_held3 (fun w' => w'.cell? ⟨w.heap.size, 0, none⟩ = some (.int .u8 al) ∧ w'.cell? ⟨w.heap.size, 1, none⟩ = some (.int .u8 ah) ∧ w'.cell? ⟨w.heap.size, 2, none⟩ = some (.bool af) ∧ w'.cell? ⟨w.heap.size, 3, none⟩ = some (.bool cf))
    (simp [go_sem])
    ((go_at_call 34; refine (lowOff_is _ HO.out _ _ _ a0 a1).mono ?_; rintro e w1 ⟨rfl, hw⟩; replace hw := hw.symm; subst hw))
  all_goals
    go_wp2_with (go_at_call 34; refine (lowOff_is _ HO.out _ _ _ a0 a1).mono ?_; rintro e w1 ⟨rfl, hw⟩; replace hw := hw.symm; subst hw)
    exact bodyPost_ret (v := .agg #[.int .u8 ((al + 6) % 256 % 16), .int .u8 ((ah + 1) % 256), .bool true, .bool true]) (by first | (simp [results, Try.results26, go_sem]; done) | (simp [results, Try.results26, go_sem]; omega)) rfl
      ⟨rfl, by repeat (first | exact Grown.refl _ | apply Grown.drew | apply Grown.alloc | (refine Grown.setCell ?_ (by simp) _))⟩

set_option maxHeartbeats 4000000 in
theorem single_mf (al ah : Int) (af cf : Bool) (w : World) (a0 : 0 ≤ al) (a1 : al < 256) (h0 : 0 ≤ ah) (h1 : ah < 256) (HO : Hid (dOff al af = false)) :
    Calls Try.prog 26 #[.agg #[.int .u8 al, .int .u8 ah, .bool af, .bool cf], .int .i8 (-6), .int .i8 (-1)] w fun e w' => e = .returned (.agg #[.int .u8 (al % 16), .int .u8 (ah), .bool false, .bool false]) ∧ Grown w w' := by
  have e15 : bits .and .u8 (al) 15 = al % 16 := u8_and15 _ (by omega) (by omega)
  go_enter Try.func26, Try.ntmps26
  go_wp2
  go_region_held3 (fun w' => w'.cell? ⟨w.heap.size, 0, none⟩ = some (.int .u8 al) ∧ w'.cell? ⟨w.heap.size, 1, none⟩ = some (.int .u8 ah) ∧ w'.cell? ⟨w.heap.size, 2, none⟩ = some (.bool af) ∧ w'.cell? ⟨w.heap.size, 3, none⟩ = some (.bool cf))
    (simp [go_sem])
    ((go_at_call 34; refine (lowOff_is _ HO.out _ _ _ a0 a1).mono ?_; rintro e w1 ⟨rfl, hw⟩; replace hw := hw.symm; subst hw))
  all_goals
    go_wp2_with (go_at_call 34; refine (lowOff_is _ HO.out _ _ _ a0 a1).mono ?_; rintro e w1 ⟨rfl, hw⟩; replace hw := hw.symm; subst hw)
    exact bodyPost_ret (v := .agg #[.int .u8 (al % 16), .int .u8 (ah), .bool false, .bool false]) (by first | (simp [results, Try.results26, go_sem]; done) | (simp [results, Try.results26, go_sem]; omega)) rfl
      ⟨rfl, by repeat (first | exact Grown.refl _ | apply Grown.drew | apply Grown.alloc | (refine Grown.setCell ?_ (by simp) _))⟩

set_option maxHeartbeats 4000000 in
theorem single_mt (al ah : Int) (af cf : Bool) (w : World) (a0 : 0 ≤ al) (a1 : al < 256) (h0 : 0 ≤ ah) (h1 : ah < 256) (HO : Hid (dOff al af = true)) :
    Calls Try.prog 26 #[.agg #[.int .u8 al, .int .u8 ah, .bool af, .bool cf], .int .i8 (-6), .int .i8 (-1)] w fun e w' => e = .returned (.agg #[.int .u8 ((al + 250) % 256 % 16), .int .u8 ((ah + 255) % 256), .bool true, .bool true]) ∧ Grown w w' := by
  have e15 : bits .and .u8 ((al + 250) % 256) 15 = (al + 250) % 256 % 16 := u8_and15 _ (by omega) (by omega)
  go_enter Try.func26, Try.ntmps26
  go_wp2
  go_region_held3 (fun w' => w'.cell? ⟨w.heap.size, 0, none⟩ = some (.int .u8 al) ∧ w'.cell? ⟨w.heap.size, 1, none⟩ = some (.int .u8 ah) ∧ w'.cell? ⟨w.heap.size, 2, none⟩ = some (.bool af) ∧ w'.cell? ⟨w.heap.size, 3, none⟩ = some (.bool cf))
    (simp [go_sem])
    ((go_at_call 34; refine (lowOff_is _ HO.out _ _ _ a0 a1).mono ?_; rintro e w1 ⟨rfl, hw⟩; replace hw := hw.symm; subst hw))
  all_goals
    go_wp2_with (go_at_call 34; refine (lowOff_is _ HO.out _ _ _ a0 a1).mono ?_; rintro e w1 ⟨rfl, hw⟩; replace hw := hw.symm; subst hw)
    exact bodyPost_ret (v := .agg #[.int .u8 ((al + 250) % 256 % 16), .int .u8 ((ah + 255) % 256), .bool true, .bool true]) (by first | (simp [results, Try.results26, go_sem]; done) | (simp [results, Try.results26, go_sem]; omega)) rfl
      ⟨rfl, by repeat (first | exact Grown.refl _ | apply Grown.drew | apply Grown.alloc | (refine Grown.setCell ?_ (by simp) _))⟩
end Go.Proofs.Ytecfkgnffhiemab
