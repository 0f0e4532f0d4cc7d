/- Contracts of the functions in muldiv's map of adjustments: for every input within their kinds they return what is named, and the world has at most new blocks. -/
import Derived.Test.YtecfkgnffhiemabMulDig
import Derived.Test.YtecfkgnffhiemabMulMul
namespace Go.Proofs.Ytecfkgnffhiemab
open Go.ChangeShapes Go.WideShapes Go.ChangeAt Go.RowKit
set_option linter.unusedVariables false

theorem frozen_of {W w' : World} (h : Grown W w') {p : Addr} (hf : W.frozen? p = false) : w'.frozen? p = false := (h.2.1 p).trans hf

set_option maxHeartbeats 1000000 in
theorem clo1_any (al ah bs x y : Int) (af cf a c : Bool) (w : World)
    (H : Hid (∀ w : World, Calls Try.prog 22 #[.agg #[.int .u8 al, .int .u8 ah, .bool af, .bool cf]] w fun e w' => e = .returned (.agg #[.int .u8 x, .int .u8 y, .bool a, .bool c]) ∧ Grown w w')) :
    Calls Try.prog 21 #[.agg #[.int .u8 al, .int .u8 ah, .bool af, .bool cf], .int .u8 bs] w fun e w' => e = .returned (.tuple #[.agg #[.int .u8 x, .int .u8 y, .bool a, .bool c], .bool true]) ∧ Grown w w' := by
  go_enter Try.func21, Try.ntmps21
  go_wp2_with fail
  refine (H.out _).mono ?_; rintro e w1 ⟨rfl, hg⟩
  have c0 : w1.cell? ⟨w.heap.size + 1, 0, none⟩ = some (.int .u8 0) := Grown.holds hg (by simp [go_sem])
  have c1 : w1.cell? ⟨w.heap.size + 1, 1, none⟩ = some (.int .u8 0) := Grown.holds hg (by simp [go_sem])
  have c2 : w1.cell? ⟨w.heap.size + 1, 2, none⟩ = some (.bool false) := Grown.holds hg (by simp [go_sem])
  have c3 : w1.cell? ⟨w.heap.size + 1, 3, none⟩ = some (.bool false) := Grown.holds hg (by simp [go_sem])
  have f0 : ∀ i, w1.frozen? ⟨w.heap.size + 1, i, none⟩ = false := fun i => frozen_of hg (by simp [go_sem])
  go_wp2
  exact bodyPost_ret (v := .tuple #[.agg #[.int .u8 x, .int .u8 y, .bool a, .bool c], .bool true]) (by simp [results, Try.results21, go_sem, c0, c1, c2, c3]) rfl
    ⟨rfl, Grown.setCell (Grown.setCell (Grown.setCell (Grown.setCell (Grown.trans (Grown.alloc (Grown.alloc (Grown.refl _) _ _) _ _) hg) (by simp) _) (by simp) _) (by simp) _) (by simp) _⟩

set_option maxHeartbeats 1000000 in
theorem clo2_any (al ah bs x y : Int) (af cf a c : Bool) (w : World)
    (H : Hid (∀ w : World, Calls Try.prog 24 #[.agg #[.int .u8 al, .int .u8 ah, .bool af, .bool cf]] w fun e w' => e = .returned (.agg #[.int .u8 x, .int .u8 y, .bool a, .bool c]) ∧ Grown w w')) :
    Calls Try.prog 23 #[.agg #[.int .u8 al, .int .u8 ah, .bool af, .bool cf], .int .u8 bs] w fun e w' => e = .returned (.tuple #[.agg #[.int .u8 x, .int .u8 y, .bool a, .bool c], .bool true]) ∧ Grown w w' := by
  go_enter Try.func23, Try.ntmps23
  go_wp2_with fail
  refine (H.out _).mono ?_; rintro e w1 ⟨rfl, hg⟩
  have c0 : w1.cell? ⟨w.heap.size + 1, 0, none⟩ = some (.int .u8 0) := Grown.holds hg (by simp [go_sem])
  have c1 : w1.cell? ⟨w.heap.size + 1, 1, none⟩ = some (.int .u8 0) := Grown.holds hg (by simp [go_sem])
  have c2 : w1.cell? ⟨w.heap.size + 1, 2, none⟩ = some (.bool false) := Grown.holds hg (by simp [go_sem])
  have c3 : w1.cell? ⟨w.heap.size + 1, 3, none⟩ = some (.bool false) := Grown.holds hg (by simp [go_sem])
  have f0 : ∀ i, w1.frozen? ⟨w.heap.size + 1, i, none⟩ = false := fun i => frozen_of hg (by simp [go_sem])
  go_wp2
  exact bodyPost_ret (v := .tuple #[.agg #[.int .u8 x, .int .u8 y, .bool a, .bool c], .bool true]) (by simp [results, Try.results23, go_sem, c0, c1, c2, c3]) rfl
    ⟨rfl, Grown.setCell (Grown.setCell (Grown.setCell (Grown.setCell (Grown.trans (Grown.alloc (Grown.alloc (Grown.refl _) _ _) _ _) hg) (by simp) _) (by simp) _) (by simp) _) (by simp) _⟩

set_option maxHeartbeats 1000000 in
theorem clo3_any (al ah bs x y : Int) (af cf a c : Bool) (w : World)
    (H : Hid (∀ w : World, Calls Try.prog 26 #[.agg #[.int .u8 al, .int .u8 ah, .bool af, .bool cf], .int .i8 6, .int .i8 1] w fun e w' => e = .returned (.agg #[.int .u8 x, .int .u8 y, .bool a, .bool c]) ∧ Grown w w')) :
    Calls Try.prog 25 #[.agg #[.int .u8 al, .int .u8 ah, .bool af, .bool cf], .int .u8 bs] w fun e w' => e = .returned (.tuple #[.agg #[.int .u8 x, .int .u8 y, .bool a, .bool c], .bool true]) ∧ Grown w w' := by
  go_enter Try.func25, Try.ntmps25
  go_wp2_with fail
  refine (H.out _).mono ?_; rintro e w1 ⟨rfl, hg⟩
  have c0 : w1.cell? ⟨w.heap.size + 1, 0, none⟩ = some (.int .u8 0) := Grown.holds hg (by simp [go_sem])
  have c1 : w1.cell? ⟨w.heap.size + 1, 1, none⟩ = some (.int .u8 0) := Grown.holds hg (by simp [go_sem])
  have c2 : w1.cell? ⟨w.heap.size + 1, 2, none⟩ = some (.bool false) := Grown.holds hg (by simp [go_sem])
  have c3 : w1.cell? ⟨w.heap.size + 1, 3, none⟩ = some (.bool false) := Grown.holds hg (by simp [go_sem])
  have f0 : ∀ i, w1.frozen? ⟨w.heap.size + 1, i, none⟩ = false := fun i => frozen_of hg (by simp [go_sem])
  go_wp2
  exact bodyPost_ret (v := .tuple #[.agg #[.int .u8 x, .int .u8 y, .bool a, .bool c], .bool true]) (by simp [results, Try.results25, go_sem, c0, c1, c2, c3]) rfl
    ⟨rfl, Grown.setCell (Grown.setCell (Grown.setCell (Grown.setCell (Grown.trans (Grown.alloc (Grown.alloc (Grown.refl _) _ _) _ _) hg) (by simp) _) (by simp) _) (by simp) _) (by simp) _⟩

set_option maxHeartbeats 1000000 in
theorem clo4_any (al ah bs x y : Int) (af cf a c : Bool) (w : World)
    (H : Hid (∀ w : World, Calls Try.prog 26 #[.agg #[.int .u8 al, .int .u8 ah, .bool af, .bool cf], .int .i8 (-6), .int .i8 (-1)] w fun e w' => e = .returned (.agg #[.int .u8 x, .int .u8 y, .bool a, .bool c]) ∧ Grown w w')) :
    Calls Try.prog 27 #[.agg #[.int .u8 al, .int .u8 ah, .bool af, .bool cf], .int .u8 bs] w fun e w' => e = .returned (.tuple #[.agg #[.int .u8 x, .int .u8 y, .bool a, .bool c], .bool true]) ∧ Grown w w' := by
  go_enter Try.func27, Try.ntmps27
  go_wp2_with fail
  refine (H.out _).mono ?_; rintro e w1 ⟨rfl, hg⟩
  have c0 : w1.cell? ⟨w.heap.size + 1, 0, none⟩ = some (.int .u8 0) := Grown.holds hg (by simp [go_sem])
  have c1 : w1.cell? ⟨w.heap.size + 1, 1, none⟩ = some (.int .u8 0) := Grown.holds hg (by simp [go_sem])
  have c2 : w1.cell? ⟨w.heap.size + 1, 2, none⟩ = some (.bool false) := Grown.holds hg (by simp [go_sem])
  have c3 : w1.cell? ⟨w.heap.size + 1, 3, none⟩ = some (.bool false) := Grown.holds hg (by simp [go_sem])
  have f0 : ∀ i, w1.frozen? ⟨w.heap.size + 1, i, none⟩ = false := fun i => frozen_of hg (by simp [go_sem])
  go_wp2
  exact bodyPost_ret (v := .tuple #[.agg #[.int .u8 x, .int .u8 y, .bool a, .bool c], .bool true]) (by simp [results, Try.results27, go_sem, c0, c1, c2, c3]) rfl
    ⟨rfl, Grown.setCell (Grown.setCell (Grown.setCell (Grown.setCell (Grown.trans (Grown.alloc (Grown.alloc (Grown.refl _) _ _) _ _) hg) (by simp) _) (by simp) _) (by simp) _) (by simp) _⟩
end Go.Proofs.Ytecfkgnffhiemab
