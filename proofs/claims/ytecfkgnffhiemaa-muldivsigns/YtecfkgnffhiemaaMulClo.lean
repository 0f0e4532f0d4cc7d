/- Contracts of the functions in muldiv's map of adjustments: for every input within their kinds they return what is named, and the world has at most new blocks. -/
import Derived.Test.YtecfkgnffhiemaaMulDig
import Derived.Test.YtecfkgnffhiemaaMulMul
namespace Go.Proofs.Ytecfkgnffhiemaa
open Go.ChangeShapes Go.WideShapes Go.ChangeAt Go.RowKit
set_option linter.unusedVariables false

theorem frozen_of {W w' : World} (h : Grown W w') {p : Addr} (hf : W.frozen? p = false) : w'.frozen? p = false := (h.2.1 p).trans hf

set_option maxHeartbeats 1000000 in
theorem clo1_any (al ah bs x y : Int) (af cf a c : Bool) (w : World)
    (H : Hid (∀ w : World, Calls Try.prog 44 #[.agg #[.int .u8 al, .int .u8 ah, .bool af, .bool cf]] w fun e w' => e = .returned (.agg #[.int .u8 x, .int .u8 y, .bool a, .bool c]) ∧ Grown w w')) :
    Calls Try.prog 43 #[.agg #[.int .u8 al, .int .u8 ah, .bool af, .bool cf], .int .u8 bs] w fun e w' => e = .returned (.tuple #[.agg #[.int .u8 x, .int .u8 y, .bool a, .bool c], .bool true]) ∧ Grown w w' := by
  go_enter Try.func43, Try.ntmps43
  go_wp2_with fail
  refine (H.out _).mono ?_; rintro e w1 ⟨rfl, hg⟩
  have c0 : w1.cell? ⟨w.heap.size + 1, 0, none⟩ = some (.int .u8 0) := Grown.holds hg (by simp [go_sem])
  have c1 : w1.cell? ⟨w.heap.size + 1, 1, none⟩ = some (.int .u8 0) := Grown.holds hg (by simp [go_sem])
  have c2 : w1.cell? ⟨w.heap.size + 1, 2, none⟩ = some (.bool false) := Grown.holds hg (by simp [go_sem])
  have c3 : w1.cell? ⟨w.heap.size + 1, 3, none⟩ = some (.bool false) := Grown.holds hg (by simp [go_sem])
  have f0 : ∀ i, w1.frozen? ⟨w.heap.size + 1, i, none⟩ = false := fun i => frozen_of hg (by simp [go_sem])
  go_wp2
  exact bodyPost_ret (v := .tuple #[.agg #[.int .u8 x, .int .u8 y, .bool a, .bool c], .bool true]) (by simp [results, Try.results43, go_sem, c0, c1, c2, c3]) rfl
    ⟨rfl, Grown.setCell (Grown.setCell (Grown.setCell (Grown.setCell (Grown.trans (Grown.alloc (Grown.alloc (Grown.refl _) _ _) _ _) hg) (by simp) _) (by simp) _) (by simp) _) (by simp) _⟩

set_option maxHeartbeats 1000000 in
theorem clo2_any (al ah bs x y : Int) (af cf a c : Bool) (w : World)
    (H : Hid (∀ w : World, Calls Try.prog 46 #[.agg #[.int .u8 al, .int .u8 ah, .bool af, .bool cf]] w fun e w' => e = .returned (.agg #[.int .u8 x, .int .u8 y, .bool a, .bool c]) ∧ Grown w w')) :
    Calls Try.prog 45 #[.agg #[.int .u8 al, .int .u8 ah, .bool af, .bool cf], .int .u8 bs] w fun e w' => e = .returned (.tuple #[.agg #[.int .u8 x, .int .u8 y, .bool a, .bool c], .bool true]) ∧ Grown w w' := by
  go_enter Try.func45, Try.ntmps45
  go_wp2_with fail
  refine (H.out _).mono ?_; rintro e w1 ⟨rfl, hg⟩
  have c0 : w1.cell? ⟨w.heap.size + 1, 0, none⟩ = some (.int .u8 0) := Grown.holds hg (by simp [go_sem])
  have c1 : w1.cell? ⟨w.heap.size + 1, 1, none⟩ = some (.int .u8 0) := Grown.holds hg (by simp [go_sem])
  have c2 : w1.cell? ⟨w.heap.size + 1, 2, none⟩ = some (.bool false) := Grown.holds hg (by simp [go_sem])
  have c3 : w1.cell? ⟨w.heap.size + 1, 3, none⟩ = some (.bool false) := Grown.holds hg (by simp [go_sem])
  have f0 : ∀ i, w1.frozen? ⟨w.heap.size + 1, i, none⟩ = false := fun i => frozen_of hg (by simp [go_sem])
  go_wp2
  exact bodyPost_ret (v := .tuple #[.agg #[.int .u8 x, .int .u8 y, .bool a, .bool c], .bool true]) (by simp [results, Try.results45, go_sem, c0, c1, c2, c3]) rfl
    ⟨rfl, Grown.setCell (Grown.setCell (Grown.setCell (Grown.setCell (Grown.trans (Grown.alloc (Grown.alloc (Grown.refl _) _ _) _ _) hg) (by simp) _) (by simp) _) (by simp) _) (by simp) _⟩

set_option maxHeartbeats 1000000 in
theorem clo3_any (al ah bs x y : Int) (af cf a c : Bool) (w : World)
    (H : Hid (∀ w : World, Calls Try.prog 48 #[.agg #[.int .u8 al, .int .u8 ah, .bool af, .bool cf], .int .i8 6, .int .i8 1] w fun e w' => e = .returned (.agg #[.int .u8 x, .int .u8 y, .bool a, .bool c]) ∧ Grown w w')) :
    Calls Try.prog 47 #[.agg #[.int .u8 al, .int .u8 ah, .bool af, .bool cf], .int .u8 bs] w fun e w' => e = .returned (.tuple #[.agg #[.int .u8 x, .int .u8 y, .bool a, .bool c], .bool true]) ∧ Grown w w' := by
  go_enter Try.func47, Try.ntmps47
  go_wp2_with fail
  refine (H.out _).mono ?_; rintro e w1 ⟨rfl, hg⟩
  have c0 : w1.cell? ⟨w.heap.size + 1, 0, none⟩ = some (.int .u8 0) := Grown.holds hg (by simp [go_sem])
  have c1 : w1.cell? ⟨w.heap.size + 1, 1, none⟩ = some (.int .u8 0) := Grown.holds hg (by simp [go_sem])
  have c2 : w1.cell? ⟨w.heap.size + 1, 2, none⟩ = some (.bool false) := Grown.holds hg (by simp [go_sem])
  have c3 : w1.cell? ⟨w.heap.size + 1, 3, none⟩ = some (.bool false) := Grown.holds hg (by simp [go_sem])
  have f0 : ∀ i, w1.frozen? ⟨w.heap.size + 1, i, none⟩ = false := fun i => frozen_of hg (by simp [go_sem])
  go_wp2
  exact bodyPost_ret (v := .tuple #[.agg #[.int .u8 x, .int .u8 y, .bool a, .bool c], .bool true]) (by simp [results, Try.results47, go_sem, c0, c1, c2, c3]) rfl
    ⟨rfl, Grown.setCell (Grown.setCell (Grown.setCell (Grown.setCell (Grown.trans (Grown.alloc (Grown.alloc (Grown.refl _) _ _) _ _) hg) (by simp) _) (by simp) _) (by simp) _) (by simp) _⟩

set_option maxHeartbeats 1000000 in
theorem clo4_any (al ah bs x y : Int) (af cf a c : Bool) (w : World)
    (H : Hid (∀ w : World, Calls Try.prog 48 #[.agg #[.int .u8 al, .int .u8 ah, .bool af, .bool cf], .int .i8 (-6), .int .i8 (-1)] w fun e w' => e = .returned (.agg #[.int .u8 x, .int .u8 y, .bool a, .bool c]) ∧ Grown w w')) :
    Calls Try.prog 49 #[.agg #[.int .u8 al, .int .u8 ah, .bool af, .bool cf], .int .u8 bs] w fun e w' => e = .returned (.tuple #[.agg #[.int .u8 x, .int .u8 y, .bool a, .bool c], .bool true]) ∧ Grown w w' := by
  go_enter Try.func49, Try.ntmps49
  go_wp2_with fail
  refine (H.out _).mono ?_; rintro e w1 ⟨rfl, hg⟩
  have c0 : w1.cell? ⟨w.heap.size + 1, 0, none⟩ = some (.int .u8 0) := Grown.holds hg (by simp [go_sem])
  have c1 : w1.cell? ⟨w.heap.size + 1, 1, none⟩ = some (.int .u8 0) := Grown.holds hg (by simp [go_sem])
  have c2 : w1.cell? ⟨w.heap.size + 1, 2, none⟩ = some (.bool false) := Grown.holds hg (by simp [go_sem])
  have c3 : w1.cell? ⟨w.heap.size + 1, 3, none⟩ = some (.bool false) := Grown.holds hg (by simp [go_sem])
  have f0 : ∀ i, w1.frozen? ⟨w.heap.size + 1, i, none⟩ = false := fun i => frozen_of hg (by simp [go_sem])
  go_wp2
  exact bodyPost_ret (v := .tuple #[.agg #[.int .u8 x, .int .u8 y, .bool a, .bool c], .bool true]) (by simp [results, Try.results49, go_sem, c0, c1, c2, c3]) rfl
    ⟨rfl, Grown.setCell (Grown.setCell (Grown.setCell (Grown.setCell (Grown.trans (Grown.alloc (Grown.alloc (Grown.refl _) _ _) _ _) hg) (by simp) _) (by simp) _) (by simp) _) (by simp) _⟩
end Go.Proofs.Ytecfkgnffhiemaa
