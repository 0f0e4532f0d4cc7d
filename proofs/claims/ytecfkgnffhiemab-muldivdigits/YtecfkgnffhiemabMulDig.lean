/- Contracts of package muldiv's digits: for every input within their kinds they return what is named, and the world has the blocks that are named, or at most new ones. -/
import Derived.Test.YtecfkgnffhiemabMulHalf
namespace Go.Proofs.Ytecfkgnffhiemab
open Go.ChangeShapes Go.WideShapes Go.ChangeAt Go.RowKit
set_option linter.unusedVariables false

def dOff (al : Int) (af : Bool) : Bool := decide (9 < al % 16) || af
def dHi (al : Int) (cf : Bool) : Bool := decide (153 < al) || cf

theorem lowOff_any (al ah : Int) (af cf : Bool) (w : World) (a0 : 0 ≤ al) (a1 : al < 256) :
    Calls Try.prog 34 #[.agg #[.int .u8 al, .int .u8 ah, .bool af, .bool cf]] w fun e w' => e = .returned (.bool (dOff al af)) ∧ w' = w.alloc (.cells #[.int .u8 al, .int .u8 ah, .bool af, .bool cf] 41) := by
  have e15 : bits .and .u8 al 15 = al % 16 := u8_and15 al a0 a1
  unfold dOff
  by_cases h : 9 < al % 16
  · have g : decide (9 < al % 16) = true := by simp [h]
    rw [g]
    go_enter Try.func34, Try.ntmps34
    go_wp2
    go_ret
    exact ⟨rfl, rfl⟩
  · have g : decide (9 < al % 16) = false := by simp; omega
    rw [g]
    go_enter Try.func34, Try.ntmps34
    go_wp2
    go_ret
    exact ⟨rfl, rfl⟩

theorem highOff_any (al ah : Int) (af cf : Bool) (w : World) (a0 : 0 ≤ al) (a1 : al < 256) :
    Calls Try.prog 35 #[.agg #[.int .u8 al, .int .u8 ah, .bool af, .bool cf]] w fun e w' => e = .returned (.bool (dHi al cf)) ∧ w' = w.alloc (.cells #[.int .u8 al, .int .u8 ah, .bool af, .bool cf] 41) := by
  unfold dHi
  by_cases h : 153 < al
  · have g : decide (153 < al) = true := by simp [h]
    rw [g]
    go_enter Try.func35, Try.ntmps35
    go_wp2
    go_ret
    exact ⟨rfl, rfl⟩
  · have g : decide (153 < al) = false := by simp; omega
    rw [g]
    go_enter Try.func35, Try.ntmps35
    go_wp2
    go_ret
    exact ⟨rfl, rfl⟩

theorem join_any (al ah b : Int) (af cf : Bool) (w : World) (a0 : 0 ≤ al) (a1 : al < 256) (h0 : 0 ≤ ah) (h1 : ah < 256) (b0 : 0 ≤ b) (b1 : b < 256) :
    Calls Try.prog 29 #[.agg #[.int .u8 al, .int .u8 ah, .bool af, .bool cf], .int .u8 b] w fun e w' => e = .returned (.tuple #[.agg #[.int .u8 ((al + ah * b) % 256), .int .u8 0, .bool false, .bool false], .bool true]) ∧ Grown w w' := by
  go_enter Try.func29, Try.ntmps29
  go_wp2
  exact bodyPost_ret (v := .tuple #[.agg #[.int .u8 ((al + ah * b) % 256), .int .u8 0, .bool false, .bool false], .bool true]) (by simp [results, Try.results29, go_sem]) rfl ⟨rfl, by repeat (first | exact Grown.refl _ | apply Grown.drew | apply Grown.alloc)⟩

theorem part_zero (al ah : Int) (af cf : Bool) (w : World) :
    Calls Try.prog 28 #[.agg #[.int .u8 al, .int .u8 ah, .bool af, .bool cf], .int .u8 0] w fun e w' => e = .returned (.tuple #[.agg #[.int .u8 0, .int .u8 0, .bool false, .bool false], .bool false]) ∧ Grown w w' := by
  go_enter Try.func28, Try.ntmps28
  go_wp2
  exact bodyPost_ret (v := .tuple #[.agg #[.int .u8 0, .int .u8 0, .bool false, .bool false], .bool false]) (by simp [results, Try.results28, go_sem]) rfl ⟨rfl, by repeat (first | exact Grown.refl _ | apply Grown.drew | apply Grown.alloc)⟩

theorem lowOff_is {al : Int} {af : Bool} (o : Bool) (ho : dOff al af = o) (ah : Int) (cf : Bool) (w : World) (a0 : 0 ≤ al) (a1 : al < 256) :
    Calls Try.prog 34 #[.agg #[.int .u8 al, .int .u8 ah, .bool af, .bool cf]] w fun e w' => e = .returned (.bool o) ∧ w' = w.alloc (.cells #[.int .u8 al, .int .u8 ah, .bool af, .bool cf] 41) := by
  rw [← ho]; exact lowOff_any al ah af cf w a0 a1

theorem highOff_is {al : Int} {cf : Bool} (o : Bool) (ho : dHi al cf = o) (ah : Int) (af : Bool) (w : World) (a0 : 0 ≤ al) (a1 : al < 256) :
    Calls Try.prog 35 #[.agg #[.int .u8 al, .int .u8 ah, .bool af, .bool cf]] w fun e w' => e = .returned (.bool o) ∧ w' = w.alloc (.cells #[.int .u8 al, .int .u8 ah, .bool af, .bool cf] 41) := by
  rw [← ho]; exact highOff_any al ah af cf w a0 a1
end Go.Proofs.Ytecfkgnffhiemab
