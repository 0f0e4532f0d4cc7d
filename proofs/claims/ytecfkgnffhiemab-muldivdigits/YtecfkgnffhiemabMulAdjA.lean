/- Contracts of muldiv.Adjust, one for each operation, leaning on the function that stands in the map: it returns what is named, and the world has at most new blocks. -/
import Derived.Test.YtecfkgnffhiemabMulMap
import Derived.Test.YtecfkgnffhiemabMulClo
namespace Go.Proofs.Ytecfkgnffhiemab
open Go.ChangeShapes Go.WideShapes Go.ChangeAt Go.RowKit
set_option linter.unusedVariables false

theorem has16 {f : Int} (f0 : 0 ≤ f) (f1 : f < 4294967296) : (bits .and .u32 f 16 != 0) = hasF f 16 := (and_pow f0 f1 4 (by decide)).trans (hasF_tb f0 4).symm
theorem has1 {f : Int} (f0 : 0 ≤ f) (f1 : f < 4294967296) : (bits .and .u32 f 1 != 0) = hasF f 1 := (and_pow f0 f1 0 (by decide)).trans (hasF_tb f0 0).symm

theorem at_map (w : World) (es : Array MapEntry) (n : Nat) : (w.alloc (.map es n)).heap[w.heap.size]? = some (.map es n) := (MapKept.heap_alloc w (.map es n)).1

/-- the flags behind an adjustment -/
def adF (x : Int) (a c : Bool) (f : Int) : Int := byF 128 x (setF (setF (setF f 16 a) 1 c) 2048 false)

theorem adj_none (op al ah b f : Int) (w : World) (ho : op < 0 ∨ 5 < op) :
    Calls Try.prog 6 #[.int .i64 op, .int .u32 al, .int .u32 ah, .int .u32 b, .int .u32 f] w fun e w' => e = .returned (.tuple #[.int .u32 0, .int .u32 0, .int .u32 0, .bool false, .int .i64 3]) ∧ Grown w w' := by
  have hl := look_none w.heap.size (w.alloc (.map adjEs 6)) (at_map w _ _) op ho
  go_enter Try.func6, Try.ntmps6
  go_wp2_with fail
  refine (adjustments_any _).mono ?_; rintro e w1 ⟨rfl, hw⟩; replace hw := hw.symm; subst hw
  go_wp2
  exact bodyPost_ret (v := .tuple #[.int .u32 0, .int .u32 0, .int .u32 0, .bool false, .int .i64 3]) (by simp [results, Try.results6, go_sem]) rfl
    ⟨rfl, Grown.allocMap (Grown.refl _) _ _⟩

theorem adj4_zero (al ah b f : Int) (w : World) (al0 : 0 ≤ al) (al1 : al < 4294967296) (ah0 : 0 ≤ ah) (ah1 : ah < 4294967296) (b0 : 0 ≤ b) (b1 : b < 4294967296) (f0 : 0 ≤ f) (f1 : f < 4294967296) (hb : b % 256 = 0) :
    Calls Try.prog 6 #[.int .i64 4, .int .u32 al, .int .u32 ah, .int .u32 b, .int .u32 f] w fun e w' => e = .returned (.tuple #[.int .u32 0, .int .u32 0, .int .u32 0, .bool false, .int .i64 0]) ∧ Grown w w' := by
  have h16 := has16 f0 f1
  have h1 := has1 f0 f1
  have hl := look_4 w.heap.size (w.alloc (.map adjEs 6)) (at_map w _ _)
  go_enter Try.func6, Try.ntmps6
  go_wp2_with fail
  refine (adjustments_any _).mono ?_; rintro e w1 ⟨rfl, hw⟩; replace hw := hw.symm; subst hw
  go_wp2_with fail
  refine (part_zero _ _ _ _ _).mono ?_; rintro e w1 ⟨rfl, hg⟩
  go_wp2
  exact bodyPost_ret (v := .tuple #[.int .u32 0, .int .u32 0, .int .u32 0, .bool false, .int .i64 0]) (by simp [results, Try.results6, go_sem]) rfl
    ⟨rfl, Grown.alloc (Grown.trans (Grown.alloc (Grown.allocMap (Grown.refl _) _ _) _ _) hg) _ _⟩

set_option maxHeartbeats 2000000 in
theorem adj0_of (al ah b f x y : Int) (a c : Bool) (w : World) (al0 : 0 ≤ al) (al1 : al < 4294967296) (ah0 : 0 ≤ ah) (ah1 : ah < 4294967296) (b0 : 0 ≤ b) (b1 : b < 4294967296) (f0 : 0 ≤ f) (f1 : f < 4294967296) (x0 : 0 ≤ x) (x1 : x < 256) (y0 : 0 ≤ y) (y1 : y < 256)
    (H : Hid (∀ w : World, Calls Try.prog 21 #[.agg #[.int .u8 (al % 256), .int .u8 (ah % 256), .bool (hasF f 16), .bool (hasF f 1)], .int .u8 (b % 256)] w fun e w' => e = .returned (.tuple #[.agg #[.int .u8 x, .int .u8 y, .bool a, .bool c], .bool true]) ∧ Grown w w')) :
    Calls Try.prog 6 #[.int .i64 0, .int .u32 al, .int .u32 ah, .int .u32 b, .int .u32 f] w fun e w' => e = .returned (.tuple #[.int .u32 x, .int .u32 y, .int .u32 (adF x a c f), .bool true, .int .i64 0]) ∧ Grown w w' := by
  have wx : IntKind.u32.wrap x = x := (by omega : x % 4294967296 = x)
  have wy : IntKind.u32.wrap y = y := (by omega : y % 4294967296 = y)
  have h16 := has16 f0 f1
  have h1 := has1 f0 f1
  have hl := look_0 w.heap.size (w.alloc (.map adjEs 6)) (at_map w _ _)
  have B1 : Hid _ := bd1 f0 f1 16 fl16 a
  have B2 : Hid _ := bd2 f0 f1 16 1 fl16 fl1 a c
  have B3 : Hid _ := bd3 f0 f1 16 1 2048 fl16 fl1 fl2048 a c false
  have HX : Hid (byF 128 (x % 256) (setF (setF (setF f 16 a) 1 c) 2048 false) = adF x a c f) := (by rw [Int.emod_eq_of_lt x0 x1]; rfl : byF 128 (x % 256) (setF (setF (setF f 16 a) 1 c) 2048 false) = adF x a c f)
  go_enter Try.func6, Try.ntmps6
  go_wp2_with fail
  refine (adjustments_any _).mono ?_; rintro e w1 ⟨rfl, hw⟩; replace hw := hw.symm; subst hw
  go_wp2_with fail
  refine (H.out _).mono ?_; rintro e w1 ⟨rfl, hg⟩
  go_wp2
  go_region_held3 (fun w' => w'.cell? ⟨w1.heap.size, 0, none⟩ = some (.int .u8 x) ∧ w'.cell? ⟨w1.heap.size, 1, none⟩ = some (.int .u8 y))
    (simp [go_sem])
    (fail)
  go_wp2_with fail
  refine (mdMark1_any f 4 a _ f0 f1 fl16).mono ?_; rintro e w2 ⟨rfl, hw⟩; replace hw := hw.symm; subst hw
  go_wp2_with fail
  refine (mdMark1_any _ 0 c _ B1.out.1 B1.out.2 fl1).mono ?_; rintro e w2 ⟨rfl, hw⟩; replace hw := hw.symm; subst hw
  go_wp2_with fail
  refine (mdMark1_any _ 11 false _ B2.out.1 B2.out.2 fl2048).mono ?_; rintro e w2 ⟨rfl, hw⟩; replace hw := hw.symm; subst hw
  go_wp2_with fail
  refine (Flags_ok sz1 _ _ _ x0 (Int.lt_of_lt_of_le x1 (by decide)) B3.out.1 B3.out.2).mono ?_; rintro e w5 ⟨rfl, hg5⟩
  go_wp2
  exact bodyPost_ret (v := .tuple #[.int .u32 x, .int .u32 y, .int .u32 (byF 128 (x % 256) (setF (setF (setF f 16 a) 1 c) 2048 false)), .bool true, .int .i64 0]) (by simp [results, Try.results6, go_sem]) rfl
    ⟨by rw [HX.out], Grown.trans (Grown.drew (Grown.alloc (Grown.trans (Grown.alloc (Grown.allocMap (Grown.refl _) _ _) _ _) hg) _ _)) hg5⟩

set_option maxHeartbeats 2000000 in
theorem adj1_of (al ah b f x y : Int) (a c : Bool) (w : World) (al0 : 0 ≤ al) (al1 : al < 4294967296) (ah0 : 0 ≤ ah) (ah1 : ah < 4294967296) (b0 : 0 ≤ b) (b1 : b < 4294967296) (f0 : 0 ≤ f) (f1 : f < 4294967296) (x0 : 0 ≤ x) (x1 : x < 256) (y0 : 0 ≤ y) (y1 : y < 256)
    (H : Hid (∀ w : World, Calls Try.prog 23 #[.agg #[.int .u8 (al % 256), .int .u8 (ah % 256), .bool (hasF f 16), .bool (hasF f 1)], .int .u8 (b % 256)] w fun e w' => e = .returned (.tuple #[.agg #[.int .u8 x, .int .u8 y, .bool a, .bool c], .bool true]) ∧ Grown w w')) :
    Calls Try.prog 6 #[.int .i64 1, .int .u32 al, .int .u32 ah, .int .u32 b, .int .u32 f] w fun e w' => e = .returned (.tuple #[.int .u32 x, .int .u32 y, .int .u32 (adF x a c f), .bool true, .int .i64 0]) ∧ Grown w w' := by
  have wx : IntKind.u32.wrap x = x := (by omega : x % 4294967296 = x)
  have wy : IntKind.u32.wrap y = y := (by omega : y % 4294967296 = y)
  have h16 := has16 f0 f1
  have h1 := has1 f0 f1
  have hl := look_1 w.heap.size (w.alloc (.map adjEs 6)) (at_map w _ _)
  have B1 : Hid _ := bd1 f0 f1 16 fl16 a
  have B2 : Hid _ := bd2 f0 f1 16 1 fl16 fl1 a c
  have B3 : Hid _ := bd3 f0 f1 16 1 2048 fl16 fl1 fl2048 a c false
  have HX : Hid (byF 128 (x % 256) (setF (setF (setF f 16 a) 1 c) 2048 false) = adF x a c f) := (by rw [Int.emod_eq_of_lt x0 x1]; rfl : byF 128 (x % 256) (setF (setF (setF f 16 a) 1 c) 2048 false) = adF x a c f)
  go_enter Try.func6, Try.ntmps6
  go_wp2_with fail
  refine (adjustments_any _).mono ?_; rintro e w1 ⟨rfl, hw⟩; replace hw := hw.symm; subst hw
  go_wp2_with fail
  refine (H.out _).mono ?_; rintro e w1 ⟨rfl, hg⟩
  go_wp2
  go_region_held3 (fun w' => w'.cell? ⟨w1.heap.size, 0, none⟩ = some (.int .u8 x) ∧ w'.cell? ⟨w1.heap.size, 1, none⟩ = some (.int .u8 y))
    (simp [go_sem])
    (fail)
  go_wp2_with fail
  refine (mdMark1_any f 4 a _ f0 f1 fl16).mono ?_; rintro e w2 ⟨rfl, hw⟩; replace hw := hw.symm; subst hw
  go_wp2_with fail
  refine (mdMark1_any _ 0 c _ B1.out.1 B1.out.2 fl1).mono ?_; rintro e w2 ⟨rfl, hw⟩; replace hw := hw.symm; subst hw
  go_wp2_with fail
  refine (mdMark1_any _ 11 false _ B2.out.1 B2.out.2 fl2048).mono ?_; rintro e w2 ⟨rfl, hw⟩; replace hw := hw.symm; subst hw
  go_wp2_with fail
  refine (Flags_ok sz1 _ _ _ x0 (Int.lt_of_lt_of_le x1 (by decide)) B3.out.1 B3.out.2).mono ?_; rintro e w5 ⟨rfl, hg5⟩
  go_wp2
  exact bodyPost_ret (v := .tuple #[.int .u32 x, .int .u32 y, .int .u32 (byF 128 (x % 256) (setF (setF (setF f 16 a) 1 c) 2048 false)), .bool true, .int .i64 0]) (by simp [results, Try.results6, go_sem]) rfl
    ⟨by rw [HX.out], Grown.trans (Grown.drew (Grown.alloc (Grown.trans (Grown.alloc (Grown.allocMap (Grown.refl _) _ _) _ _) hg) _ _)) hg5⟩

set_option maxHeartbeats 2000000 in
theorem adj2_of (al ah b f x y : Int) (a c : Bool) (w : World) (al0 : 0 ≤ al) (al1 : al < 4294967296) (ah0 : 0 ≤ ah) (ah1 : ah < 4294967296) (b0 : 0 ≤ b) (b1 : b < 4294967296) (f0 : 0 ≤ f) (f1 : f < 4294967296) (x0 : 0 ≤ x) (x1 : x < 256) (y0 : 0 ≤ y) (y1 : y < 256)
    (H : Hid (∀ w : World, Calls Try.prog 25 #[.agg #[.int .u8 (al % 256), .int .u8 (ah % 256), .bool (hasF f 16), .bool (hasF f 1)], .int .u8 (b % 256)] w fun e w' => e = .returned (.tuple #[.agg #[.int .u8 x, .int .u8 y, .bool a, .bool c], .bool true]) ∧ Grown w w')) :
    Calls Try.prog 6 #[.int .i64 2, .int .u32 al, .int .u32 ah, .int .u32 b, .int .u32 f] w fun e w' => e = .returned (.tuple #[.int .u32 x, .int .u32 y, .int .u32 (adF x a c f), .bool true, .int .i64 0]) ∧ Grown w w' := by
  have wx : IntKind.u32.wrap x = x := (by omega : x % 4294967296 = x)
  have wy : IntKind.u32.wrap y = y := (by omega : y % 4294967296 = y)
  have h16 := has16 f0 f1
  have h1 := has1 f0 f1
  have hl := look_2 w.heap.size (w.alloc (.map adjEs 6)) (at_map w _ _)
  have B1 : Hid _ := bd1 f0 f1 16 fl16 a
  have B2 : Hid _ := bd2 f0 f1 16 1 fl16 fl1 a c
  have B3 : Hid _ := bd3 f0 f1 16 1 2048 fl16 fl1 fl2048 a c false
  have HX : Hid (byF 128 (x % 256) (setF (setF (setF f 16 a) 1 c) 2048 false) = adF x a c f) := (by rw [Int.emod_eq_of_lt x0 x1]; rfl : byF 128 (x % 256) (setF (setF (setF f 16 a) 1 c) 2048 false) = adF x a c f)
  go_enter Try.func6, Try.ntmps6
  go_wp2_with fail
  refine (adjustments_any _).mono ?_; rintro e w1 ⟨rfl, hw⟩; replace hw := hw.symm; subst hw
  go_wp2_with fail
  refine (H.out _).mono ?_; rintro e w1 ⟨rfl, hg⟩
  go_wp2
  go_region_held3 (fun w' => w'.cell? ⟨w1.heap.size, 0, none⟩ = some (.int .u8 x) ∧ w'.cell? ⟨w1.heap.size, 1, none⟩ = some (.int .u8 y))
    (simp [go_sem])
    (fail)
  go_wp2_with fail
  refine (mdMark1_any f 4 a _ f0 f1 fl16).mono ?_; rintro e w2 ⟨rfl, hw⟩; replace hw := hw.symm; subst hw
  go_wp2_with fail
  refine (mdMark1_any _ 0 c _ B1.out.1 B1.out.2 fl1).mono ?_; rintro e w2 ⟨rfl, hw⟩; replace hw := hw.symm; subst hw
  go_wp2_with fail
  refine (mdMark1_any _ 11 false _ B2.out.1 B2.out.2 fl2048).mono ?_; rintro e w2 ⟨rfl, hw⟩; replace hw := hw.symm; subst hw
  go_wp2_with fail
  refine (Flags_ok sz1 _ _ _ x0 (Int.lt_of_lt_of_le x1 (by decide)) B3.out.1 B3.out.2).mono ?_; rintro e w5 ⟨rfl, hg5⟩
  go_wp2
  exact bodyPost_ret (v := .tuple #[.int .u32 x, .int .u32 y, .int .u32 (byF 128 (x % 256) (setF (setF (setF f 16 a) 1 c) 2048 false)), .bool true, .int .i64 0]) (by simp [results, Try.results6, go_sem]) rfl
    ⟨by rw [HX.out], Grown.trans (Grown.drew (Grown.alloc (Grown.trans (Grown.alloc (Grown.allocMap (Grown.refl _) _ _) _ _) hg) _ _)) hg5⟩
end Go.Proofs.Ytecfkgnffhiemab
