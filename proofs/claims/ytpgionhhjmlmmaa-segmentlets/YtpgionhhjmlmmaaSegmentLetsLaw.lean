/- The walk of the statement SegmentLets: it returns true for every input, and the world has at most new blocks. -/
import Derived.Test.YtpgionhhjmlmmaaSegRefR
import Derived.Test.YtpgionhhjmlmmaaSegRefF
import Derived.Test.YtpgionhhjmlmmaaSegRefC
namespace Go.Proofs.Ytpgionhhjmlmmaa
open Go.ChangeShapes Go.WideShapes Go.ChangeAt Go.RowKit
set_option linter.unusedVariables false

set_option maxHeartbeats 2000000 in
theorem lets_core (b l t : Int) (s : Bool) (d : Int) (p g : Bool) (off size : Int) (wr : Bool) (n x c : Int) (A : Bool) (B C : Int) (w : World)
    (H1 : Hid (∀ w : World, Calls Try.prog 14 #[.agg #[.int .u32 b, .int .u32 l, .int .i64 t, .bool s, .int .i64 d, .bool p, .bool g], .int .u32 off, .int .i64 size, .bool wr] w fun e w' => e = .returned (.bool A) ∧ Grown w w'))
    (H2 : Hid (∀ w : World, Calls Try.prog 15 #[.int .i64 n, .int .u16 x, .agg #[.int .u32 b, .int .u32 l, .int .i64 t, .bool s, .int .i64 d, .bool p, .bool g], .int .i64 c] w fun e w' => e = .returned (.int .i64 B) ∧ Grown w w'))
    (H3 : Hid (∀ w : World, Calls Try.prog 16 #[.int .u16 x, .agg #[.int .u32 b, .int .u32 l, .int .i64 t, .bool s, .int .i64 d, .bool p, .bool g], .int .i64 c] w fun e w' => e = .returned (.int .i64 C) ∧ Grown w w'))
    (H4 : Hid (∀ w : World, Calls Try.prog 17 #[.agg #[.int .u32 b, .int .u32 l, .int .i64 t, .bool s, .int .i64 d, .bool p, .bool g], .int .u32 off, .int .i64 size, .bool wr] w fun e w' => e = .returned (.bool A) ∧ Grown w w'))
    (H5 : Hid (∀ w : World, Calls Try.prog 18 #[.int .i64 n, .int .u16 x, .agg #[.int .u32 b, .int .u32 l, .int .i64 t, .bool s, .int .i64 d, .bool p, .bool g], .int .i64 c] w fun e w' => e = .returned (.int .i64 B) ∧ Grown w w'))
    (H6 : Hid (∀ w : World, Calls Try.prog 19 #[.int .u16 x, .agg #[.int .u32 b, .int .u32 l, .int .i64 t, .bool s, .int .i64 d, .bool p, .bool g], .int .i64 c] w fun e w' => e = .returned (.int .i64 C) ∧ Grown w w')) :
    Calls Try.prog 6 #[.agg #[.int .u32 b, .int .u32 l, .int .i64 t, .bool s, .int .i64 d, .bool p, .bool g], .int .u32 off, .int .i64 size, .bool wr, .int .i64 n, .int .u16 x, .int .i64 c] w fun e w' => e = .returned (.bool true) ∧ Grown w w' := by
  go_enter Try.func6, Try.ntmps6
  go_wp2_with fail
  refine (awake_ok _).mono ?_; rintro e w1 ⟨rfl, hg1⟩
  have c0_1 : w1.cell? ⟨w.heap.size, 0, none⟩ = some (.int .u32 b) := Grown.holds hg1 (by simp [go_sem])
  have c1_1 : w1.cell? ⟨w.heap.size, 1, none⟩ = some (.int .u32 l) := Grown.holds hg1 (by simp [go_sem])
  have c2_1 : w1.cell? ⟨w.heap.size, 2, none⟩ = some (.int .i64 t) := Grown.holds hg1 (by simp [go_sem])
  have c3_1 : w1.cell? ⟨w.heap.size, 3, none⟩ = some (.bool s) := Grown.holds hg1 (by simp [go_sem])
  have c4_1 : w1.cell? ⟨w.heap.size, 4, none⟩ = some (.int .i64 d) := Grown.holds hg1 (by simp [go_sem])
  have c5_1 : w1.cell? ⟨w.heap.size, 5, none⟩ = some (.bool p) := Grown.holds hg1 (by simp [go_sem])
  have c6_1 : w1.cell? ⟨w.heap.size, 6, none⟩ = some (.bool g) := Grown.holds hg1 (by simp [go_sem])
  go_wp2_with fail
  refine (H1.out _).mono ?_; rintro e w2 ⟨rfl, hg2⟩
  have c0_2 : w2.cell? ⟨w.heap.size, 0, none⟩ = some (.int .u32 b) := Grown.holds hg2 (c0_1)
  have c1_2 : w2.cell? ⟨w.heap.size, 1, none⟩ = some (.int .u32 l) := Grown.holds hg2 (c1_1)
  have c2_2 : w2.cell? ⟨w.heap.size, 2, none⟩ = some (.int .i64 t) := Grown.holds hg2 (c2_1)
  have c3_2 : w2.cell? ⟨w.heap.size, 3, none⟩ = some (.bool s) := Grown.holds hg2 (c3_1)
  have c4_2 : w2.cell? ⟨w.heap.size, 4, none⟩ = some (.int .i64 d) := Grown.holds hg2 (c4_1)
  have c5_2 : w2.cell? ⟨w.heap.size, 5, none⟩ = some (.bool p) := Grown.holds hg2 (c5_1)
  have c6_2 : w2.cell? ⟨w.heap.size, 6, none⟩ = some (.bool g) := Grown.holds hg2 (c6_1)
  clear c0_1 c1_1 c2_1 c3_1 c4_1 c5_1 c6_1
  go_wp2_with fail
  refine (H2.out _).mono ?_; rintro e w3 ⟨rfl, hg3⟩
  have c0_3 : w3.cell? ⟨w.heap.size, 0, none⟩ = some (.int .u32 b) := Grown.holds hg3 (c0_2)
  have c1_3 : w3.cell? ⟨w.heap.size, 1, none⟩ = some (.int .u32 l) := Grown.holds hg3 (c1_2)
  have c2_3 : w3.cell? ⟨w.heap.size, 2, none⟩ = some (.int .i64 t) := Grown.holds hg3 (c2_2)
  have c3_3 : w3.cell? ⟨w.heap.size, 3, none⟩ = some (.bool s) := Grown.holds hg3 (c3_2)
  have c4_3 : w3.cell? ⟨w.heap.size, 4, none⟩ = some (.int .i64 d) := Grown.holds hg3 (c4_2)
  have c5_3 : w3.cell? ⟨w.heap.size, 5, none⟩ = some (.bool p) := Grown.holds hg3 (c5_2)
  have c6_3 : w3.cell? ⟨w.heap.size, 6, none⟩ = some (.bool g) := Grown.holds hg3 (c6_2)
  clear c0_2 c1_2 c2_2 c3_2 c4_2 c5_2 c6_2
  go_wp2_with fail
  refine (H3.out _).mono ?_; rintro e w4 ⟨rfl, hg4⟩
  have c0_4 : w4.cell? ⟨w.heap.size, 0, none⟩ = some (.int .u32 b) := Grown.holds hg4 (c0_3)
  have c1_4 : w4.cell? ⟨w.heap.size, 1, none⟩ = some (.int .u32 l) := Grown.holds hg4 (c1_3)
  have c2_4 : w4.cell? ⟨w.heap.size, 2, none⟩ = some (.int .i64 t) := Grown.holds hg4 (c2_3)
  have c3_4 : w4.cell? ⟨w.heap.size, 3, none⟩ = some (.bool s) := Grown.holds hg4 (c3_3)
  have c4_4 : w4.cell? ⟨w.heap.size, 4, none⟩ = some (.int .i64 d) := Grown.holds hg4 (c4_3)
  have c5_4 : w4.cell? ⟨w.heap.size, 5, none⟩ = some (.bool p) := Grown.holds hg4 (c5_3)
  have c6_4 : w4.cell? ⟨w.heap.size, 6, none⟩ = some (.bool g) := Grown.holds hg4 (c6_3)
  clear c0_3 c1_3 c2_3 c3_3 c4_3 c5_3 c6_3
  go_wp2_with fail
  refine (H4.out _).mono ?_; rintro e w5 ⟨rfl, hg5⟩
  have c0_5 : w5.cell? ⟨w.heap.size, 0, none⟩ = some (.int .u32 b) := Grown.holds hg5 (c0_4)
  have c1_5 : w5.cell? ⟨w.heap.size, 1, none⟩ = some (.int .u32 l) := Grown.holds hg5 (c1_4)
  have c2_5 : w5.cell? ⟨w.heap.size, 2, none⟩ = some (.int .i64 t) := Grown.holds hg5 (c2_4)
  have c3_5 : w5.cell? ⟨w.heap.size, 3, none⟩ = some (.bool s) := Grown.holds hg5 (c3_4)
  have c4_5 : w5.cell? ⟨w.heap.size, 4, none⟩ = some (.int .i64 d) := Grown.holds hg5 (c4_4)
  have c5_5 : w5.cell? ⟨w.heap.size, 5, none⟩ = some (.bool p) := Grown.holds hg5 (c5_4)
  have c6_5 : w5.cell? ⟨w.heap.size, 6, none⟩ = some (.bool g) := Grown.holds hg5 (c6_4)
  clear c0_4 c1_4 c2_4 c3_4 c4_4 c5_4 c6_4
  go_wp2_with fail
  refine (H5.out _).mono ?_; rintro e w6 ⟨rfl, hg6⟩
  have c0_6 : w6.cell? ⟨w.heap.size, 0, none⟩ = some (.int .u32 b) := Grown.holds hg6 (c0_5)
  have c1_6 : w6.cell? ⟨w.heap.size, 1, none⟩ = some (.int .u32 l) := Grown.holds hg6 (c1_5)
  have c2_6 : w6.cell? ⟨w.heap.size, 2, none⟩ = some (.int .i64 t) := Grown.holds hg6 (c2_5)
  have c3_6 : w6.cell? ⟨w.heap.size, 3, none⟩ = some (.bool s) := Grown.holds hg6 (c3_5)
  have c4_6 : w6.cell? ⟨w.heap.size, 4, none⟩ = some (.int .i64 d) := Grown.holds hg6 (c4_5)
  have c5_6 : w6.cell? ⟨w.heap.size, 5, none⟩ = some (.bool p) := Grown.holds hg6 (c5_5)
  have c6_6 : w6.cell? ⟨w.heap.size, 6, none⟩ = some (.bool g) := Grown.holds hg6 (c6_5)
  clear c0_5 c1_5 c2_5 c3_5 c4_5 c5_5 c6_5
  go_wp2_with fail
  refine (H6.out _).mono ?_; rintro e w7 ⟨rfl, hg7⟩
  go_wp2
  go_ret
  exact ⟨rfl, Grown.trans (Grown.trans (Grown.trans (Grown.trans (Grown.trans (Grown.trans (Grown.trans (Grown.alloc (Grown.refl _) _ _) hg1) hg2) hg3) hg4) hg5) hg6) hg7⟩

theorem SegmentLets_walk (b l t : Int) (s : Bool) (d : Int) (p g : Bool) (off size : Int) (wr : Bool) (n x c : Int) (w : World) (t0 : -9223372036854775808 ≤ t) (t1 : t < 9223372036854775808) (o0 : 0 ≤ off) (o1 : off < 4294967296) (l0 : 0 ≤ l) (l1 : l < 4294967296) (x0 : 0 ≤ x) (x1 : x < 65536) :
    Calls Try.prog 6 #[.agg #[.int .u32 b, .int .u32 l, .int .i64 t, .bool s, .int .i64 d, .bool p, .bool g], .int .u32 off, .int .i64 size, .bool wr, .int .i64 n, .int .u16 x, .int .i64 c] w fun e w' => e = .returned (.bool true) ∧ Grown w w' :=
  lets_core b l t s d p g off size wr n x c _ _ _ w
    (fun w => reach_any b l t s d p g off size wr w t0 t1 o0 o1 l0 l1) (fun w => fit_any b l t s d p g n x c w t0 t1 x0 x1) (fun w => code_any b l t s d p g x c w t0 t1 x0 x1)
    (fun w => refReach_any b l t s d p g off size wr w t0 t1 o0 o1 l0 l1) (fun w => refFit_any b l t s d p g n x c w t0 t1 x0 x1) (fun w => refCode_any b l t s d p g x c w t0 t1 x0 x1)
end Go.Proofs.Ytpgionhhjmlmmaa
