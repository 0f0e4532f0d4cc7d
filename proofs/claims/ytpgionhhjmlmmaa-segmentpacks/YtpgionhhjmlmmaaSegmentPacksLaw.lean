/- The walk of the statement SegmentPacks: it returns true for every input, and the world has at most new blocks. -/
import Derived.Test.YtpgionhhjmlmmaaSegRef
import Derived.Test.YtpgionhhjmlmmaaSegPackM
namespace Go.Proofs.Ytpgionhhjmlmmaa
open Go.ChangeShapes Go.WideShapes Go.ChangeAt Go.RowKit
set_option linter.unusedVariables false

theorem keepS {W w' : World} {B : Nat} {b l t : Int} {s : Bool} {d : Int} {p g : Bool} (hg : Grown W w') (h : W.cell? ⟨B, 0, none⟩ = some (.int .u32 b) ∧ W.cell? ⟨B, 1, none⟩ = some (.int .u32 l) ∧ W.cell? ⟨B, 2, none⟩ = some (.int .i64 t) ∧ W.cell? ⟨B, 3, none⟩ = some (.bool s) ∧ W.cell? ⟨B, 4, none⟩ = some (.int .i64 d) ∧ W.cell? ⟨B, 5, none⟩ = some (.bool p) ∧ W.cell? ⟨B, 6, none⟩ = some (.bool g)) : w'.cell? ⟨B, 0, none⟩ = some (.int .u32 b) ∧ w'.cell? ⟨B, 1, none⟩ = some (.int .u32 l) ∧ w'.cell? ⟨B, 2, none⟩ = some (.int .i64 t) ∧ w'.cell? ⟨B, 3, none⟩ = some (.bool s) ∧ w'.cell? ⟨B, 4, none⟩ = some (.int .i64 d) ∧ w'.cell? ⟨B, 5, none⟩ = some (.bool p) ∧ w'.cell? ⟨B, 6, none⟩ = some (.bool g) :=
  ⟨Grown.holds hg h.1, Grown.holds hg h.2.1, Grown.holds hg h.2.2.1, Grown.holds hg h.2.2.2.1, Grown.holds hg h.2.2.2.2.1, Grown.holds hg h.2.2.2.2.2.1, Grown.holds hg h.2.2.2.2.2.2⟩

set_option maxHeartbeats 2000000 in
theorem packs_no (b l t : Int) (s : Bool) (d : Int) (p g : Bool) (w : World) (HK : Hid (∀ w : World, Calls Try.prog 12 #[.agg #[.int .u32 b, .int .u32 l, .int .i64 t, .bool s, .int .i64 d, .bool p, .bool g]] w fun e w' => e = .returned (.tuple #[.int .u32 0, .int .u32 0, .int .i64 80]) ∧ Grown w w')) (HQ : Hid (∀ w : World, Calls Try.prog 13 #[.agg #[.int .u32 b, .int .u32 l, .int .i64 t, .bool s, .int .i64 d, .bool p, .bool g]] w fun e w' => e = .returned (.bool false) ∧ Grown w w')) :
    Calls Try.prog 5 #[.agg #[.int .u32 b, .int .u32 l, .int .i64 t, .bool s, .int .i64 d, .bool p, .bool g]] w fun e w' => e = .returned (.bool true) ∧ Grown w w' := by
  go_enter Try.func5, Try.ntmps5
  go_wp2_with fail
  refine (awake_ok _).mono ?_; rintro e w1 ⟨rfl, hg1⟩
  have c0_1 : w1.cell? ⟨w.heap.size, 0, none⟩ = some (.int .u32 b) := Grown.holds hg1 (by simp [go_sem])
  have c1_1 : w1.cell? ⟨w.heap.size, 1, none⟩ = some (.int .u32 l) := Grown.holds hg1 (by simp [go_sem])
  have c2_1 : w1.cell? ⟨w.heap.size, 2, none⟩ = some (.int .i64 t) := Grown.holds hg1 (by simp [go_sem])
  have c3_1 : w1.cell? ⟨w.heap.size, 3, none⟩ = some (.bool s) := Grown.holds hg1 (by simp [go_sem])
  have c4_1 : w1.cell? ⟨w.heap.size, 4, none⟩ = some (.int .i64 d) := Grown.holds hg1 (by simp [go_sem])
  have c5_1 : w1.cell? ⟨w.heap.size, 5, none⟩ = some (.bool p) := Grown.holds hg1 (by simp [go_sem])
  have c6_1 : w1.cell? ⟨w.heap.size, 6, none⟩ = some (.bool g) := Grown.holds hg1 (by simp [go_sem])
  go_wp2_with fail
  refine (HK.out _).mono ?_; rintro e w2 ⟨rfl, hg2⟩
  have c0_2 : w2.cell? ⟨w.heap.size, 0, none⟩ = some (.int .u32 b) := Grown.holds hg2 (c0_1)
  have c1_2 : w2.cell? ⟨w.heap.size, 1, none⟩ = some (.int .u32 l) := Grown.holds hg2 (c1_1)
  have c2_2 : w2.cell? ⟨w.heap.size, 2, none⟩ = some (.int .i64 t) := Grown.holds hg2 (c2_1)
  have c3_2 : w2.cell? ⟨w.heap.size, 3, none⟩ = some (.bool s) := Grown.holds hg2 (c3_1)
  have c4_2 : w2.cell? ⟨w.heap.size, 4, none⟩ = some (.int .i64 d) := Grown.holds hg2 (c4_1)
  have c5_2 : w2.cell? ⟨w.heap.size, 5, none⟩ = some (.bool p) := Grown.holds hg2 (c5_1)
  have c6_2 : w2.cell? ⟨w.heap.size, 6, none⟩ = some (.bool g) := Grown.holds hg2 (c6_1)
  clear c0_1 c1_1 c2_1 c3_1 c4_1 c5_1 c6_1
  go_wp2_with fail
  refine (HQ.out _).mono ?_; rintro e w3 ⟨rfl, hg3⟩
  have c0_3 : w3.cell? ⟨w.heap.size, 0, none⟩ = some (.int .u32 b) := Grown.holds hg3 (c0_2)
  have c1_3 : w3.cell? ⟨w.heap.size, 1, none⟩ = some (.int .u32 l) := Grown.holds hg3 (c1_2)
  have c2_3 : w3.cell? ⟨w.heap.size, 2, none⟩ = some (.int .i64 t) := Grown.holds hg3 (c2_2)
  have c3_3 : w3.cell? ⟨w.heap.size, 3, none⟩ = some (.bool s) := Grown.holds hg3 (c3_2)
  have c4_3 : w3.cell? ⟨w.heap.size, 4, none⟩ = some (.int .i64 d) := Grown.holds hg3 (c4_2)
  have c5_3 : w3.cell? ⟨w.heap.size, 5, none⟩ = some (.bool p) := Grown.holds hg3 (c5_2)
  have c6_3 : w3.cell? ⟨w.heap.size, 6, none⟩ = some (.bool g) := Grown.holds hg3 (c6_2)
  clear c0_2 c1_2 c2_2 c3_2 c4_2 c5_2 c6_2
  have hG : Grown w w3 := Grown.trans (Grown.trans (Grown.trans (Grown.alloc (Grown.refl _) _ _) hg1) hg2) hg3
  go_wp2
  go_ret
  exact ⟨rfl, hG⟩

set_option maxHeartbeats 4000000 in
theorem packs_yes (b l t : Int) (s : Bool) (d : Int) (p g : Bool) (w : World) (lo hi : Int) (h0 : 0 ≤ hi) (h1 : hi < 4294967296) (HK : Hid (∀ w : World, Calls Try.prog 12 #[.agg #[.int .u32 b, .int .u32 l, .int .i64 t, .bool s, .int .i64 d, .bool p, .bool g]] w fun e w' => e = .returned (.tuple #[.int .u32 lo, .int .u32 hi, .int .i64 0]) ∧ Grown w w')) (HQ : Hid (∀ w : World, Calls Try.prog 13 #[.agg #[.int .u32 b, .int .u32 l, .int .i64 t, .bool s, .int .i64 d, .bool p, .bool g]] w fun e w' => e = .returned (.bool true) ∧ Grown w w')) (H1 : Hid (∀ w : World, Calls Try.prog 10 #[.int .u32 lo, .int .u32 hi] w fun e w' => e = .returned (.agg #[.int .u32 b, .int .u32 l, .int .i64 t, .bool s, .int .i64 d, .bool p, .bool g]) ∧ Grown w w')) (H2 : Hid (∀ w : World, Calls Try.prog 11 #[.int .u32 lo, .int .u32 hi] w fun e w' => e = .returned (.agg #[.int .u32 b, .int .u32 l, .int .i64 t, .bool s, .int .i64 d, .bool p, .bool g]) ∧ Grown w w')) (q : Bool) (e21 : ((hi / 2097152).tmod 2 == 0) = true) (e23 : ((hi / 8388608).tmod 2 == 1) = q) (e24 : decide (1048575 < l) = q) :
    Calls Try.prog 5 #[.agg #[.int .u32 b, .int .u32 l, .int .i64 t, .bool s, .int .i64 d, .bool p, .bool g]] w fun e w' => e = .returned (.bool true) ∧ Grown w w' := by
  have hgd := guardD
  have heq := eqD b l t s d p g
  go_enter Try.func5, Try.ntmps5
  go_wp2_with fail
  refine (awake_ok _).mono ?_; rintro e w1 ⟨rfl, hg1⟩
  have c0_1 : w1.cell? ⟨w.heap.size, 0, none⟩ = some (.int .u32 b) := Grown.holds hg1 (by simp [go_sem])
  have c1_1 : w1.cell? ⟨w.heap.size, 1, none⟩ = some (.int .u32 l) := Grown.holds hg1 (by simp [go_sem])
  have c2_1 : w1.cell? ⟨w.heap.size, 2, none⟩ = some (.int .i64 t) := Grown.holds hg1 (by simp [go_sem])
  have c3_1 : w1.cell? ⟨w.heap.size, 3, none⟩ = some (.bool s) := Grown.holds hg1 (by simp [go_sem])
  have c4_1 : w1.cell? ⟨w.heap.size, 4, none⟩ = some (.int .i64 d) := Grown.holds hg1 (by simp [go_sem])
  have c5_1 : w1.cell? ⟨w.heap.size, 5, none⟩ = some (.bool p) := Grown.holds hg1 (by simp [go_sem])
  have c6_1 : w1.cell? ⟨w.heap.size, 6, none⟩ = some (.bool g) := Grown.holds hg1 (by simp [go_sem])
  go_wp2_with fail
  refine (HK.out _).mono ?_; rintro e w2 ⟨rfl, hg2⟩
  have c0_2 : w2.cell? ⟨w.heap.size, 0, none⟩ = some (.int .u32 b) := Grown.holds hg2 (c0_1)
  have c1_2 : w2.cell? ⟨w.heap.size, 1, none⟩ = some (.int .u32 l) := Grown.holds hg2 (c1_1)
  have c2_2 : w2.cell? ⟨w.heap.size, 2, none⟩ = some (.int .i64 t) := Grown.holds hg2 (c2_1)
  have c3_2 : w2.cell? ⟨w.heap.size, 3, none⟩ = some (.bool s) := Grown.holds hg2 (c3_1)
  have c4_2 : w2.cell? ⟨w.heap.size, 4, none⟩ = some (.int .i64 d) := Grown.holds hg2 (c4_1)
  have c5_2 : w2.cell? ⟨w.heap.size, 5, none⟩ = some (.bool p) := Grown.holds hg2 (c5_1)
  have c6_2 : w2.cell? ⟨w.heap.size, 6, none⟩ = some (.bool g) := Grown.holds hg2 (c6_1)
  clear c0_1 c1_1 c2_1 c3_1 c4_1 c5_1 c6_1
  go_wp2_with fail
  refine (HQ.out _).mono ?_; rintro e w3 ⟨rfl, hg3⟩
  have c0_3 : w3.cell? ⟨w.heap.size, 0, none⟩ = some (.int .u32 b) := Grown.holds hg3 (c0_2)
  have c1_3 : w3.cell? ⟨w.heap.size, 1, none⟩ = some (.int .u32 l) := Grown.holds hg3 (c1_2)
  have c2_3 : w3.cell? ⟨w.heap.size, 2, none⟩ = some (.int .i64 t) := Grown.holds hg3 (c2_2)
  have c3_3 : w3.cell? ⟨w.heap.size, 3, none⟩ = some (.bool s) := Grown.holds hg3 (c3_2)
  have c4_3 : w3.cell? ⟨w.heap.size, 4, none⟩ = some (.int .i64 d) := Grown.holds hg3 (c4_2)
  have c5_3 : w3.cell? ⟨w.heap.size, 5, none⟩ = some (.bool p) := Grown.holds hg3 (c5_2)
  have c6_3 : w3.cell? ⟨w.heap.size, 6, none⟩ = some (.bool g) := Grown.holds hg3 (c6_2)
  clear c0_2 c1_2 c2_2 c3_2 c4_2 c5_2 c6_2
  have hG : Grown w w3 := Grown.trans (Grown.trans (Grown.trans (Grown.alloc (Grown.refl _) _ _) hg1) hg2) hg3
  cases q
  all_goals
   go_wp2
   go_region_held3 (fun w' => w'.cell? ⟨w.heap.size, 0, none⟩ = some (.int .u32 b) ∧ w'.cell? ⟨w.heap.size, 1, none⟩ = some (.int .u32 l) ∧ w'.cell? ⟨w.heap.size, 2, none⟩ = some (.int .i64 t) ∧ w'.cell? ⟨w.heap.size, 3, none⟩ = some (.bool s) ∧ w'.cell? ⟨w.heap.size, 4, none⟩ = some (.int .i64 d) ∧ w'.cell? ⟨w.heap.size, 5, none⟩ = some (.bool p) ∧ w'.cell? ⟨w.heap.size, 6, none⟩ = some (.bool g))
     (first | (exact keepS (by assumption) (by assumption)) | (simp [go_sem, *]; done))
     (first | (go_at_call 10; refine (H1.out _).mono ?_; rintro e wx ⟨rfl, hgx⟩) | (go_at_call 11; refine (H2.out _).mono ?_; rintro e wx ⟨rfl, hgx⟩))
   go_wp2
   go_ret
   exact ⟨rfl, Grown.trans (Grown.trans (Grown.drew hG) (by assumption)) hgx⟩


theorem SegmentPacks_walk (b l t : Int) (s : Bool) (d : Int) (p g : Bool) (w : World) (b0 : 0 ≤ b) (b1 : b < 4294967296) (l0 : 0 ≤ l) (l1 : l < 4294967296) :
    Calls Try.prog 5 #[.agg #[.int .u32 b, .int .u32 l, .int .i64 t, .bool s, .int .i64 d, .bool p, .bool g]] w fun e w' => e = .returned (.bool true) ∧ Grown w w' := by
  have HQ : Hid (∀ w, _) := fun w => packed_any b l t s d p g w l0 l1
  cases ho : okP l t d with
  | false =>
    rw [ho] at HQ
    exact packs_no b l t s d p g w (fun w => pack_no b l t s d p g w b0 b1 l0 l1 ho) HQ
  | true =>
    rw [ho] at HQ
    have HK : Hid (∀ w, _) := fun w => pack_ok b l t s d p g w b0 b1 l0 l1 ho
    obtain ⟨lo, hlo⟩ : ∃ lo, lo = loP b (lmP l) := ⟨_, rfl⟩
    obtain ⟨hi, hhi⟩ : ∃ hi, hi = h3P (h2P (h1P b (lmP l)) t d) (!s) p g (pgs l) := ⟨_, rfl⟩
    rw [← hlo, ← hhi] at HK
    obtain ⟨⟨x0, x1, y0, y1⟩, k1, k2, k3, k4, k5, k6, k7, k21, k23⟩ := words_back s p g b0 b1 l0 l1 ho hlo hhi
    have H1 : Hid (∀ w, _) := fun w => parse_any lo hi w x0 x1 y0 y1
    have H2 : Hid (∀ w, _) := fun w => refParse_any lo hi w x0 x1 y0 y1
    rw [k1, k2, k3, k4, k5, k6, k7] at H1 H2
    have t21 : ((hi / 2097152).tmod 2 == 0) = true := by
      rw [Int.tmod_eq_emod_of_nonneg (Int.ediv_nonneg y0 (by decide)), k21]
      rfl
    have t23 : ((hi / 8388608).tmod 2 == 1) = pgs l := by
      rw [Int.tmod_eq_emod_of_nonneg (Int.ediv_nonneg y0 (by decide)), ← k23]
      unfold bitP
      by_cases h : hi / 8388608 % 2 = 1 <;> simp [h]
    exact packs_yes b l t s d p g w lo hi y0 y1 HK HQ H1 H2 (pgs l) t21 t23 rfl

end Go.Proofs.Ytpgionhhjmlmmaa
