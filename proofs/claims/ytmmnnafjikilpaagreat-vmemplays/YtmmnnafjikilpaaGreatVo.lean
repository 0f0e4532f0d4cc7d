/- Texts on vmem, joined: SegRef, SegRefR. -/
import Derived.Test.YtmmnnafjikilpaaGreatVb
/- Contracts of the document's own answers: has, Parse, code, data, second, third. -/
namespace Go.Proofs.YtmmnnafjikilpaaGreat.Sg
open Go.ChangeShapes Go.WideShapes Go.ChangeAt Go.RowKit
set_option linter.unusedVariables false

def twoT (t : Int) : Bool := (t.tdiv 2).tmod 2 == 1
def fourT (t : Int) : Bool := (t.tdiv 4).tmod 2 == 1

theorem twoT_eq {t : Int} (h : 0 ≤ t) : twoT t = two t := by
  unfold twoT two
  rw [Int.tdiv_eq_ediv_of_nonneg h, Int.tmod_eq_emod_of_nonneg (Int.ediv_nonneg h (by decide))]
  by_cases e : t / 2 % 2 = 1 <;> simp [e]
theorem fourT_eq {t : Int} (h : 0 ≤ t) : fourT t = four t := by
  unfold fourT four
  rw [Int.tdiv_eq_ediv_of_nonneg h, Int.tmod_eq_emod_of_nonneg (Int.ediv_nonneg h (by decide))]
  by_cases e : t / 4 % 2 = 1 <;> simp [e]


theorem ref_code (b l t : Int) (s : Bool) (d : Int) (p g : Bool) (w : World) : Calls Tryz.prog 87 #[.agg #[.int .u32 b, .int .u32 l, .int .i64 t, .bool s, .int .i64 d, .bool p, .bool g]] w fun e w' => e = .returned (.bool (isC s t)) ∧ Grown w w' := by
  go_enter Tryz.func87, Tryz.ntmps87
  go_wp2
  all_goals go_ret
  all_goals refine ⟨ret_bool ?_, Grown.alloc (Grown.refl _) _ _⟩
  all_goals cases s <;> first | (simp_all [isC]; done) | (simp_all [isC]; omega)


theorem ref_data (b l t : Int) (s : Bool) (d : Int) (p g : Bool) (w : World) : Calls Tryz.prog 89 #[.agg #[.int .u32 b, .int .u32 l, .int .i64 t, .bool s, .int .i64 d, .bool p, .bool g]] w fun e w' => e = .returned (.bool (isD s t)) ∧ Grown w w' := by
  go_enter Tryz.func89, Tryz.ntmps89
  go_wp2
  all_goals go_ret
  all_goals refine ⟨ret_bool ?_, Grown.alloc (Grown.refl _) _ _⟩
  all_goals cases s <;> first | (simp_all [isD]; done) | (simp_all [isD]; omega)


theorem ref_second (b l t : Int) (s : Bool) (d : Int) (p g : Bool) (w : World) (t0 : -9223372036854775808 ≤ t) (t1 : t < 9223372036854775808) : Calls Tryz.prog 88 #[.agg #[.int .u32 b, .int .u32 l, .int .i64 t, .bool s, .int .i64 d, .bool p, .bool g]] w fun e w' => e = .returned (.bool (twoT t)) ∧ Grown w w' := by
  go_enter Tryz.func88, Tryz.ntmps88
  go_wp2
  all_goals go_ret
  all_goals exact ⟨ret_bool (by simp [twoT]), Grown.alloc (Grown.refl _) _ _⟩


theorem ref_third (b l t : Int) (s : Bool) (d : Int) (p g : Bool) (w : World) (t0 : -9223372036854775808 ≤ t) (t1 : t < 9223372036854775808) : Calls Tryz.prog 90 #[.agg #[.int .u32 b, .int .u32 l, .int .i64 t, .bool s, .int .i64 d, .bool p, .bool g]] w fun e w' => e = .returned (.bool (fourT t)) ∧ Grown w w' := by
  go_enter Tryz.func90, Tryz.ntmps90
  go_wp2
  all_goals go_ret
  all_goals exact ⟨ret_bool (by simp [fourT]), Grown.alloc (Grown.refl _) _ _⟩

end Go.Proofs.YtmmnnafjikilpaaGreat.Sg

/- Contracts of the document's own answers: Reach. -/
namespace Go.Proofs.YtmmnnafjikilpaaGreat.Sg
open Go.ChangeShapes Go.WideShapes Go.ChangeAt Go.RowKit
set_option linter.unusedVariables false


set_option maxHeartbeats 1000000 in
theorem rr_0 (b l t : Int) (s : Bool) (d : Int) (p g : Bool) (off size : Int) (wr : Bool) (w : World) (hs : szB size = false) :
    Calls Tryz.prog 75 #[.agg #[.int .u32 b, .int .u32 l, .int .i64 t, .bool s, .int .i64 d, .bool p, .bool g], .int .u32 off, .int .i64 size, .bool wr] w fun e w' => e = .returned (.bool false) ∧ Grown w w' := by
  have n1 : (size != 1) = true := by simp [szB] at hs; simp [hs]
  have n2 : (size != 2) = true := by simp [szB] at hs; simp [hs]
  have n4 : (size != 4) = true := by simp [szB] at hs; simp [hs]
  have n8 : (size != 8) = true := by simp [szB] at hs; simp [hs]
  clear hs
  go_enter Tryz.func75, Tryz.ntmps75
  go_wp2
  go_ret
  exact ⟨rfl, Grown.alloc (Grown.refl _) _ _⟩

set_option maxHeartbeats 1000000 in
theorem rr_1 (b l t : Int) (s : Bool) (d : Int) (p g : Bool) (off size : Int) (wr : Bool) (w : World) (hs : size = 1 ∨ size = 2 ∨ size = 4 ∨ size = 8) (h : s = true ∨ p = false) :
    Calls Tryz.prog 75 #[.agg #[.int .u32 b, .int .u32 l, .int .i64 t, .bool s, .int .i64 d, .bool p, .bool g], .int .u32 off, .int .i64 size, .bool wr] w fun e w' => e = .returned (.bool false) ∧ Grown w w' := by
  rcases hs with rfl | rfl | rfl | rfl
  all_goals
    rcases h with rfl | rfl
    · go_enter Tryz.func75, Tryz.ntmps75
      go_wp2
      go_ret
      exact ⟨rfl, Grown.alloc (Grown.refl _) _ _⟩
    · cases s
      all_goals
        go_enter Tryz.func75, Tryz.ntmps75
        go_wp2
        go_ret
        exact ⟨rfl, Grown.alloc (Grown.refl _) _ _⟩


set_option maxHeartbeats 2000000 in
theorem rr_2_1 (b l t : Int) (d : Int) (g : Bool) (off : Int) (wr : Bool) (w : World) (c s2 dt dn : Bool) (o0 : 0 ≤ off) (o1 : off < 4294967296) (l0 : 0 ≤ l) (l1 : l < 4294967296) (hx : c = false ∨ dt = false)
    (H1 : Hid (∀ w : World, Calls Tryz.prog 87 #[.agg #[.int .u32 b, .int .u32 l, .int .i64 t, .bool false, .int .i64 d, .bool true, .bool g]] w fun e w' => e = .returned (.bool c) ∧ Grown w w')) (H2 : Hid (∀ w : World, Calls Tryz.prog 88 #[.agg #[.int .u32 b, .int .u32 l, .int .i64 t, .bool false, .int .i64 d, .bool true, .bool g]] w fun e w' => e = .returned (.bool s2) ∧ Grown w w')) (H3 : Hid (∀ w : World, Calls Tryz.prog 89 #[.agg #[.int .u32 b, .int .u32 l, .int .i64 t, .bool false, .int .i64 d, .bool true, .bool g]] w fun e w' => e = .returned (.bool dt) ∧ Grown w w')) (H4 : Hid (∀ w : World, Calls Tryz.prog 90 #[.agg #[.int .u32 b, .int .u32 l, .int .i64 t, .bool false, .int .i64 d, .bool true, .bool g]] w fun e w' => e = .returned (.bool dn) ∧ Grown w w')) :
    Calls Tryz.prog 75 #[.agg #[.int .u32 b, .int .u32 l, .int .i64 t, .bool false, .int .i64 d, .bool true, .bool g], .int .u32 off, .int .i64 1, .bool wr] w fun e w' => e = .returned (.bool (reachX wr (dt || c && s2) (dt && s2) true (dt && dn) g l off 1)) ∧ Grown w w' := by
  have hs : szB 1 = true := rfl
  go_enter Tryz.func75, Tryz.ntmps75
  go_wp2_with fail
  refine (H1.out _).mono ?_; rintro e w1 ⟨rfl, hg1⟩
  have c0_1 : w1.cell? ⟨w.heap.size, 0, none⟩ = some (.int .u32 b) := Grown.holds hg1 (by simp [go_sem])
  have c1_1 : w1.cell? ⟨w.heap.size, 1, none⟩ = some (.int .u32 l) := Grown.holds hg1 (by simp [go_sem])
  have c2_1 : w1.cell? ⟨w.heap.size, 2, none⟩ = some (.int .i64 t) := Grown.holds hg1 (by simp [go_sem])
  have c3_1 : w1.cell? ⟨w.heap.size, 3, none⟩ = some (.bool false) := Grown.holds hg1 (by simp [go_sem])
  have c4_1 : w1.cell? ⟨w.heap.size, 4, none⟩ = some (.int .i64 d) := Grown.holds hg1 (by simp [go_sem])
  have c5_1 : w1.cell? ⟨w.heap.size, 5, none⟩ = some (.bool true) := Grown.holds hg1 (by simp [go_sem])
  have c6_1 : w1.cell? ⟨w.heap.size, 6, none⟩ = some (.bool g) := Grown.holds hg1 (by simp [go_sem])
  go_wp2_with fail
  refine (H2.out _).mono ?_; rintro e w2 ⟨rfl, hg2⟩
  have c0_2 : w2.cell? ⟨w.heap.size, 0, none⟩ = some (.int .u32 b) := Grown.holds hg2 (c0_1)
  have c1_2 : w2.cell? ⟨w.heap.size, 1, none⟩ = some (.int .u32 l) := Grown.holds hg2 (c1_1)
  have c2_2 : w2.cell? ⟨w.heap.size, 2, none⟩ = some (.int .i64 t) := Grown.holds hg2 (c2_1)
  have c3_2 : w2.cell? ⟨w.heap.size, 3, none⟩ = some (.bool false) := Grown.holds hg2 (c3_1)
  have c4_2 : w2.cell? ⟨w.heap.size, 4, none⟩ = some (.int .i64 d) := Grown.holds hg2 (c4_1)
  have c5_2 : w2.cell? ⟨w.heap.size, 5, none⟩ = some (.bool true) := Grown.holds hg2 (c5_1)
  have c6_2 : w2.cell? ⟨w.heap.size, 6, none⟩ = some (.bool g) := Grown.holds hg2 (c6_1)
  go_wp2_with fail
  refine (H3.out _).mono ?_; rintro e w3 ⟨rfl, hg3⟩
  have c0_3 : w3.cell? ⟨w.heap.size, 0, none⟩ = some (.int .u32 b) := Grown.holds hg3 (c0_2)
  have c1_3 : w3.cell? ⟨w.heap.size, 1, none⟩ = some (.int .u32 l) := Grown.holds hg3 (c1_2)
  have c2_3 : w3.cell? ⟨w.heap.size, 2, none⟩ = some (.int .i64 t) := Grown.holds hg3 (c2_2)
  have c3_3 : w3.cell? ⟨w.heap.size, 3, none⟩ = some (.bool false) := Grown.holds hg3 (c3_2)
  have c4_3 : w3.cell? ⟨w.heap.size, 4, none⟩ = some (.int .i64 d) := Grown.holds hg3 (c4_2)
  have c5_3 : w3.cell? ⟨w.heap.size, 5, none⟩ = some (.bool true) := Grown.holds hg3 (c5_2)
  have c6_3 : w3.cell? ⟨w.heap.size, 6, none⟩ = some (.bool g) := Grown.holds hg3 (c6_2)
  clear c0_1 c1_1 c2_1 c3_1 c4_1 c5_1 c6_1 c0_2 c1_2 c2_2 c3_2 c4_2 c5_2 c6_2
  have hG : Grown w w3 := Grown.trans (Grown.trans (Grown.trans (Grown.alloc (Grown.refl _) _ _) hg1) hg2) hg3
  clear hg1 hg2 hg3
  cases c <;> cases dt <;> cases wr <;> cases s2
  all_goals first | (exfalso; simp at hx; done) | skip
  all_goals
    go_wp2_with (go_at_call 90; refine (H4.out _).mono ?_; rintro e w4 ⟨rfl, hg4⟩; have c1_4 := Grown.holds hg4 c1_3; have c6_4 := Grown.holds hg4 c6_3; cases dn)
    all_goals go_ret
    all_goals refine ⟨ret_bool ?_, ?_⟩
    all_goals first
      | exact hG
      | exact Grown.trans hG hg4
      | (simp [reachX, hs]; done)
      | (simp [reachX, hs]; omega)
      | (simp_all [reachX, topB]; done)
      | (simp_all [reachX, topB]; omega)


set_option maxHeartbeats 2000000 in
theorem rr_2_2 (b l t : Int) (d : Int) (g : Bool) (off : Int) (wr : Bool) (w : World) (c s2 dt dn : Bool) (o0 : 0 ≤ off) (o1 : off < 4294967296) (l0 : 0 ≤ l) (l1 : l < 4294967296) (hx : c = false ∨ dt = false)
    (H1 : Hid (∀ w : World, Calls Tryz.prog 87 #[.agg #[.int .u32 b, .int .u32 l, .int .i64 t, .bool false, .int .i64 d, .bool true, .bool g]] w fun e w' => e = .returned (.bool c) ∧ Grown w w')) (H2 : Hid (∀ w : World, Calls Tryz.prog 88 #[.agg #[.int .u32 b, .int .u32 l, .int .i64 t, .bool false, .int .i64 d, .bool true, .bool g]] w fun e w' => e = .returned (.bool s2) ∧ Grown w w')) (H3 : Hid (∀ w : World, Calls Tryz.prog 89 #[.agg #[.int .u32 b, .int .u32 l, .int .i64 t, .bool false, .int .i64 d, .bool true, .bool g]] w fun e w' => e = .returned (.bool dt) ∧ Grown w w')) (H4 : Hid (∀ w : World, Calls Tryz.prog 90 #[.agg #[.int .u32 b, .int .u32 l, .int .i64 t, .bool false, .int .i64 d, .bool true, .bool g]] w fun e w' => e = .returned (.bool dn) ∧ Grown w w')) :
    Calls Tryz.prog 75 #[.agg #[.int .u32 b, .int .u32 l, .int .i64 t, .bool false, .int .i64 d, .bool true, .bool g], .int .u32 off, .int .i64 2, .bool wr] w fun e w' => e = .returned (.bool (reachX wr (dt || c && s2) (dt && s2) true (dt && dn) g l off 2)) ∧ Grown w w' := by
  have hs : szB 2 = true := rfl
  go_enter Tryz.func75, Tryz.ntmps75
  go_wp2_with fail
  refine (H1.out _).mono ?_; rintro e w1 ⟨rfl, hg1⟩
  have c0_1 : w1.cell? ⟨w.heap.size, 0, none⟩ = some (.int .u32 b) := Grown.holds hg1 (by simp [go_sem])
  have c1_1 : w1.cell? ⟨w.heap.size, 1, none⟩ = some (.int .u32 l) := Grown.holds hg1 (by simp [go_sem])
  have c2_1 : w1.cell? ⟨w.heap.size, 2, none⟩ = some (.int .i64 t) := Grown.holds hg1 (by simp [go_sem])
  have c3_1 : w1.cell? ⟨w.heap.size, 3, none⟩ = some (.bool false) := Grown.holds hg1 (by simp [go_sem])
  have c4_1 : w1.cell? ⟨w.heap.size, 4, none⟩ = some (.int .i64 d) := Grown.holds hg1 (by simp [go_sem])
  have c5_1 : w1.cell? ⟨w.heap.size, 5, none⟩ = some (.bool true) := Grown.holds hg1 (by simp [go_sem])
  have c6_1 : w1.cell? ⟨w.heap.size, 6, none⟩ = some (.bool g) := Grown.holds hg1 (by simp [go_sem])
  go_wp2_with fail
  refine (H2.out _).mono ?_; rintro e w2 ⟨rfl, hg2⟩
  have c0_2 : w2.cell? ⟨w.heap.size, 0, none⟩ = some (.int .u32 b) := Grown.holds hg2 (c0_1)
  have c1_2 : w2.cell? ⟨w.heap.size, 1, none⟩ = some (.int .u32 l) := Grown.holds hg2 (c1_1)
  have c2_2 : w2.cell? ⟨w.heap.size, 2, none⟩ = some (.int .i64 t) := Grown.holds hg2 (c2_1)
  have c3_2 : w2.cell? ⟨w.heap.size, 3, none⟩ = some (.bool false) := Grown.holds hg2 (c3_1)
  have c4_2 : w2.cell? ⟨w.heap.size, 4, none⟩ = some (.int .i64 d) := Grown.holds hg2 (c4_1)
  have c5_2 : w2.cell? ⟨w.heap.size, 5, none⟩ = some (.bool true) := Grown.holds hg2 (c5_1)
  have c6_2 : w2.cell? ⟨w.heap.size, 6, none⟩ = some (.bool g) := Grown.holds hg2 (c6_1)
  go_wp2_with fail
  refine (H3.out _).mono ?_; rintro e w3 ⟨rfl, hg3⟩
  have c0_3 : w3.cell? ⟨w.heap.size, 0, none⟩ = some (.int .u32 b) := Grown.holds hg3 (c0_2)
  have c1_3 : w3.cell? ⟨w.heap.size, 1, none⟩ = some (.int .u32 l) := Grown.holds hg3 (c1_2)
  have c2_3 : w3.cell? ⟨w.heap.size, 2, none⟩ = some (.int .i64 t) := Grown.holds hg3 (c2_2)
  have c3_3 : w3.cell? ⟨w.heap.size, 3, none⟩ = some (.bool false) := Grown.holds hg3 (c3_2)
  have c4_3 : w3.cell? ⟨w.heap.size, 4, none⟩ = some (.int .i64 d) := Grown.holds hg3 (c4_2)
  have c5_3 : w3.cell? ⟨w.heap.size, 5, none⟩ = some (.bool true) := Grown.holds hg3 (c5_2)
  have c6_3 : w3.cell? ⟨w.heap.size, 6, none⟩ = some (.bool g) := Grown.holds hg3 (c6_2)
  clear c0_1 c1_1 c2_1 c3_1 c4_1 c5_1 c6_1 c0_2 c1_2 c2_2 c3_2 c4_2 c5_2 c6_2
  have hG : Grown w w3 := Grown.trans (Grown.trans (Grown.trans (Grown.alloc (Grown.refl _) _ _) hg1) hg2) hg3
  clear hg1 hg2 hg3
  cases c <;> cases dt <;> cases wr <;> cases s2
  all_goals first | (exfalso; simp at hx; done) | skip
  all_goals
    go_wp2_with (go_at_call 90; refine (H4.out _).mono ?_; rintro e w4 ⟨rfl, hg4⟩; have c1_4 := Grown.holds hg4 c1_3; have c6_4 := Grown.holds hg4 c6_3; cases dn)
    all_goals go_ret
    all_goals refine ⟨ret_bool ?_, ?_⟩
    all_goals first
      | exact hG
      | exact Grown.trans hG hg4
      | (simp [reachX, hs]; done)
      | (simp [reachX, hs]; omega)
      | (simp_all [reachX, topB]; done)
      | (simp_all [reachX, topB]; omega)


set_option maxHeartbeats 2000000 in
theorem rr_2_4 (b l t : Int) (d : Int) (g : Bool) (off : Int) (wr : Bool) (w : World) (c s2 dt dn : Bool) (o0 : 0 ≤ off) (o1 : off < 4294967296) (l0 : 0 ≤ l) (l1 : l < 4294967296) (hx : c = false ∨ dt = false)
    (H1 : Hid (∀ w : World, Calls Tryz.prog 87 #[.agg #[.int .u32 b, .int .u32 l, .int .i64 t, .bool false, .int .i64 d, .bool true, .bool g]] w fun e w' => e = .returned (.bool c) ∧ Grown w w')) (H2 : Hid (∀ w : World, Calls Tryz.prog 88 #[.agg #[.int .u32 b, .int .u32 l, .int .i64 t, .bool false, .int .i64 d, .bool true, .bool g]] w fun e w' => e = .returned (.bool s2) ∧ Grown w w')) (H3 : Hid (∀ w : World, Calls Tryz.prog 89 #[.agg #[.int .u32 b, .int .u32 l, .int .i64 t, .bool false, .int .i64 d, .bool true, .bool g]] w fun e w' => e = .returned (.bool dt) ∧ Grown w w')) (H4 : Hid (∀ w : World, Calls Tryz.prog 90 #[.agg #[.int .u32 b, .int .u32 l, .int .i64 t, .bool false, .int .i64 d, .bool true, .bool g]] w fun e w' => e = .returned (.bool dn) ∧ Grown w w')) :
    Calls Tryz.prog 75 #[.agg #[.int .u32 b, .int .u32 l, .int .i64 t, .bool false, .int .i64 d, .bool true, .bool g], .int .u32 off, .int .i64 4, .bool wr] w fun e w' => e = .returned (.bool (reachX wr (dt || c && s2) (dt && s2) true (dt && dn) g l off 4)) ∧ Grown w w' := by
  have hs : szB 4 = true := rfl
  go_enter Tryz.func75, Tryz.ntmps75
  go_wp2_with fail
  refine (H1.out _).mono ?_; rintro e w1 ⟨rfl, hg1⟩
  have c0_1 : w1.cell? ⟨w.heap.size, 0, none⟩ = some (.int .u32 b) := Grown.holds hg1 (by simp [go_sem])
  have c1_1 : w1.cell? ⟨w.heap.size, 1, none⟩ = some (.int .u32 l) := Grown.holds hg1 (by simp [go_sem])
  have c2_1 : w1.cell? ⟨w.heap.size, 2, none⟩ = some (.int .i64 t) := Grown.holds hg1 (by simp [go_sem])
  have c3_1 : w1.cell? ⟨w.heap.size, 3, none⟩ = some (.bool false) := Grown.holds hg1 (by simp [go_sem])
  have c4_1 : w1.cell? ⟨w.heap.size, 4, none⟩ = some (.int .i64 d) := Grown.holds hg1 (by simp [go_sem])
  have c5_1 : w1.cell? ⟨w.heap.size, 5, none⟩ = some (.bool true) := Grown.holds hg1 (by simp [go_sem])
  have c6_1 : w1.cell? ⟨w.heap.size, 6, none⟩ = some (.bool g) := Grown.holds hg1 (by simp [go_sem])
  go_wp2_with fail
  refine (H2.out _).mono ?_; rintro e w2 ⟨rfl, hg2⟩
  have c0_2 : w2.cell? ⟨w.heap.size, 0, none⟩ = some (.int .u32 b) := Grown.holds hg2 (c0_1)
  have c1_2 : w2.cell? ⟨w.heap.size, 1, none⟩ = some (.int .u32 l) := Grown.holds hg2 (c1_1)
  have c2_2 : w2.cell? ⟨w.heap.size, 2, none⟩ = some (.int .i64 t) := Grown.holds hg2 (c2_1)
  have c3_2 : w2.cell? ⟨w.heap.size, 3, none⟩ = some (.bool false) := Grown.holds hg2 (c3_1)
  have c4_2 : w2.cell? ⟨w.heap.size, 4, none⟩ = some (.int .i64 d) := Grown.holds hg2 (c4_1)
  have c5_2 : w2.cell? ⟨w.heap.size, 5, none⟩ = some (.bool true) := Grown.holds hg2 (c5_1)
  have c6_2 : w2.cell? ⟨w.heap.size, 6, none⟩ = some (.bool g) := Grown.holds hg2 (c6_1)
  go_wp2_with fail
  refine (H3.out _).mono ?_; rintro e w3 ⟨rfl, hg3⟩
  have c0_3 : w3.cell? ⟨w.heap.size, 0, none⟩ = some (.int .u32 b) := Grown.holds hg3 (c0_2)
  have c1_3 : w3.cell? ⟨w.heap.size, 1, none⟩ = some (.int .u32 l) := Grown.holds hg3 (c1_2)
  have c2_3 : w3.cell? ⟨w.heap.size, 2, none⟩ = some (.int .i64 t) := Grown.holds hg3 (c2_2)
  have c3_3 : w3.cell? ⟨w.heap.size, 3, none⟩ = some (.bool false) := Grown.holds hg3 (c3_2)
  have c4_3 : w3.cell? ⟨w.heap.size, 4, none⟩ = some (.int .i64 d) := Grown.holds hg3 (c4_2)
  have c5_3 : w3.cell? ⟨w.heap.size, 5, none⟩ = some (.bool true) := Grown.holds hg3 (c5_2)
  have c6_3 : w3.cell? ⟨w.heap.size, 6, none⟩ = some (.bool g) := Grown.holds hg3 (c6_2)
  clear c0_1 c1_1 c2_1 c3_1 c4_1 c5_1 c6_1 c0_2 c1_2 c2_2 c3_2 c4_2 c5_2 c6_2
  have hG : Grown w w3 := Grown.trans (Grown.trans (Grown.trans (Grown.alloc (Grown.refl _) _ _) hg1) hg2) hg3
  clear hg1 hg2 hg3
  cases c <;> cases dt <;> cases wr <;> cases s2
  all_goals first | (exfalso; simp at hx; done) | skip
  all_goals
    go_wp2_with (go_at_call 90; refine (H4.out _).mono ?_; rintro e w4 ⟨rfl, hg4⟩; have c1_4 := Grown.holds hg4 c1_3; have c6_4 := Grown.holds hg4 c6_3; cases dn)
    all_goals go_ret
    all_goals refine ⟨ret_bool ?_, ?_⟩
    all_goals first
      | exact hG
      | exact Grown.trans hG hg4
      | (simp [reachX, hs]; done)
      | (simp [reachX, hs]; omega)
      | (simp_all [reachX, topB]; done)
      | (simp_all [reachX, topB]; omega)


set_option maxHeartbeats 2000000 in
theorem rr_2_8 (b l t : Int) (d : Int) (g : Bool) (off : Int) (wr : Bool) (w : World) (c s2 dt dn : Bool) (o0 : 0 ≤ off) (o1 : off < 4294967296) (l0 : 0 ≤ l) (l1 : l < 4294967296) (hx : c = false ∨ dt = false)
    (H1 : Hid (∀ w : World, Calls Tryz.prog 87 #[.agg #[.int .u32 b, .int .u32 l, .int .i64 t, .bool false, .int .i64 d, .bool true, .bool g]] w fun e w' => e = .returned (.bool c) ∧ Grown w w')) (H2 : Hid (∀ w : World, Calls Tryz.prog 88 #[.agg #[.int .u32 b, .int .u32 l, .int .i64 t, .bool false, .int .i64 d, .bool true, .bool g]] w fun e w' => e = .returned (.bool s2) ∧ Grown w w')) (H3 : Hid (∀ w : World, Calls Tryz.prog 89 #[.agg #[.int .u32 b, .int .u32 l, .int .i64 t, .bool false, .int .i64 d, .bool true, .bool g]] w fun e w' => e = .returned (.bool dt) ∧ Grown w w')) (H4 : Hid (∀ w : World, Calls Tryz.prog 90 #[.agg #[.int .u32 b, .int .u32 l, .int .i64 t, .bool false, .int .i64 d, .bool true, .bool g]] w fun e w' => e = .returned (.bool dn) ∧ Grown w w')) :
    Calls Tryz.prog 75 #[.agg #[.int .u32 b, .int .u32 l, .int .i64 t, .bool false, .int .i64 d, .bool true, .bool g], .int .u32 off, .int .i64 8, .bool wr] w fun e w' => e = .returned (.bool (reachX wr (dt || c && s2) (dt && s2) true (dt && dn) g l off 8)) ∧ Grown w w' := by
  have hs : szB 8 = true := rfl
  go_enter Tryz.func75, Tryz.ntmps75
  go_wp2_with fail
  refine (H1.out _).mono ?_; rintro e w1 ⟨rfl, hg1⟩
  have c0_1 : w1.cell? ⟨w.heap.size, 0, none⟩ = some (.int .u32 b) := Grown.holds hg1 (by simp [go_sem])
  have c1_1 : w1.cell? ⟨w.heap.size, 1, none⟩ = some (.int .u32 l) := Grown.holds hg1 (by simp [go_sem])
  have c2_1 : w1.cell? ⟨w.heap.size, 2, none⟩ = some (.int .i64 t) := Grown.holds hg1 (by simp [go_sem])
  have c3_1 : w1.cell? ⟨w.heap.size, 3, none⟩ = some (.bool false) := Grown.holds hg1 (by simp [go_sem])
  have c4_1 : w1.cell? ⟨w.heap.size, 4, none⟩ = some (.int .i64 d) := Grown.holds hg1 (by simp [go_sem])
  have c5_1 : w1.cell? ⟨w.heap.size, 5, none⟩ = some (.bool true) := Grown.holds hg1 (by simp [go_sem])
  have c6_1 : w1.cell? ⟨w.heap.size, 6, none⟩ = some (.bool g) := Grown.holds hg1 (by simp [go_sem])
  go_wp2_with fail
  refine (H2.out _).mono ?_; rintro e w2 ⟨rfl, hg2⟩
  have c0_2 : w2.cell? ⟨w.heap.size, 0, none⟩ = some (.int .u32 b) := Grown.holds hg2 (c0_1)
  have c1_2 : w2.cell? ⟨w.heap.size, 1, none⟩ = some (.int .u32 l) := Grown.holds hg2 (c1_1)
  have c2_2 : w2.cell? ⟨w.heap.size, 2, none⟩ = some (.int .i64 t) := Grown.holds hg2 (c2_1)
  have c3_2 : w2.cell? ⟨w.heap.size, 3, none⟩ = some (.bool false) := Grown.holds hg2 (c3_1)
  have c4_2 : w2.cell? ⟨w.heap.size, 4, none⟩ = some (.int .i64 d) := Grown.holds hg2 (c4_1)
  have c5_2 : w2.cell? ⟨w.heap.size, 5, none⟩ = some (.bool true) := Grown.holds hg2 (c5_1)
  have c6_2 : w2.cell? ⟨w.heap.size, 6, none⟩ = some (.bool g) := Grown.holds hg2 (c6_1)
  go_wp2_with fail
  refine (H3.out _).mono ?_; rintro e w3 ⟨rfl, hg3⟩
  have c0_3 : w3.cell? ⟨w.heap.size, 0, none⟩ = some (.int .u32 b) := Grown.holds hg3 (c0_2)
  have c1_3 : w3.cell? ⟨w.heap.size, 1, none⟩ = some (.int .u32 l) := Grown.holds hg3 (c1_2)
  have c2_3 : w3.cell? ⟨w.heap.size, 2, none⟩ = some (.int .i64 t) := Grown.holds hg3 (c2_2)
  have c3_3 : w3.cell? ⟨w.heap.size, 3, none⟩ = some (.bool false) := Grown.holds hg3 (c3_2)
  have c4_3 : w3.cell? ⟨w.heap.size, 4, none⟩ = some (.int .i64 d) := Grown.holds hg3 (c4_2)
  have c5_3 : w3.cell? ⟨w.heap.size, 5, none⟩ = some (.bool true) := Grown.holds hg3 (c5_2)
  have c6_3 : w3.cell? ⟨w.heap.size, 6, none⟩ = some (.bool g) := Grown.holds hg3 (c6_2)
  clear c0_1 c1_1 c2_1 c3_1 c4_1 c5_1 c6_1 c0_2 c1_2 c2_2 c3_2 c4_2 c5_2 c6_2
  have hG : Grown w w3 := Grown.trans (Grown.trans (Grown.trans (Grown.alloc (Grown.refl _) _ _) hg1) hg2) hg3
  clear hg1 hg2 hg3
  cases c <;> cases dt <;> cases wr <;> cases s2
  all_goals first | (exfalso; simp at hx; done) | skip
  all_goals
    go_wp2_with (go_at_call 90; refine (H4.out _).mono ?_; rintro e w4 ⟨rfl, hg4⟩; have c1_4 := Grown.holds hg4 c1_3; have c6_4 := Grown.holds hg4 c6_3; cases dn)
    all_goals go_ret
    all_goals refine ⟨ret_bool ?_, ?_⟩
    all_goals first
      | exact hG
      | exact Grown.trans hG hg4
      | (simp [reachX, hs]; done)
      | (simp [reachX, hs]; omega)
      | (simp_all [reachX, topB]; done)
      | (simp_all [reachX, topB]; omega)


theorem isC_sys (t : Int) : isC true t = false := by simp [isC]
theorem isD_sys (t : Int) : isD true t = false := by simp [isD]
theorem isCD (s : Bool) (t : Int) : isC s t = false ∨ isD s t = false := by
  by_cases h : 8 ≤ t
  · right
    have : decide (t < 8) = false := by simp; omega
    simp [isD, this]
  · left
    simp [isC, h]
theorem c_two (s : Bool) (t : Int) : (isC s t && twoT t) = (isC s t && two t) := by
  cases h : isC s t
  · rfl
  · simp [isC] at h
    rw [twoT_eq (by omega)]
theorem d_two (s : Bool) (t : Int) : (isD s t && twoT t) = (isD s t && two t) := by
  cases h : isD s t
  · rfl
  · simp [isD] at h
    rw [twoT_eq (by omega)]
theorem d_four (s : Bool) (t : Int) : (isD s t && fourT t) = (isD s t && four t) := by
  cases h : isD s t
  · rfl
  · simp [isD] at h
    rw [fourT_eq (by omega)]

theorem refReach_any (b l t : Int) (s : Bool) (d : Int) (p g : Bool) (off size : Int) (wr : Bool) (w : World) (t0 : -9223372036854775808 ≤ t) (t1 : t < 9223372036854775808) (o0 : 0 ≤ off) (o1 : off < 4294967296) (l0 : 0 ≤ l) (l1 : l < 4294967296) :
    Calls Tryz.prog 75 #[.agg #[.int .u32 b, .int .u32 l, .int .i64 t, .bool s, .int .i64 d, .bool p, .bool g], .int .u32 off, .int .i64 size, .bool wr] w fun e w' => e = .returned (.bool (reachB l t s p g off size wr)) ∧ Grown w w' := by
  cases hs : szB size with
  | false =>
    rw [show reachB l t s p g off size wr = false by simp [reachB, reachX, hs]]
    exact rr_0 b l t s d p g off size wr w hs
  | true =>
    cases s with
    | true =>
      rw [show reachB l t true p g off size wr = false by simp [reachB, reachX, rW, rR, isD_sys, isC_sys]]
      exact rr_1 b l t true d p g off size wr w (szB_of hs) (Or.inl rfl)
    | false =>
      cases p with
      | false =>
        rw [show reachB l t false false g off size wr = false by simp [reachB, reachX]]
        exact rr_1 b l t false d false g off size wr w (szB_of hs) (Or.inr rfl)
      | true =>
        have H1 : Hid _ := fun w => ref_code b l t false d true g w
        have H2 : Hid _ := fun w => ref_second b l t false d true g w t0 t1
        have H3 : Hid _ := fun w => ref_data b l t false d true g w
        have H4 : Hid _ := fun w => ref_third b l t false d true g w t0 t1
        have e : reachB l t false true g off size wr = reachX wr (isD false t || isC false t && twoT t) (isD false t && twoT t) true (isD false t && fourT t) g l off size := by
          rw [c_two, d_two, d_four]
          rfl
        rw [e]
        rcases szB_of hs with rfl | rfl | rfl | rfl
        · exact rr_2_1 b l t d g off wr w _ _ _ _ o0 o1 l0 l1 (isCD _ _) H1 H2 H3 H4
        · exact rr_2_2 b l t d g off wr w _ _ _ _ o0 o1 l0 l1 (isCD _ _) H1 H2 H3 H4
        · exact rr_2_4 b l t d g off wr w _ _ _ _ o0 o1 l0 l1 (isCD _ _) H1 H2 H3 H4
        · exact rr_2_8 b l t d g off wr w _ _ _ _ o0 o1 l0 l1 (isCD _ _) H1 H2 H3 H4
end Go.Proofs.YtmmnnafjikilpaaGreat.Sg
