/- Texts on vmem, joined: PgRefFind, PgRefFindA, PgRefFindB. -/
import Derived.Test.YtmmnnafjikilpaaGreatVg
import Derived.Test.YtmmnnafjikilpaaGreatVc
/- The document's own walk: its letters, and the ways without a page. -/
namespace Go.Proofs.YtmmnnafjikilpaaGreat
open Go.ChangeShapes Go.WideShapes Go.ChangeAt Go.RowKit Go.Maps
set_option linter.unusedVariables false

/-- All that the walk takes, by letters. -/
structure FL (R : Rf) (M M1 M2 : Mem) (c l p q o t fr : Int) (h1 h2 o2 t2 o4 t4 : Bool) (wr : Bool) : Prop where
  c0 : 0 ≤ c
  c1 : c < 4294967296
  l0 : 0 ≤ l
  l1 : l < 4294967296
  p0 : 0 ≤ p
  p1 : p < 4294967296
  q0 : 0 ≤ q
  q1 : q < 4294967296
  o0 : 0 ≤ o
  o1 : o < 4294967296
  t0 : 0 ≤ t
  t1 : t < 4294967296
  ep : c - c % 4096 + l / 4194304 * 4 = p
  eq : o - o % 4096 + l / 4096 % 1024 * 4 = q
  ef : t - t % 4096 = fr
  rp : ∀ W, RefAt W R M → Calls Tryz.prog 91 #[.pointer (some ⟨R.r, 0, none⟩), .int .u32 p, .int .i64 4] W fun e w' => e = .returned (.tuple #[.int .u32 o, .int .i64 0]) ∧ Kp noB W w'
  rq : ∀ W, RefAt W R M → Calls Tryz.prog 91 #[.pointer (some ⟨R.r, 0, none⟩), .int .u32 q, .int .i64 4] W fun e w' => e = .returned (.tuple #[.int .u32 t, .int .i64 0]) ∧ Kp noB W w'
  ho : ∀ W, Calls Tryz.prog 92 #[.int .u32 o, .int .i64 0] W fun e w' => e = .returned (.bool h1) ∧ w' = W
  ht : ∀ W, Calls Tryz.prog 92 #[.int .u32 t, .int .i64 0] W fun e w' => e = .returned (.bool h2) ∧ w' = W
  ho1 : ∀ W, Calls Tryz.prog 92 #[.int .u32 o, .int .i64 1] W fun e w' => e = .returned (.bool o2) ∧ w' = W
  ht1 : ∀ W, Calls Tryz.prog 92 #[.int .u32 t, .int .i64 1] W fun e w' => e = .returned (.bool t2) ∧ w' = W
  ho2 : ∀ W, Calls Tryz.prog 92 #[.int .u32 o, .int .i64 2] W fun e w' => e = .returned (.bool o4) ∧ w' = W
  ht2 : ∀ W, Calls Tryz.prog 92 #[.int .u32 t, .int .i64 2] W fun e w' => e = .returned (.bool t4) ∧ w' = W
  mk1 : ∀ W Y, RefAt W R M → ¬ R.has Y → W.cell? ⟨Y, 0, none⟩ = some (.int .i64 5) → Calls Tryz.prog 93 #[.pointer (some ⟨R.r, 0, none⟩), .int .u32 p, .slice (some ⟨Y, 0, none⟩) 1 1] W fun e w' => e = .returned (.tuple #[]) ∧ RefAt w' R M1 ∧ Kp R.has W w'
  mk2r : wr = false → ∀ W Y, RefAt W R M1 → ¬ R.has Y → W.cell? ⟨Y, 0, none⟩ = some (.int .i64 5) → Calls Tryz.prog 93 #[.pointer (some ⟨R.r, 0, none⟩), .int .u32 q, .slice (some ⟨Y, 0, none⟩) 1 1] W fun e w' => e = .returned (.tuple #[]) ∧ RefAt w' R M2 ∧ Kp R.has W w'
  mk2w : wr = true → ∀ W Y, RefAt W R M1 → ¬ R.has Y → W.cell? ⟨Y, 0, none⟩ = some (.int .i64 5) → W.cell? ⟨Y, 1, none⟩ = some (.int .i64 6) → Calls Tryz.prog 93 #[.pointer (some ⟨R.r, 0, none⟩), .int .u32 q, .slice (some ⟨Y, 0, none⟩) 2 2] W fun e w' => e = .returned (.tuple #[]) ∧ RefAt w' R M2 ∧ Kp R.has W w'

set_option maxRecDepth 100000 in
set_option maxHeartbeats 2000000 in
theorem rfind_no1_ff (w : World) (R : Rf) (M M1 M2 : Mem) (c l p q o t fr : Int) (wp h2 o2 t2 o4 t4 : Bool) (h : RefAt w R M) (F : FL R M M1 M2 c l p q o t fr false h2 o2 t2 o4 t4 false) :
    Calls Tryz.prog 79 #[.pointer (some ⟨R.r, 0, none⟩), .int .u32 c, .int .u32 l, .agg #[.bool false, .bool false, .bool wp]] w fun e w' => e = .returned (.tuple #[.agg #[.int .u32 0, .int .u32 0, .int .u32 0, .bool false, .bool false], .int .i64 0]) ∧ RefAt w' R M ∧ Kp R.has w w' := by
  obtain ⟨c0, c1, l0, l1, p0, p1, q0, q1, o0, o1, t0, t1, ep, eq, ef, rp, rq, ho, ht, ho1, ht1, ho2, ht2, mk1, mk2r, mk2w⟩ := F
  clear mk1 mk2r mk2w ho1 ht1 ho2 ht2
  have HP : Hid _ := rp
  have HO : Hid _ := ho
  have HQ : Hid _ := rq
  have HT : Hid _ := ht
  clear rp rq ho ht
  have i0 : 0 ≤ l / 4194304 ∧ l / 4194304 < 1024 := by omega
  have cd : 0 ≤ c - c % 4096 ∧ c - c % 4096 ≤ 4294963200 := by omega
  have i1 : 0 ≤ l / 4096 % 1024 ∧ l / 4096 % 1024 < 1024 := by omega
  have od : 0 ≤ o - o % 4096 ∧ o - o % 4096 ≤ 4294963200 := by omega
  obtain ⟨X, hX⟩ : ∃ X, w.heap.size = X := ⟨_, rfl⟩
  have HX : Hid (w.heap.size = X) := hX
  have k0 : Kp noB w ((w.alloc (.cells #[.bool false, .bool false, .bool wp] 132)).alloc (.cells #[.int .u32 0, .int .u32 0, .int .u32 0, .bool false, .bool false] 145)) := (Kp.alloc _ _ _).trans (Kp.alloc _ _ _)
  have rB : RowB ((w.alloc (.cells #[.bool false, .bool false, .bool wp] 132)).alloc (.cells #[.int .u32 0, .int .u32 0, .int .u32 0, .bool false, .bool false] 145)) X false false wp := by
    have e0 := (MapKept.heap_alloc w (.cells #[.bool false, .bool false, .bool wp] 132)).1
    rw [hX] at e0
    exact (Below.heap_alloc _ _ _ (by simp; omega)).trans e0
  have rK : RowK ((w.alloc (.cells #[.bool false, .bool false, .bool wp] 132)).alloc (.cells #[.int .u32 0, .int .u32 0, .int .u32 0, .bool false, .bool false] 145)) (X + 1) 0 0 0 false false := by
    have e0 := (MapKept.heap_alloc (w.alloc (.cells #[.bool false, .bool false, .bool wp] 132)) (.cells #[.int .u32 0, .int .u32 0, .int .u32 0, .bool false, .bool false] 145)).1
    have e1 : (w.alloc (.cells #[.bool false, .bool false, .bool wp] 132)).heap.size = X + 1 := by simp [hX]
    rw [e1] at e0
    exact e0
  have hR : ∀ k, R.has k → k < X := fun k hk => by rw [← hX]; exact h.lt hk
  have h0 : RefAt ((w.alloc (.cells #[.bool false, .bool false, .bool wp] 132)).alloc (.cells #[.int .u32 0, .int .u32 0, .int .u32 0, .bool false, .bool false] 145)) R M := h.kp k0 (fun _ _ f => f)
  have nR : Hid (∀ k, R.has k → k < X) := hR
  clear hX h hR
  go_enter Tryz.func79, Tryz.ntmps79
  go_wp2_with fail
  refine (HP.out _ h0).mono ?_; rintro e w1 ⟨rfl, k1⟩
  replace rB := rB.kp k1 (fun f => f)
  replace rK := rK.kp k1 (fun f => f)
  replace h0 := h0.kp k1 (fun _ _ f => f)
  replace k0 := k0.trans k1
  clear k1
  rw [HX.out]
  go_wp2_with fail
  refine (HO.out _).mono ?_; rintro e w' ⟨rfl, hw⟩; replace hw := hw.symm; subst hw
  have d0 := rK.c0; have d1 := rK.c1; have d2 := rK.c2; have d3 := rK.c3; have d4 := rK.c4
  have f0 := rK.fz 0; have f1 := rK.fz 1; have f2 := rK.fz 2; have f3 := rK.fz 3; have f4 := rK.fz 4
  replace k0 := kp_no (S := R.has) k0
  go_wp2
  have z0 := rK.s0 0
  have z1 := z0.s1 0
  have z2 := z1.s2 0
  have z3 := z2.s3 false
  have z4 := z3.s4 false
  refine bodyPost_ret (v := .tuple #[.agg #[.int .u32 0, .int .u32 0, .int .u32 0, .bool false, .bool false], .int .i64 0]) ?_ rfl ⟨rfl, ?_, ?_⟩
  · simp [results, Tryz.results79, go_sem, z0.c0, z1.c1, z2.c2, z3.c3, z4.c4]
  · exact h0.kp (Kp.five_in _ (X + 1) _ _ _ _ _) (fun j hj e => by have := nR.out j hj; omega)
  · exact k0.five (by have := HX.out; omega) _ _ _ _ _

set_option maxRecDepth 100000 in
set_option maxHeartbeats 2000000 in
theorem rfind_no1_ft (w : World) (R : Rf) (M M1 M2 : Mem) (c l p q o t fr : Int) (wp h2 o2 t2 o4 t4 : Bool) (h : RefAt w R M) (F : FL R M M1 M2 c l p q o t fr false h2 o2 t2 o4 t4 false) :
    Calls Tryz.prog 79 #[.pointer (some ⟨R.r, 0, none⟩), .int .u32 c, .int .u32 l, .agg #[.bool false, .bool true, .bool wp]] w fun e w' => e = .returned (.tuple #[.agg #[.int .u32 0, .int .u32 0, .int .u32 0, .bool false, .bool false], .int .i64 4]) ∧ RefAt w' R M ∧ Kp R.has w w' := by
  obtain ⟨c0, c1, l0, l1, p0, p1, q0, q1, o0, o1, t0, t1, ep, eq, ef, rp, rq, ho, ht, ho1, ht1, ho2, ht2, mk1, mk2r, mk2w⟩ := F
  clear mk1 mk2r mk2w ho1 ht1 ho2 ht2
  have HP : Hid _ := rp
  have HO : Hid _ := ho
  have HQ : Hid _ := rq
  have HT : Hid _ := ht
  clear rp rq ho ht
  have i0 : 0 ≤ l / 4194304 ∧ l / 4194304 < 1024 := by omega
  have cd : 0 ≤ c - c % 4096 ∧ c - c % 4096 ≤ 4294963200 := by omega
  have i1 : 0 ≤ l / 4096 % 1024 ∧ l / 4096 % 1024 < 1024 := by omega
  have od : 0 ≤ o - o % 4096 ∧ o - o % 4096 ≤ 4294963200 := by omega
  obtain ⟨X, hX⟩ : ∃ X, w.heap.size = X := ⟨_, rfl⟩
  have HX : Hid (w.heap.size = X) := hX
  have k0 : Kp noB w ((w.alloc (.cells #[.bool false, .bool true, .bool wp] 132)).alloc (.cells #[.int .u32 0, .int .u32 0, .int .u32 0, .bool false, .bool false] 145)) := (Kp.alloc _ _ _).trans (Kp.alloc _ _ _)
  have rB : RowB ((w.alloc (.cells #[.bool false, .bool true, .bool wp] 132)).alloc (.cells #[.int .u32 0, .int .u32 0, .int .u32 0, .bool false, .bool false] 145)) X false true wp := by
    have e0 := (MapKept.heap_alloc w (.cells #[.bool false, .bool true, .bool wp] 132)).1
    rw [hX] at e0
    exact (Below.heap_alloc _ _ _ (by simp; omega)).trans e0
  have rK : RowK ((w.alloc (.cells #[.bool false, .bool true, .bool wp] 132)).alloc (.cells #[.int .u32 0, .int .u32 0, .int .u32 0, .bool false, .bool false] 145)) (X + 1) 0 0 0 false false := by
    have e0 := (MapKept.heap_alloc (w.alloc (.cells #[.bool false, .bool true, .bool wp] 132)) (.cells #[.int .u32 0, .int .u32 0, .int .u32 0, .bool false, .bool false] 145)).1
    have e1 : (w.alloc (.cells #[.bool false, .bool true, .bool wp] 132)).heap.size = X + 1 := by simp [hX]
    rw [e1] at e0
    exact e0
  have hR : ∀ k, R.has k → k < X := fun k hk => by rw [← hX]; exact h.lt hk
  have h0 : RefAt ((w.alloc (.cells #[.bool false, .bool true, .bool wp] 132)).alloc (.cells #[.int .u32 0, .int .u32 0, .int .u32 0, .bool false, .bool false] 145)) R M := h.kp k0 (fun _ _ f => f)
  have nR : Hid (∀ k, R.has k → k < X) := hR
  clear hX h hR
  go_enter Tryz.func79, Tryz.ntmps79
  go_wp2_with fail
  refine (HP.out _ h0).mono ?_; rintro e w1 ⟨rfl, k1⟩
  replace rB := rB.kp k1 (fun f => f)
  replace rK := rK.kp k1 (fun f => f)
  replace h0 := h0.kp k1 (fun _ _ f => f)
  replace k0 := k0.trans k1
  clear k1
  rw [HX.out]
  go_wp2_with fail
  refine (HO.out _).mono ?_; rintro e w' ⟨rfl, hw⟩; replace hw := hw.symm; subst hw
  have d0 := rK.c0; have d1 := rK.c1; have d2 := rK.c2; have d3 := rK.c3; have d4 := rK.c4
  have f0 := rK.fz 0; have f1 := rK.fz 1; have f2 := rK.fz 2; have f3 := rK.fz 3; have f4 := rK.fz 4
  replace k0 := kp_no (S := R.has) k0
  go_wp2
  have z0 := rK.s0 0
  have z1 := z0.s1 0
  have z2 := z1.s2 0
  have z3 := z2.s3 false
  have z4 := z3.s4 false
  refine bodyPost_ret (v := .tuple #[.agg #[.int .u32 0, .int .u32 0, .int .u32 0, .bool false, .bool false], .int .i64 4]) ?_ rfl ⟨rfl, ?_, ?_⟩
  · simp [results, Tryz.results79, go_sem, z0.c0, z1.c1, z2.c2, z3.c3, z4.c4]
  · exact h0.kp (Kp.five_in _ (X + 1) _ _ _ _ _) (fun j hj e => by have := nR.out j hj; omega)
  · exact k0.five (by have := HX.out; omega) _ _ _ _ _

set_option maxRecDepth 100000 in
set_option maxHeartbeats 2000000 in
theorem rfind_no1_tf (w : World) (R : Rf) (M M1 M2 : Mem) (c l p q o t fr : Int) (wp h2 o2 t2 o4 t4 : Bool) (h : RefAt w R M) (F : FL R M M1 M2 c l p q o t fr false h2 o2 t2 o4 t4 true) :
    Calls Tryz.prog 79 #[.pointer (some ⟨R.r, 0, none⟩), .int .u32 c, .int .u32 l, .agg #[.bool true, .bool false, .bool wp]] w fun e w' => e = .returned (.tuple #[.agg #[.int .u32 0, .int .u32 0, .int .u32 0, .bool false, .bool false], .int .i64 2]) ∧ RefAt w' R M ∧ Kp R.has w w' := by
  obtain ⟨c0, c1, l0, l1, p0, p1, q0, q1, o0, o1, t0, t1, ep, eq, ef, rp, rq, ho, ht, ho1, ht1, ho2, ht2, mk1, mk2r, mk2w⟩ := F
  clear mk1 mk2r mk2w ho1 ht1 ho2 ht2
  have HP : Hid _ := rp
  have HO : Hid _ := ho
  have HQ : Hid _ := rq
  have HT : Hid _ := ht
  clear rp rq ho ht
  have i0 : 0 ≤ l / 4194304 ∧ l / 4194304 < 1024 := by omega
  have cd : 0 ≤ c - c % 4096 ∧ c - c % 4096 ≤ 4294963200 := by omega
  have i1 : 0 ≤ l / 4096 % 1024 ∧ l / 4096 % 1024 < 1024 := by omega
  have od : 0 ≤ o - o % 4096 ∧ o - o % 4096 ≤ 4294963200 := by omega
  obtain ⟨X, hX⟩ : ∃ X, w.heap.size = X := ⟨_, rfl⟩
  have HX : Hid (w.heap.size = X) := hX
  have k0 : Kp noB w ((w.alloc (.cells #[.bool true, .bool false, .bool wp] 132)).alloc (.cells #[.int .u32 0, .int .u32 0, .int .u32 0, .bool false, .bool false] 145)) := (Kp.alloc _ _ _).trans (Kp.alloc _ _ _)
  have rB : RowB ((w.alloc (.cells #[.bool true, .bool false, .bool wp] 132)).alloc (.cells #[.int .u32 0, .int .u32 0, .int .u32 0, .bool false, .bool false] 145)) X true false wp := by
    have e0 := (MapKept.heap_alloc w (.cells #[.bool true, .bool false, .bool wp] 132)).1
    rw [hX] at e0
    exact (Below.heap_alloc _ _ _ (by simp; omega)).trans e0
  have rK : RowK ((w.alloc (.cells #[.bool true, .bool false, .bool wp] 132)).alloc (.cells #[.int .u32 0, .int .u32 0, .int .u32 0, .bool false, .bool false] 145)) (X + 1) 0 0 0 false false := by
    have e0 := (MapKept.heap_alloc (w.alloc (.cells #[.bool true, .bool false, .bool wp] 132)) (.cells #[.int .u32 0, .int .u32 0, .int .u32 0, .bool false, .bool false] 145)).1
    have e1 : (w.alloc (.cells #[.bool true, .bool false, .bool wp] 132)).heap.size = X + 1 := by simp [hX]
    rw [e1] at e0
    exact e0
  have hR : ∀ k, R.has k → k < X := fun k hk => by rw [← hX]; exact h.lt hk
  have h0 : RefAt ((w.alloc (.cells #[.bool true, .bool false, .bool wp] 132)).alloc (.cells #[.int .u32 0, .int .u32 0, .int .u32 0, .bool false, .bool false] 145)) R M := h.kp k0 (fun _ _ f => f)
  have nR : Hid (∀ k, R.has k → k < X) := hR
  clear hX h hR
  go_enter Tryz.func79, Tryz.ntmps79
  go_wp2_with fail
  refine (HP.out _ h0).mono ?_; rintro e w1 ⟨rfl, k1⟩
  replace rB := rB.kp k1 (fun f => f)
  replace rK := rK.kp k1 (fun f => f)
  replace h0 := h0.kp k1 (fun _ _ f => f)
  replace k0 := k0.trans k1
  clear k1
  rw [HX.out]
  go_wp2_with fail
  refine (HO.out _).mono ?_; rintro e w' ⟨rfl, hw⟩; replace hw := hw.symm; subst hw
  have d0 := rK.c0; have d1 := rK.c1; have d2 := rK.c2; have d3 := rK.c3; have d4 := rK.c4
  have f0 := rK.fz 0; have f1 := rK.fz 1; have f2 := rK.fz 2; have f3 := rK.fz 3; have f4 := rK.fz 4
  replace k0 := kp_no (S := R.has) k0
  go_wp2
  have z0 := rK.s0 0
  have z1 := z0.s1 0
  have z2 := z1.s2 0
  have z3 := z2.s3 false
  have z4 := z3.s4 false
  refine bodyPost_ret (v := .tuple #[.agg #[.int .u32 0, .int .u32 0, .int .u32 0, .bool false, .bool false], .int .i64 2]) ?_ rfl ⟨rfl, ?_, ?_⟩
  · simp [results, Tryz.results79, go_sem, z0.c0, z1.c1, z2.c2, z3.c3, z4.c4]
  · exact h0.kp (Kp.five_in _ (X + 1) _ _ _ _ _) (fun j hj e => by have := nR.out j hj; omega)
  · exact k0.five (by have := HX.out; omega) _ _ _ _ _

set_option maxRecDepth 100000 in
set_option maxHeartbeats 2000000 in
theorem rfind_no1_tt (w : World) (R : Rf) (M M1 M2 : Mem) (c l p q o t fr : Int) (wp h2 o2 t2 o4 t4 : Bool) (h : RefAt w R M) (F : FL R M M1 M2 c l p q o t fr false h2 o2 t2 o4 t4 true) :
    Calls Tryz.prog 79 #[.pointer (some ⟨R.r, 0, none⟩), .int .u32 c, .int .u32 l, .agg #[.bool true, .bool true, .bool wp]] w fun e w' => e = .returned (.tuple #[.agg #[.int .u32 0, .int .u32 0, .int .u32 0, .bool false, .bool false], .int .i64 6]) ∧ RefAt w' R M ∧ Kp R.has w w' := by
  obtain ⟨c0, c1, l0, l1, p0, p1, q0, q1, o0, o1, t0, t1, ep, eq, ef, rp, rq, ho, ht, ho1, ht1, ho2, ht2, mk1, mk2r, mk2w⟩ := F
  clear mk1 mk2r mk2w ho1 ht1 ho2 ht2
  have HP : Hid _ := rp
  have HO : Hid _ := ho
  have HQ : Hid _ := rq
  have HT : Hid _ := ht
  clear rp rq ho ht
  have i0 : 0 ≤ l / 4194304 ∧ l / 4194304 < 1024 := by omega
  have cd : 0 ≤ c - c % 4096 ∧ c - c % 4096 ≤ 4294963200 := by omega
  have i1 : 0 ≤ l / 4096 % 1024 ∧ l / 4096 % 1024 < 1024 := by omega
  have od : 0 ≤ o - o % 4096 ∧ o - o % 4096 ≤ 4294963200 := by omega
  obtain ⟨X, hX⟩ : ∃ X, w.heap.size = X := ⟨_, rfl⟩
  have HX : Hid (w.heap.size = X) := hX
  have k0 : Kp noB w ((w.alloc (.cells #[.bool true, .bool true, .bool wp] 132)).alloc (.cells #[.int .u32 0, .int .u32 0, .int .u32 0, .bool false, .bool false] 145)) := (Kp.alloc _ _ _).trans (Kp.alloc _ _ _)
  have rB : RowB ((w.alloc (.cells #[.bool true, .bool true, .bool wp] 132)).alloc (.cells #[.int .u32 0, .int .u32 0, .int .u32 0, .bool false, .bool false] 145)) X true true wp := by
    have e0 := (MapKept.heap_alloc w (.cells #[.bool true, .bool true, .bool wp] 132)).1
    rw [hX] at e0
    exact (Below.heap_alloc _ _ _ (by simp; omega)).trans e0
  have rK : RowK ((w.alloc (.cells #[.bool true, .bool true, .bool wp] 132)).alloc (.cells #[.int .u32 0, .int .u32 0, .int .u32 0, .bool false, .bool false] 145)) (X + 1) 0 0 0 false false := by
    have e0 := (MapKept.heap_alloc (w.alloc (.cells #[.bool true, .bool true, .bool wp] 132)) (.cells #[.int .u32 0, .int .u32 0, .int .u32 0, .bool false, .bool false] 145)).1
    have e1 : (w.alloc (.cells #[.bool true, .bool true, .bool wp] 132)).heap.size = X + 1 := by simp [hX]
    rw [e1] at e0
    exact e0
  have hR : ∀ k, R.has k → k < X := fun k hk => by rw [← hX]; exact h.lt hk
  have h0 : RefAt ((w.alloc (.cells #[.bool true, .bool true, .bool wp] 132)).alloc (.cells #[.int .u32 0, .int .u32 0, .int .u32 0, .bool false, .bool false] 145)) R M := h.kp k0 (fun _ _ f => f)
  have nR : Hid (∀ k, R.has k → k < X) := hR
  clear hX h hR
  go_enter Tryz.func79, Tryz.ntmps79
  go_wp2_with fail
  refine (HP.out _ h0).mono ?_; rintro e w1 ⟨rfl, k1⟩
  replace rB := rB.kp k1 (fun f => f)
  replace rK := rK.kp k1 (fun f => f)
  replace h0 := h0.kp k1 (fun _ _ f => f)
  replace k0 := k0.trans k1
  clear k1
  rw [HX.out]
  go_wp2_with fail
  refine (HO.out _).mono ?_; rintro e w' ⟨rfl, hw⟩; replace hw := hw.symm; subst hw
  have d0 := rK.c0; have d1 := rK.c1; have d2 := rK.c2; have d3 := rK.c3; have d4 := rK.c4
  have f0 := rK.fz 0; have f1 := rK.fz 1; have f2 := rK.fz 2; have f3 := rK.fz 3; have f4 := rK.fz 4
  replace k0 := kp_no (S := R.has) k0
  go_wp2
  have z0 := rK.s0 0
  have z1 := z0.s1 0
  have z2 := z1.s2 0
  have z3 := z2.s3 false
  have z4 := z3.s4 false
  refine bodyPost_ret (v := .tuple #[.agg #[.int .u32 0, .int .u32 0, .int .u32 0, .bool false, .bool false], .int .i64 6]) ?_ rfl ⟨rfl, ?_, ?_⟩
  · simp [results, Tryz.results79, go_sem, z0.c0, z1.c1, z2.c2, z3.c3, z4.c4]
  · exact h0.kp (Kp.five_in _ (X + 1) _ _ _ _ _) (fun j hj e => by have := nR.out j hj; omega)
  · exact k0.five (by have := HX.out; omega) _ _ _ _ _

set_option maxRecDepth 100000 in
set_option maxHeartbeats 2000000 in
theorem rfind_no2_ff (w : World) (R : Rf) (M M1 M2 : Mem) (c l p q o t fr : Int) (wp h2 o2 t2 o4 t4 : Bool) (h : RefAt w R M) (F : FL R M M1 M2 c l p q o t fr true false o2 t2 o4 t4 false) :
    Calls Tryz.prog 79 #[.pointer (some ⟨R.r, 0, none⟩), .int .u32 c, .int .u32 l, .agg #[.bool false, .bool false, .bool wp]] w fun e w' => e = .returned (.tuple #[.agg #[.int .u32 0, .int .u32 0, .int .u32 0, .bool false, .bool false], .int .i64 0]) ∧ RefAt w' R M ∧ Kp R.has w w' := by
  obtain ⟨c0, c1, l0, l1, p0, p1, q0, q1, o0, o1, t0, t1, ep, eq, ef, rp, rq, ho, ht, ho1, ht1, ho2, ht2, mk1, mk2r, mk2w⟩ := F
  clear mk1 mk2r mk2w ho1 ht1 ho2 ht2
  have HP : Hid _ := rp
  have HO : Hid _ := ho
  have HQ : Hid _ := rq
  have HT : Hid _ := ht
  clear rp rq ho ht
  have i0 : 0 ≤ l / 4194304 ∧ l / 4194304 < 1024 := by omega
  have cd : 0 ≤ c - c % 4096 ∧ c - c % 4096 ≤ 4294963200 := by omega
  have i1 : 0 ≤ l / 4096 % 1024 ∧ l / 4096 % 1024 < 1024 := by omega
  have od : 0 ≤ o - o % 4096 ∧ o - o % 4096 ≤ 4294963200 := by omega
  obtain ⟨X, hX⟩ : ∃ X, w.heap.size = X := ⟨_, rfl⟩
  have HX : Hid (w.heap.size = X) := hX
  have k0 : Kp noB w ((w.alloc (.cells #[.bool false, .bool false, .bool wp] 132)).alloc (.cells #[.int .u32 0, .int .u32 0, .int .u32 0, .bool false, .bool false] 145)) := (Kp.alloc _ _ _).trans (Kp.alloc _ _ _)
  have rB : RowB ((w.alloc (.cells #[.bool false, .bool false, .bool wp] 132)).alloc (.cells #[.int .u32 0, .int .u32 0, .int .u32 0, .bool false, .bool false] 145)) X false false wp := by
    have e0 := (MapKept.heap_alloc w (.cells #[.bool false, .bool false, .bool wp] 132)).1
    rw [hX] at e0
    exact (Below.heap_alloc _ _ _ (by simp; omega)).trans e0
  have rK : RowK ((w.alloc (.cells #[.bool false, .bool false, .bool wp] 132)).alloc (.cells #[.int .u32 0, .int .u32 0, .int .u32 0, .bool false, .bool false] 145)) (X + 1) 0 0 0 false false := by
    have e0 := (MapKept.heap_alloc (w.alloc (.cells #[.bool false, .bool false, .bool wp] 132)) (.cells #[.int .u32 0, .int .u32 0, .int .u32 0, .bool false, .bool false] 145)).1
    have e1 : (w.alloc (.cells #[.bool false, .bool false, .bool wp] 132)).heap.size = X + 1 := by simp [hX]
    rw [e1] at e0
    exact e0
  have hR : ∀ k, R.has k → k < X := fun k hk => by rw [← hX]; exact h.lt hk
  have h0 : RefAt ((w.alloc (.cells #[.bool false, .bool false, .bool wp] 132)).alloc (.cells #[.int .u32 0, .int .u32 0, .int .u32 0, .bool false, .bool false] 145)) R M := h.kp k0 (fun _ _ f => f)
  have nR : Hid (∀ k, R.has k → k < X) := hR
  clear hX h hR
  go_enter Tryz.func79, Tryz.ntmps79
  go_wp2_with fail
  refine (HP.out _ h0).mono ?_; rintro e w1 ⟨rfl, k1⟩
  replace rB := rB.kp k1 (fun f => f)
  replace rK := rK.kp k1 (fun f => f)
  replace h0 := h0.kp k1 (fun _ _ f => f)
  replace k0 := k0.trans k1
  clear k1
  rw [HX.out]
  go_wp2_with fail
  refine (HO.out _).mono ?_; rintro e w' ⟨rfl, hw⟩; replace hw := hw.symm; subst hw
  go_wp2_with fail
  refine (HQ.out _ h0).mono ?_; rintro e w2 ⟨rfl, k1⟩
  replace rB := rB.kp k1 (fun f => f)
  replace rK := rK.kp k1 (fun f => f)
  replace h0 := h0.kp k1 (fun _ _ f => f)
  replace k0 := k0.trans k1
  clear k1
  go_wp2_with fail
  refine (HT.out _).mono ?_; rintro e w' ⟨rfl, hw⟩; replace hw := hw.symm; subst hw
  have d0 := rK.c0; have d1 := rK.c1; have d2 := rK.c2; have d3 := rK.c3; have d4 := rK.c4
  have f0 := rK.fz 0; have f1 := rK.fz 1; have f2 := rK.fz 2; have f3 := rK.fz 3; have f4 := rK.fz 4
  replace k0 := kp_no (S := R.has) k0
  go_wp2
  have z0 := rK.s0 0
  have z1 := z0.s1 0
  have z2 := z1.s2 0
  have z3 := z2.s3 false
  have z4 := z3.s4 false
  refine bodyPost_ret (v := .tuple #[.agg #[.int .u32 0, .int .u32 0, .int .u32 0, .bool false, .bool false], .int .i64 0]) ?_ rfl ⟨rfl, ?_, ?_⟩
  · simp [results, Tryz.results79, go_sem, z0.c0, z1.c1, z2.c2, z3.c3, z4.c4]
  · exact h0.kp (Kp.five_in _ (X + 1) _ _ _ _ _) (fun j hj e => by have := nR.out j hj; omega)
  · exact k0.five (by have := HX.out; omega) _ _ _ _ _

set_option maxRecDepth 100000 in
set_option maxHeartbeats 2000000 in
theorem rfind_no2_ft (w : World) (R : Rf) (M M1 M2 : Mem) (c l p q o t fr : Int) (wp h2 o2 t2 o4 t4 : Bool) (h : RefAt w R M) (F : FL R M M1 M2 c l p q o t fr true false o2 t2 o4 t4 false) :
    Calls Tryz.prog 79 #[.pointer (some ⟨R.r, 0, none⟩), .int .u32 c, .int .u32 l, .agg #[.bool false, .bool true, .bool wp]] w fun e w' => e = .returned (.tuple #[.agg #[.int .u32 0, .int .u32 0, .int .u32 0, .bool false, .bool false], .int .i64 4]) ∧ RefAt w' R M ∧ Kp R.has w w' := by
  obtain ⟨c0, c1, l0, l1, p0, p1, q0, q1, o0, o1, t0, t1, ep, eq, ef, rp, rq, ho, ht, ho1, ht1, ho2, ht2, mk1, mk2r, mk2w⟩ := F
  clear mk1 mk2r mk2w ho1 ht1 ho2 ht2
  have HP : Hid _ := rp
  have HO : Hid _ := ho
  have HQ : Hid _ := rq
  have HT : Hid _ := ht
  clear rp rq ho ht
  have i0 : 0 ≤ l / 4194304 ∧ l / 4194304 < 1024 := by omega
  have cd : 0 ≤ c - c % 4096 ∧ c - c % 4096 ≤ 4294963200 := by omega
  have i1 : 0 ≤ l / 4096 % 1024 ∧ l / 4096 % 1024 < 1024 := by omega
  have od : 0 ≤ o - o % 4096 ∧ o - o % 4096 ≤ 4294963200 := by omega
  obtain ⟨X, hX⟩ : ∃ X, w.heap.size = X := ⟨_, rfl⟩
  have HX : Hid (w.heap.size = X) := hX
  have k0 : Kp noB w ((w.alloc (.cells #[.bool false, .bool true, .bool wp] 132)).alloc (.cells #[.int .u32 0, .int .u32 0, .int .u32 0, .bool false, .bool false] 145)) := (Kp.alloc _ _ _).trans (Kp.alloc _ _ _)
  have rB : RowB ((w.alloc (.cells #[.bool false, .bool true, .bool wp] 132)).alloc (.cells #[.int .u32 0, .int .u32 0, .int .u32 0, .bool false, .bool false] 145)) X false true wp := by
    have e0 := (MapKept.heap_alloc w (.cells #[.bool false, .bool true, .bool wp] 132)).1
    rw [hX] at e0
    exact (Below.heap_alloc _ _ _ (by simp; omega)).trans e0
  have rK : RowK ((w.alloc (.cells #[.bool false, .bool true, .bool wp] 132)).alloc (.cells #[.int .u32 0, .int .u32 0, .int .u32 0, .bool false, .bool false] 145)) (X + 1) 0 0 0 false false := by
    have e0 := (MapKept.heap_alloc (w.alloc (.cells #[.bool false, .bool true, .bool wp] 132)) (.cells #[.int .u32 0, .int .u32 0, .int .u32 0, .bool false, .bool false] 145)).1
    have e1 : (w.alloc (.cells #[.bool false, .bool true, .bool wp] 132)).heap.size = X + 1 := by simp [hX]
    rw [e1] at e0
    exact e0
  have hR : ∀ k, R.has k → k < X := fun k hk => by rw [← hX]; exact h.lt hk
  have h0 : RefAt ((w.alloc (.cells #[.bool false, .bool true, .bool wp] 132)).alloc (.cells #[.int .u32 0, .int .u32 0, .int .u32 0, .bool false, .bool false] 145)) R M := h.kp k0 (fun _ _ f => f)
  have nR : Hid (∀ k, R.has k → k < X) := hR
  clear hX h hR
  go_enter Tryz.func79, Tryz.ntmps79
  go_wp2_with fail
  refine (HP.out _ h0).mono ?_; rintro e w1 ⟨rfl, k1⟩
  replace rB := rB.kp k1 (fun f => f)
  replace rK := rK.kp k1 (fun f => f)
  replace h0 := h0.kp k1 (fun _ _ f => f)
  replace k0 := k0.trans k1
  clear k1
  rw [HX.out]
  go_wp2_with fail
  refine (HO.out _).mono ?_; rintro e w' ⟨rfl, hw⟩; replace hw := hw.symm; subst hw
  go_wp2_with fail
  refine (HQ.out _ h0).mono ?_; rintro e w2 ⟨rfl, k1⟩
  replace rB := rB.kp k1 (fun f => f)
  replace rK := rK.kp k1 (fun f => f)
  replace h0 := h0.kp k1 (fun _ _ f => f)
  replace k0 := k0.trans k1
  clear k1
  go_wp2_with fail
  refine (HT.out _).mono ?_; rintro e w' ⟨rfl, hw⟩; replace hw := hw.symm; subst hw
  have d0 := rK.c0; have d1 := rK.c1; have d2 := rK.c2; have d3 := rK.c3; have d4 := rK.c4
  have f0 := rK.fz 0; have f1 := rK.fz 1; have f2 := rK.fz 2; have f3 := rK.fz 3; have f4 := rK.fz 4
  replace k0 := kp_no (S := R.has) k0
  go_wp2
  have z0 := rK.s0 0
  have z1 := z0.s1 0
  have z2 := z1.s2 0
  have z3 := z2.s3 false
  have z4 := z3.s4 false
  refine bodyPost_ret (v := .tuple #[.agg #[.int .u32 0, .int .u32 0, .int .u32 0, .bool false, .bool false], .int .i64 4]) ?_ rfl ⟨rfl, ?_, ?_⟩
  · simp [results, Tryz.results79, go_sem, z0.c0, z1.c1, z2.c2, z3.c3, z4.c4]
  · exact h0.kp (Kp.five_in _ (X + 1) _ _ _ _ _) (fun j hj e => by have := nR.out j hj; omega)
  · exact k0.five (by have := HX.out; omega) _ _ _ _ _

set_option maxRecDepth 100000 in
set_option maxHeartbeats 2000000 in
theorem rfind_no2_tf (w : World) (R : Rf) (M M1 M2 : Mem) (c l p q o t fr : Int) (wp h2 o2 t2 o4 t4 : Bool) (h : RefAt w R M) (F : FL R M M1 M2 c l p q o t fr true false o2 t2 o4 t4 true) :
    Calls Tryz.prog 79 #[.pointer (some ⟨R.r, 0, none⟩), .int .u32 c, .int .u32 l, .agg #[.bool true, .bool false, .bool wp]] w fun e w' => e = .returned (.tuple #[.agg #[.int .u32 0, .int .u32 0, .int .u32 0, .bool false, .bool false], .int .i64 2]) ∧ RefAt w' R M ∧ Kp R.has w w' := by
  obtain ⟨c0, c1, l0, l1, p0, p1, q0, q1, o0, o1, t0, t1, ep, eq, ef, rp, rq, ho, ht, ho1, ht1, ho2, ht2, mk1, mk2r, mk2w⟩ := F
  clear mk1 mk2r mk2w ho1 ht1 ho2 ht2
  have HP : Hid _ := rp
  have HO : Hid _ := ho
  have HQ : Hid _ := rq
  have HT : Hid _ := ht
  clear rp rq ho ht
  have i0 : 0 ≤ l / 4194304 ∧ l / 4194304 < 1024 := by omega
  have cd : 0 ≤ c - c % 4096 ∧ c - c % 4096 ≤ 4294963200 := by omega
  have i1 : 0 ≤ l / 4096 % 1024 ∧ l / 4096 % 1024 < 1024 := by omega
  have od : 0 ≤ o - o % 4096 ∧ o - o % 4096 ≤ 4294963200 := by omega
  obtain ⟨X, hX⟩ : ∃ X, w.heap.size = X := ⟨_, rfl⟩
  have HX : Hid (w.heap.size = X) := hX
  have k0 : Kp noB w ((w.alloc (.cells #[.bool true, .bool false, .bool wp] 132)).alloc (.cells #[.int .u32 0, .int .u32 0, .int .u32 0, .bool false, .bool false] 145)) := (Kp.alloc _ _ _).trans (Kp.alloc _ _ _)
  have rB : RowB ((w.alloc (.cells #[.bool true, .bool false, .bool wp] 132)).alloc (.cells #[.int .u32 0, .int .u32 0, .int .u32 0, .bool false, .bool false] 145)) X true false wp := by
    have e0 := (MapKept.heap_alloc w (.cells #[.bool true, .bool false, .bool wp] 132)).1
    rw [hX] at e0
    exact (Below.heap_alloc _ _ _ (by simp; omega)).trans e0
  have rK : RowK ((w.alloc (.cells #[.bool true, .bool false, .bool wp] 132)).alloc (.cells #[.int .u32 0, .int .u32 0, .int .u32 0, .bool false, .bool false] 145)) (X + 1) 0 0 0 false false := by
    have e0 := (MapKept.heap_alloc (w.alloc (.cells #[.bool true, .bool false, .bool wp] 132)) (.cells #[.int .u32 0, .int .u32 0, .int .u32 0, .bool false, .bool false] 145)).1
    have e1 : (w.alloc (.cells #[.bool true, .bool false, .bool wp] 132)).heap.size = X + 1 := by simp [hX]
    rw [e1] at e0
    exact e0
  have hR : ∀ k, R.has k → k < X := fun k hk => by rw [← hX]; exact h.lt hk
  have h0 : RefAt ((w.alloc (.cells #[.bool true, .bool false, .bool wp] 132)).alloc (.cells #[.int .u32 0, .int .u32 0, .int .u32 0, .bool false, .bool false] 145)) R M := h.kp k0 (fun _ _ f => f)
  have nR : Hid (∀ k, R.has k → k < X) := hR
  clear hX h hR
  go_enter Tryz.func79, Tryz.ntmps79
  go_wp2_with fail
  refine (HP.out _ h0).mono ?_; rintro e w1 ⟨rfl, k1⟩
  replace rB := rB.kp k1 (fun f => f)
  replace rK := rK.kp k1 (fun f => f)
  replace h0 := h0.kp k1 (fun _ _ f => f)
  replace k0 := k0.trans k1
  clear k1
  rw [HX.out]
  go_wp2_with fail
  refine (HO.out _).mono ?_; rintro e w' ⟨rfl, hw⟩; replace hw := hw.symm; subst hw
  go_wp2_with fail
  refine (HQ.out _ h0).mono ?_; rintro e w2 ⟨rfl, k1⟩
  replace rB := rB.kp k1 (fun f => f)
  replace rK := rK.kp k1 (fun f => f)
  replace h0 := h0.kp k1 (fun _ _ f => f)
  replace k0 := k0.trans k1
  clear k1
  go_wp2_with fail
  refine (HT.out _).mono ?_; rintro e w' ⟨rfl, hw⟩; replace hw := hw.symm; subst hw
  have d0 := rK.c0; have d1 := rK.c1; have d2 := rK.c2; have d3 := rK.c3; have d4 := rK.c4
  have f0 := rK.fz 0; have f1 := rK.fz 1; have f2 := rK.fz 2; have f3 := rK.fz 3; have f4 := rK.fz 4
  replace k0 := kp_no (S := R.has) k0
  go_wp2
  have z0 := rK.s0 0
  have z1 := z0.s1 0
  have z2 := z1.s2 0
  have z3 := z2.s3 false
  have z4 := z3.s4 false
  refine bodyPost_ret (v := .tuple #[.agg #[.int .u32 0, .int .u32 0, .int .u32 0, .bool false, .bool false], .int .i64 2]) ?_ rfl ⟨rfl, ?_, ?_⟩
  · simp [results, Tryz.results79, go_sem, z0.c0, z1.c1, z2.c2, z3.c3, z4.c4]
  · exact h0.kp (Kp.five_in _ (X + 1) _ _ _ _ _) (fun j hj e => by have := nR.out j hj; omega)
  · exact k0.five (by have := HX.out; omega) _ _ _ _ _

set_option maxRecDepth 100000 in
set_option maxHeartbeats 2000000 in
theorem rfind_no2_tt (w : World) (R : Rf) (M M1 M2 : Mem) (c l p q o t fr : Int) (wp h2 o2 t2 o4 t4 : Bool) (h : RefAt w R M) (F : FL R M M1 M2 c l p q o t fr true false o2 t2 o4 t4 true) :
    Calls Tryz.prog 79 #[.pointer (some ⟨R.r, 0, none⟩), .int .u32 c, .int .u32 l, .agg #[.bool true, .bool true, .bool wp]] w fun e w' => e = .returned (.tuple #[.agg #[.int .u32 0, .int .u32 0, .int .u32 0, .bool false, .bool false], .int .i64 6]) ∧ RefAt w' R M ∧ Kp R.has w w' := by
  obtain ⟨c0, c1, l0, l1, p0, p1, q0, q1, o0, o1, t0, t1, ep, eq, ef, rp, rq, ho, ht, ho1, ht1, ho2, ht2, mk1, mk2r, mk2w⟩ := F
  clear mk1 mk2r mk2w ho1 ht1 ho2 ht2
  have HP : Hid _ := rp
  have HO : Hid _ := ho
  have HQ : Hid _ := rq
  have HT : Hid _ := ht
  clear rp rq ho ht
  have i0 : 0 ≤ l / 4194304 ∧ l / 4194304 < 1024 := by omega
  have cd : 0 ≤ c - c % 4096 ∧ c - c % 4096 ≤ 4294963200 := by omega
  have i1 : 0 ≤ l / 4096 % 1024 ∧ l / 4096 % 1024 < 1024 := by omega
  have od : 0 ≤ o - o % 4096 ∧ o - o % 4096 ≤ 4294963200 := by omega
  obtain ⟨X, hX⟩ : ∃ X, w.heap.size = X := ⟨_, rfl⟩
  have HX : Hid (w.heap.size = X) := hX
  have k0 : Kp noB w ((w.alloc (.cells #[.bool true, .bool true, .bool wp] 132)).alloc (.cells #[.int .u32 0, .int .u32 0, .int .u32 0, .bool false, .bool false] 145)) := (Kp.alloc _ _ _).trans (Kp.alloc _ _ _)
  have rB : RowB ((w.alloc (.cells #[.bool true, .bool true, .bool wp] 132)).alloc (.cells #[.int .u32 0, .int .u32 0, .int .u32 0, .bool false, .bool false] 145)) X true true wp := by
    have e0 := (MapKept.heap_alloc w (.cells #[.bool true, .bool true, .bool wp] 132)).1
    rw [hX] at e0
    exact (Below.heap_alloc _ _ _ (by simp; omega)).trans e0
  have rK : RowK ((w.alloc (.cells #[.bool true, .bool true, .bool wp] 132)).alloc (.cells #[.int .u32 0, .int .u32 0, .int .u32 0, .bool false, .bool false] 145)) (X + 1) 0 0 0 false false := by
    have e0 := (MapKept.heap_alloc (w.alloc (.cells #[.bool true, .bool true, .bool wp] 132)) (.cells #[.int .u32 0, .int .u32 0, .int .u32 0, .bool false, .bool false] 145)).1
    have e1 : (w.alloc (.cells #[.bool true, .bool true, .bool wp] 132)).heap.size = X + 1 := by simp [hX]
    rw [e1] at e0
    exact e0
  have hR : ∀ k, R.has k → k < X := fun k hk => by rw [← hX]; exact h.lt hk
  have h0 : RefAt ((w.alloc (.cells #[.bool true, .bool true, .bool wp] 132)).alloc (.cells #[.int .u32 0, .int .u32 0, .int .u32 0, .bool false, .bool false] 145)) R M := h.kp k0 (fun _ _ f => f)
  have nR : Hid (∀ k, R.has k → k < X) := hR
  clear hX h hR
  go_enter Tryz.func79, Tryz.ntmps79
  go_wp2_with fail
  refine (HP.out _ h0).mono ?_; rintro e w1 ⟨rfl, k1⟩
  replace rB := rB.kp k1 (fun f => f)
  replace rK := rK.kp k1 (fun f => f)
  replace h0 := h0.kp k1 (fun _ _ f => f)
  replace k0 := k0.trans k1
  clear k1
  rw [HX.out]
  go_wp2_with fail
  refine (HO.out _).mono ?_; rintro e w' ⟨rfl, hw⟩; replace hw := hw.symm; subst hw
  go_wp2_with fail
  refine (HQ.out _ h0).mono ?_; rintro e w2 ⟨rfl, k1⟩
  replace rB := rB.kp k1 (fun f => f)
  replace rK := rK.kp k1 (fun f => f)
  replace h0 := h0.kp k1 (fun _ _ f => f)
  replace k0 := k0.trans k1
  clear k1
  go_wp2_with fail
  refine (HT.out _).mono ?_; rintro e w' ⟨rfl, hw⟩; replace hw := hw.symm; subst hw
  have d0 := rK.c0; have d1 := rK.c1; have d2 := rK.c2; have d3 := rK.c3; have d4 := rK.c4
  have f0 := rK.fz 0; have f1 := rK.fz 1; have f2 := rK.fz 2; have f3 := rK.fz 3; have f4 := rK.fz 4
  replace k0 := kp_no (S := R.has) k0
  go_wp2
  have z0 := rK.s0 0
  have z1 := z0.s1 0
  have z2 := z1.s2 0
  have z3 := z2.s3 false
  have z4 := z3.s4 false
  refine bodyPost_ret (v := .tuple #[.agg #[.int .u32 0, .int .u32 0, .int .u32 0, .bool false, .bool false], .int .i64 6]) ?_ rfl ⟨rfl, ?_, ?_⟩
  · simp [results, Tryz.results79, go_sem, z0.c0, z1.c1, z2.c2, z3.c3, z4.c4]
  · exact h0.kp (Kp.five_in _ (X + 1) _ _ _ _ _) (fun j hj e => by have := nR.out j hj; omega)
  · exact k0.five (by have := HX.out; omega) _ _ _ _ _

end Go.Proofs.YtmmnnafjikilpaaGreat

/- The document's own walk: the ways with a page. -/
namespace Go.Proofs.YtmmnnafjikilpaaGreat
open Go.ChangeShapes Go.WideShapes Go.ChangeAt Go.RowKit Go.Maps
set_option linter.unusedVariables false

set_option maxRecDepth 100000 in
set_option maxHeartbeats 2000000 in
theorem rfind_ff_f_f (w : World) (R : Rf) (M M1 M2 : Mem) (c l p q o t fr : Int) (wp t2 t4 : Bool) (h : RefAt w R M) (F : FL R M M1 M2 c l p q o t fr true true false t2 false t4 false) :
    Calls Tryz.prog 79 #[.pointer (some ⟨R.r, 0, none⟩), .int .u32 c, .int .u32 l, .agg #[.bool false, .bool false, .bool wp]] w fun e w' => e = .returned (.tuple #[.agg #[.int .u32 fr, .int .u32 p, .int .u32 q, .bool false, .bool false], .int .i64 (-1)]) ∧ RefAt w' R M2 ∧ Kp R.has w w' := by
  obtain ⟨c0, c1, l0, l1, p0, p1, q0, q1, o0, o1, t0, t1, ep, eq, ef, rp, rq, ho, ht, ho1, ht1, ho2, ht2, mk1, mk2r, mk2w⟩ := F
  have HO1 : Hid _ := ho1
  have HT1 : Hid _ := ht1
  have HO2 : Hid _ := ho2
  have HT2 : Hid _ := ht2
  have HM1 : Hid _ := mk1
  have HM2 : Hid _ := mk2r rfl
  clear ho1 ht1 ho2 ht2 mk1 mk2r mk2w
  have HP : Hid _ := rp
  have HO : Hid _ := ho
  have HQ : Hid _ := rq
  have HT : Hid _ := ht
  clear rp rq ho ht
  have i0 : 0 ≤ l / 4194304 ∧ l / 4194304 < 1024 := by omega
  have cd : 0 ≤ c - c % 4096 ∧ c - c % 4096 ≤ 4294963200 := by omega
  have i1 : 0 ≤ l / 4096 % 1024 ∧ l / 4096 % 1024 < 1024 := by omega
  have od : 0 ≤ o - o % 4096 ∧ o - o % 4096 ≤ 4294963200 := by omega
  obtain ⟨X, hX⟩ : ∃ X, w.heap.size = X := ⟨_, rfl⟩
  have HX : Hid (w.heap.size = X) := hX
  have k0 : Kp noB w ((w.alloc (.cells #[.bool false, .bool false, .bool wp] 132)).alloc (.cells #[.int .u32 0, .int .u32 0, .int .u32 0, .bool false, .bool false] 145)) := (Kp.alloc _ _ _).trans (Kp.alloc _ _ _)
  have rB : RowB ((w.alloc (.cells #[.bool false, .bool false, .bool wp] 132)).alloc (.cells #[.int .u32 0, .int .u32 0, .int .u32 0, .bool false, .bool false] 145)) X false false wp := by
    have e0 := (MapKept.heap_alloc w (.cells #[.bool false, .bool false, .bool wp] 132)).1
    rw [hX] at e0
    exact (Below.heap_alloc _ _ _ (by simp; omega)).trans e0
  have rK : RowK ((w.alloc (.cells #[.bool false, .bool false, .bool wp] 132)).alloc (.cells #[.int .u32 0, .int .u32 0, .int .u32 0, .bool false, .bool false] 145)) (X + 1) 0 0 0 false false := by
    have e0 := (MapKept.heap_alloc (w.alloc (.cells #[.bool false, .bool false, .bool wp] 132)) (.cells #[.int .u32 0, .int .u32 0, .int .u32 0, .bool false, .bool false] 145)).1
    have e1 : (w.alloc (.cells #[.bool false, .bool false, .bool wp] 132)).heap.size = X + 1 := by simp [hX]
    rw [e1] at e0
    exact e0
  have hR : ∀ k, R.has k → k < X := fun k hk => by rw [← hX]; exact h.lt hk
  have h0 : RefAt ((w.alloc (.cells #[.bool false, .bool false, .bool wp] 132)).alloc (.cells #[.int .u32 0, .int .u32 0, .int .u32 0, .bool false, .bool false] 145)) R M := h.kp k0 (fun _ _ f => f)
  have nR : Hid (∀ k, R.has k → k < X) := hR
  clear hX h hR
  go_enter Tryz.func79, Tryz.ntmps79
  go_wp2_with fail
  refine (HP.out _ h0).mono ?_; rintro e w1 ⟨rfl, k1⟩
  replace rB := rB.kp k1 (fun f => f)
  replace rK := rK.kp k1 (fun f => f)
  replace h0 := h0.kp k1 (fun _ _ f => f)
  replace k0 := k0.trans k1
  clear k1
  rw [HX.out]
  go_wp2_with fail
  refine (HO.out _).mono ?_; rintro e w' ⟨rfl, hw⟩; replace hw := hw.symm; subst hw
  go_wp2_with fail
  refine (HQ.out _ h0).mono ?_; rintro e w2 ⟨rfl, k1⟩
  replace rB := rB.kp k1 (fun f => f)
  replace rK := rK.kp k1 (fun f => f)
  replace h0 := h0.kp k1 (fun _ _ f => f)
  replace k0 := k0.trans k1
  clear k1
  go_wp2_with fail
  refine (HT.out _).mono ?_; rintro e w' ⟨rfl, hw⟩; replace hw := hw.symm; subst hw
  have f0 : 0 ≤ fr := by omega
  have f1 : fr < 4294967296 := by omega
  have ra := fun O => rB.kp (Kp.alloc noB w2 O) (fun f => f)
  have b0 := fun O => (ra O).c0
  have b1 := fun O => (ra O).c1
  have b2 := fun O => (ra O).c2
  clear ra
  go_wp2_with fail
  refine (HO1.out _).mono ?_; rintro e w' ⟨rfl, hw⟩; replace hw := hw.symm; subst hw
  go_wp2_with fail
  refine (HO2.out _).mono ?_; rintro e w' ⟨rfl, hw⟩; replace hw := hw.symm; subst hw
  go_wp2_with fail
  have ka := Kp.alloc noB w2 (.cells #[.int .u32 fr, .int .u32 p, .int .u32 q, .bool false, .bool false] 145)
  have rZ : RowK (w2.alloc (.cells #[.int .u32 fr, .int .u32 p, .int .u32 q, .bool false, .bool false] 145)) w2.heap.size fr p q false false := (MapKept.heap_alloc w2 _).1
  have sz : (w2.alloc (.cells #[.int .u32 fr, .int .u32 p, .int .u32 q, .bool false, .bool false] 145)).heap.size = w2.heap.size + 1 := by simp
  have ZX : X + 1 < w2.heap.size := rK.lt
  replace rB := rB.kp ka (fun f => f)
  replace rK := rK.kp ka (fun f => f)
  replace h0 := h0.kp ka (fun _ _ f => f)
  replace k0 := k0.trans ka
  clear ka b0 b1 b2
  obtain ⟨Z, hZ⟩ : ∃ Z, Z = w2.heap.size := ⟨_, rfl⟩
  obtain ⟨w3, hgen⟩ : ∃ W, W = w2.alloc (.cells #[.int .u32 fr, .int .u32 p, .int .u32 q, .bool false, .bool false] 145) := ⟨_, rfl⟩
  rw [← hZ] at rZ sz ZX ⊢
  rw [← hgen] at rB rK h0 k0 rZ sz ⊢
  clear hgen hZ
  have kb := Kp.alloc noB w3 (.cells #[.int .i64 5] 3)
  have c5 : (w3.alloc (.cells #[.int .i64 5] 3)).cell? ⟨Z + 1, 0, none⟩ = some (.int .i64 5) := by
    have e0 := (MapKept.heap_alloc w3 (.cells #[.int .i64 5] 3)).1
    rw [sz] at e0
    rw [cell_at e0]; rfl
  refine (HM1.out _ (Z + 1) (h0.kp kb (fun _ _ f => f)) (fun f => by have := nR.out _ f; omega) c5).mono ?_
  rintro e w4 ⟨rfl, h4, k4⟩
  have nB : ¬ R.has X := fun f => by have := nR.out _ f; omega
  have nK : ¬ R.has (X + 1) := fun f => by have := nR.out _ f; omega
  have nZ : ¬ R.has Z := fun f => by have := nR.out _ f; omega
  replace rB := (rB.kp kb (fun f => f)).kp k4 nB
  replace rK := (rK.kp kb (fun f => f)).kp k4 nK
  replace rZ := (rZ.kp kb (fun f => f)).kp k4 nZ
  replace k0 := (kp_no (S := R.has) (k0.trans kb)).trans k4
  clear h0 kb k4 c5 sz
  have X4 : X + 1 < w4.heap.size := rK.lt
  have ra := fun O => rB.kp (Kp.alloc noB w4 O) (fun f => f)
  have b0 := fun O => (ra O).c0
  have b1 := fun O => (ra O).c1
  have b2 := fun O => (ra O).c2
  clear ra
  go_wp2_with fail
  have kc := Kp.alloc noB w4 (.cells #[.int .i64 5] 3)
  have e0 := (MapKept.heap_alloc w4 (.cells #[.int .i64 5] 3)).1
  refine (HM2.out _ w4.heap.size (h4.kp kc (fun _ _ f => f)) (fun f => by have := nR.out _ f; omega) (by rw [cell_at e0]; rfl)).mono ?_
  rintro e w5 ⟨rfl, h5, k5⟩
  replace rK := (rK.kp kc (fun f => f)).kp k5 nK
  replace rZ := (rZ.kp kc (fun f => f)).kp k5 nZ
  replace k0 := (k0.trans (kp_no kc)).trans k5
  clear h4 kc k5 e0 b0 b1 b2 rB X4
  have d0 := rK.c0; have d1 := rK.c1; have d2 := rK.c2; have d3 := rK.c3; have d4 := rK.c4
  have f0 := rK.fz 0; have f1 := rK.fz 1; have f2 := rK.fz 2; have f3 := rK.fz 3; have f4 := rK.fz 4
  have g0 := rZ.c0; have g1 := rZ.c1; have g2 := rZ.c2; have g3 := rZ.c3; have g4 := rZ.c4
  go_wp2
  have z0 := rK.s0 fr
  have z1 := z0.s1 p
  have z2 := z1.s2 q
  have z3 := z2.s3 false
  have z4 := z3.s4 false
  refine bodyPost_ret (v := .tuple #[.agg #[.int .u32 fr, .int .u32 p, .int .u32 q, .bool false, .bool false], .int .i64 (-1)]) ?_ rfl ⟨rfl, ?_, ?_⟩
  · simp [results, Tryz.results79, go_sem, z0.c0, z1.c1, z2.c2, z3.c3, z4.c4]
  · exact h5.kp (Kp.five_in _ (X + 1) _ _ _ _ _) (fun j hj e => by have := nR.out j hj; omega)
  · exact k0.five (by have := HX.out; omega) _ _ _ _ _

set_option maxRecDepth 100000 in
set_option maxHeartbeats 2000000 in
theorem rfind_ff_f_tf (w : World) (R : Rf) (M M1 M2 : Mem) (c l p q o t fr : Int) (wp t2 t4 : Bool) (h : RefAt w R M) (F : FL R M M1 M2 c l p q o t fr true true false t2 true false false) :
    Calls Tryz.prog 79 #[.pointer (some ⟨R.r, 0, none⟩), .int .u32 c, .int .u32 l, .agg #[.bool false, .bool false, .bool wp]] w fun e w' => e = .returned (.tuple #[.agg #[.int .u32 fr, .int .u32 p, .int .u32 q, .bool false, .bool false], .int .i64 (-1)]) ∧ RefAt w' R M2 ∧ Kp R.has w w' := by
  obtain ⟨c0, c1, l0, l1, p0, p1, q0, q1, o0, o1, t0, t1, ep, eq, ef, rp, rq, ho, ht, ho1, ht1, ho2, ht2, mk1, mk2r, mk2w⟩ := F
  have HO1 : Hid _ := ho1
  have HT1 : Hid _ := ht1
  have HO2 : Hid _ := ho2
  have HT2 : Hid _ := ht2
  have HM1 : Hid _ := mk1
  have HM2 : Hid _ := mk2r rfl
  clear ho1 ht1 ho2 ht2 mk1 mk2r mk2w
  have HP : Hid _ := rp
  have HO : Hid _ := ho
  have HQ : Hid _ := rq
  have HT : Hid _ := ht
  clear rp rq ho ht
  have i0 : 0 ≤ l / 4194304 ∧ l / 4194304 < 1024 := by omega
  have cd : 0 ≤ c - c % 4096 ∧ c - c % 4096 ≤ 4294963200 := by omega
  have i1 : 0 ≤ l / 4096 % 1024 ∧ l / 4096 % 1024 < 1024 := by omega
  have od : 0 ≤ o - o % 4096 ∧ o - o % 4096 ≤ 4294963200 := by omega
  obtain ⟨X, hX⟩ : ∃ X, w.heap.size = X := ⟨_, rfl⟩
  have HX : Hid (w.heap.size = X) := hX
  have k0 : Kp noB w ((w.alloc (.cells #[.bool false, .bool false, .bool wp] 132)).alloc (.cells #[.int .u32 0, .int .u32 0, .int .u32 0, .bool false, .bool false] 145)) := (Kp.alloc _ _ _).trans (Kp.alloc _ _ _)
  have rB : RowB ((w.alloc (.cells #[.bool false, .bool false, .bool wp] 132)).alloc (.cells #[.int .u32 0, .int .u32 0, .int .u32 0, .bool false, .bool false] 145)) X false false wp := by
    have e0 := (MapKept.heap_alloc w (.cells #[.bool false, .bool false, .bool wp] 132)).1
    rw [hX] at e0
    exact (Below.heap_alloc _ _ _ (by simp; omega)).trans e0
  have rK : RowK ((w.alloc (.cells #[.bool false, .bool false, .bool wp] 132)).alloc (.cells #[.int .u32 0, .int .u32 0, .int .u32 0, .bool false, .bool false] 145)) (X + 1) 0 0 0 false false := by
    have e0 := (MapKept.heap_alloc (w.alloc (.cells #[.bool false, .bool false, .bool wp] 132)) (.cells #[.int .u32 0, .int .u32 0, .int .u32 0, .bool false, .bool false] 145)).1
    have e1 : (w.alloc (.cells #[.bool false, .bool false, .bool wp] 132)).heap.size = X + 1 := by simp [hX]
    rw [e1] at e0
    exact e0
  have hR : ∀ k, R.has k → k < X := fun k hk => by rw [← hX]; exact h.lt hk
  have h0 : RefAt ((w.alloc (.cells #[.bool false, .bool false, .bool wp] 132)).alloc (.cells #[.int .u32 0, .int .u32 0, .int .u32 0, .bool false, .bool false] 145)) R M := h.kp k0 (fun _ _ f => f)
  have nR : Hid (∀ k, R.has k → k < X) := hR
  clear hX h hR
  go_enter Tryz.func79, Tryz.ntmps79
  go_wp2_with fail
  refine (HP.out _ h0).mono ?_; rintro e w1 ⟨rfl, k1⟩
  replace rB := rB.kp k1 (fun f => f)
  replace rK := rK.kp k1 (fun f => f)
  replace h0 := h0.kp k1 (fun _ _ f => f)
  replace k0 := k0.trans k1
  clear k1
  rw [HX.out]
  go_wp2_with fail
  refine (HO.out _).mono ?_; rintro e w' ⟨rfl, hw⟩; replace hw := hw.symm; subst hw
  go_wp2_with fail
  refine (HQ.out _ h0).mono ?_; rintro e w2 ⟨rfl, k1⟩
  replace rB := rB.kp k1 (fun f => f)
  replace rK := rK.kp k1 (fun f => f)
  replace h0 := h0.kp k1 (fun _ _ f => f)
  replace k0 := k0.trans k1
  clear k1
  go_wp2_with fail
  refine (HT.out _).mono ?_; rintro e w' ⟨rfl, hw⟩; replace hw := hw.symm; subst hw
  have f0 : 0 ≤ fr := by omega
  have f1 : fr < 4294967296 := by omega
  have ra := fun O => rB.kp (Kp.alloc noB w2 O) (fun f => f)
  have b0 := fun O => (ra O).c0
  have b1 := fun O => (ra O).c1
  have b2 := fun O => (ra O).c2
  clear ra
  go_wp2_with fail
  refine (HO1.out _).mono ?_; rintro e w' ⟨rfl, hw⟩; replace hw := hw.symm; subst hw
  go_wp2_with fail
  refine (HO2.out _).mono ?_; rintro e w' ⟨rfl, hw⟩; replace hw := hw.symm; subst hw
  go_wp2_with fail
  refine (HT2.out _).mono ?_; rintro e w' ⟨rfl, hw⟩; replace hw := hw.symm; subst hw
  go_wp2_with fail
  have ka := Kp.alloc noB w2 (.cells #[.int .u32 fr, .int .u32 p, .int .u32 q, .bool false, .bool false] 145)
  have rZ : RowK (w2.alloc (.cells #[.int .u32 fr, .int .u32 p, .int .u32 q, .bool false, .bool false] 145)) w2.heap.size fr p q false false := (MapKept.heap_alloc w2 _).1
  have sz : (w2.alloc (.cells #[.int .u32 fr, .int .u32 p, .int .u32 q, .bool false, .bool false] 145)).heap.size = w2.heap.size + 1 := by simp
  have ZX : X + 1 < w2.heap.size := rK.lt
  replace rB := rB.kp ka (fun f => f)
  replace rK := rK.kp ka (fun f => f)
  replace h0 := h0.kp ka (fun _ _ f => f)
  replace k0 := k0.trans ka
  clear ka b0 b1 b2
  obtain ⟨Z, hZ⟩ : ∃ Z, Z = w2.heap.size := ⟨_, rfl⟩
  obtain ⟨w3, hgen⟩ : ∃ W, W = w2.alloc (.cells #[.int .u32 fr, .int .u32 p, .int .u32 q, .bool false, .bool false] 145) := ⟨_, rfl⟩
  rw [← hZ] at rZ sz ZX ⊢
  rw [← hgen] at rB rK h0 k0 rZ sz ⊢
  clear hgen hZ
  have kb := Kp.alloc noB w3 (.cells #[.int .i64 5] 3)
  have c5 : (w3.alloc (.cells #[.int .i64 5] 3)).cell? ⟨Z + 1, 0, none⟩ = some (.int .i64 5) := by
    have e0 := (MapKept.heap_alloc w3 (.cells #[.int .i64 5] 3)).1
    rw [sz] at e0
    rw [cell_at e0]; rfl
  refine (HM1.out _ (Z + 1) (h0.kp kb (fun _ _ f => f)) (fun f => by have := nR.out _ f; omega) c5).mono ?_
  rintro e w4 ⟨rfl, h4, k4⟩
  have nB : ¬ R.has X := fun f => by have := nR.out _ f; omega
  have nK : ¬ R.has (X + 1) := fun f => by have := nR.out _ f; omega
  have nZ : ¬ R.has Z := fun f => by have := nR.out _ f; omega
  replace rB := (rB.kp kb (fun f => f)).kp k4 nB
  replace rK := (rK.kp kb (fun f => f)).kp k4 nK
  replace rZ := (rZ.kp kb (fun f => f)).kp k4 nZ
  replace k0 := (kp_no (S := R.has) (k0.trans kb)).trans k4
  clear h0 kb k4 c5 sz
  have X4 : X + 1 < w4.heap.size := rK.lt
  have ra := fun O => rB.kp (Kp.alloc noB w4 O) (fun f => f)
  have b0 := fun O => (ra O).c0
  have b1 := fun O => (ra O).c1
  have b2 := fun O => (ra O).c2
  clear ra
  go_wp2_with fail
  have kc := Kp.alloc noB w4 (.cells #[.int .i64 5] 3)
  have e0 := (MapKept.heap_alloc w4 (.cells #[.int .i64 5] 3)).1
  refine (HM2.out _ w4.heap.size (h4.kp kc (fun _ _ f => f)) (fun f => by have := nR.out _ f; omega) (by rw [cell_at e0]; rfl)).mono ?_
  rintro e w5 ⟨rfl, h5, k5⟩
  replace rK := (rK.kp kc (fun f => f)).kp k5 nK
  replace rZ := (rZ.kp kc (fun f => f)).kp k5 nZ
  replace k0 := (k0.trans (kp_no kc)).trans k5
  clear h4 kc k5 e0 b0 b1 b2 rB X4
  have d0 := rK.c0; have d1 := rK.c1; have d2 := rK.c2; have d3 := rK.c3; have d4 := rK.c4
  have f0 := rK.fz 0; have f1 := rK.fz 1; have f2 := rK.fz 2; have f3 := rK.fz 3; have f4 := rK.fz 4
  have g0 := rZ.c0; have g1 := rZ.c1; have g2 := rZ.c2; have g3 := rZ.c3; have g4 := rZ.c4
  go_wp2
  have z0 := rK.s0 fr
  have z1 := z0.s1 p
  have z2 := z1.s2 q
  have z3 := z2.s3 false
  have z4 := z3.s4 false
  refine bodyPost_ret (v := .tuple #[.agg #[.int .u32 fr, .int .u32 p, .int .u32 q, .bool false, .bool false], .int .i64 (-1)]) ?_ rfl ⟨rfl, ?_, ?_⟩
  · simp [results, Tryz.results79, go_sem, z0.c0, z1.c1, z2.c2, z3.c3, z4.c4]
  · exact h5.kp (Kp.five_in _ (X + 1) _ _ _ _ _) (fun j hj e => by have := nR.out j hj; omega)
  · exact k0.five (by have := HX.out; omega) _ _ _ _ _

set_option maxRecDepth 100000 in
set_option maxHeartbeats 2000000 in
theorem rfind_ff_f_tt (w : World) (R : Rf) (M M1 M2 : Mem) (c l p q o t fr : Int) (wp t2 t4 : Bool) (h : RefAt w R M) (F : FL R M M1 M2 c l p q o t fr true true false t2 true true false) :
    Calls Tryz.prog 79 #[.pointer (some ⟨R.r, 0, none⟩), .int .u32 c, .int .u32 l, .agg #[.bool false, .bool false, .bool wp]] w fun e w' => e = .returned (.tuple #[.agg #[.int .u32 fr, .int .u32 p, .int .u32 q, .bool false, .bool true], .int .i64 (-1)]) ∧ RefAt w' R M2 ∧ Kp R.has w w' := by
  obtain ⟨c0, c1, l0, l1, p0, p1, q0, q1, o0, o1, t0, t1, ep, eq, ef, rp, rq, ho, ht, ho1, ht1, ho2, ht2, mk1, mk2r, mk2w⟩ := F
  have HO1 : Hid _ := ho1
  have HT1 : Hid _ := ht1
  have HO2 : Hid _ := ho2
  have HT2 : Hid _ := ht2
  have HM1 : Hid _ := mk1
  have HM2 : Hid _ := mk2r rfl
  clear ho1 ht1 ho2 ht2 mk1 mk2r mk2w
  have HP : Hid _ := rp
  have HO : Hid _ := ho
  have HQ : Hid _ := rq
  have HT : Hid _ := ht
  clear rp rq ho ht
  have i0 : 0 ≤ l / 4194304 ∧ l / 4194304 < 1024 := by omega
  have cd : 0 ≤ c - c % 4096 ∧ c - c % 4096 ≤ 4294963200 := by omega
  have i1 : 0 ≤ l / 4096 % 1024 ∧ l / 4096 % 1024 < 1024 := by omega
  have od : 0 ≤ o - o % 4096 ∧ o - o % 4096 ≤ 4294963200 := by omega
  obtain ⟨X, hX⟩ : ∃ X, w.heap.size = X := ⟨_, rfl⟩
  have HX : Hid (w.heap.size = X) := hX
  have k0 : Kp noB w ((w.alloc (.cells #[.bool false, .bool false, .bool wp] 132)).alloc (.cells #[.int .u32 0, .int .u32 0, .int .u32 0, .bool false, .bool false] 145)) := (Kp.alloc _ _ _).trans (Kp.alloc _ _ _)
  have rB : RowB ((w.alloc (.cells #[.bool false, .bool false, .bool wp] 132)).alloc (.cells #[.int .u32 0, .int .u32 0, .int .u32 0, .bool false, .bool false] 145)) X false false wp := by
    have e0 := (MapKept.heap_alloc w (.cells #[.bool false, .bool false, .bool wp] 132)).1
    rw [hX] at e0
    exact (Below.heap_alloc _ _ _ (by simp; omega)).trans e0
  have rK : RowK ((w.alloc (.cells #[.bool false, .bool false, .bool wp] 132)).alloc (.cells #[.int .u32 0, .int .u32 0, .int .u32 0, .bool false, .bool false] 145)) (X + 1) 0 0 0 false false := by
    have e0 := (MapKept.heap_alloc (w.alloc (.cells #[.bool false, .bool false, .bool wp] 132)) (.cells #[.int .u32 0, .int .u32 0, .int .u32 0, .bool false, .bool false] 145)).1
    have e1 : (w.alloc (.cells #[.bool false, .bool false, .bool wp] 132)).heap.size = X + 1 := by simp [hX]
    rw [e1] at e0
    exact e0
  have hR : ∀ k, R.has k → k < X := fun k hk => by rw [← hX]; exact h.lt hk
  have h0 : RefAt ((w.alloc (.cells #[.bool false, .bool false, .bool wp] 132)).alloc (.cells #[.int .u32 0, .int .u32 0, .int .u32 0, .bool false, .bool false] 145)) R M := h.kp k0 (fun _ _ f => f)
  have nR : Hid (∀ k, R.has k → k < X) := hR
  clear hX h hR
  go_enter Tryz.func79, Tryz.ntmps79
  go_wp2_with fail
  refine (HP.out _ h0).mono ?_; rintro e w1 ⟨rfl, k1⟩
  replace rB := rB.kp k1 (fun f => f)
  replace rK := rK.kp k1 (fun f => f)
  replace h0 := h0.kp k1 (fun _ _ f => f)
  replace k0 := k0.trans k1
  clear k1
  rw [HX.out]
  go_wp2_with fail
  refine (HO.out _).mono ?_; rintro e w' ⟨rfl, hw⟩; replace hw := hw.symm; subst hw
  go_wp2_with fail
  refine (HQ.out _ h0).mono ?_; rintro e w2 ⟨rfl, k1⟩
  replace rB := rB.kp k1 (fun f => f)
  replace rK := rK.kp k1 (fun f => f)
  replace h0 := h0.kp k1 (fun _ _ f => f)
  replace k0 := k0.trans k1
  clear k1
  go_wp2_with fail
  refine (HT.out _).mono ?_; rintro e w' ⟨rfl, hw⟩; replace hw := hw.symm; subst hw
  have f0 : 0 ≤ fr := by omega
  have f1 : fr < 4294967296 := by omega
  have ra := fun O => rB.kp (Kp.alloc noB w2 O) (fun f => f)
  have b0 := fun O => (ra O).c0
  have b1 := fun O => (ra O).c1
  have b2 := fun O => (ra O).c2
  clear ra
  go_wp2_with fail
  refine (HO1.out _).mono ?_; rintro e w' ⟨rfl, hw⟩; replace hw := hw.symm; subst hw
  go_wp2_with fail
  refine (HO2.out _).mono ?_; rintro e w' ⟨rfl, hw⟩; replace hw := hw.symm; subst hw
  go_wp2_with fail
  refine (HT2.out _).mono ?_; rintro e w' ⟨rfl, hw⟩; replace hw := hw.symm; subst hw
  go_wp2_with fail
  have ka := Kp.alloc noB w2 (.cells #[.int .u32 fr, .int .u32 p, .int .u32 q, .bool false, .bool true] 145)
  have rZ : RowK (w2.alloc (.cells #[.int .u32 fr, .int .u32 p, .int .u32 q, .bool false, .bool true] 145)) w2.heap.size fr p q false true := (MapKept.heap_alloc w2 _).1
  have sz : (w2.alloc (.cells #[.int .u32 fr, .int .u32 p, .int .u32 q, .bool false, .bool true] 145)).heap.size = w2.heap.size + 1 := by simp
  have ZX : X + 1 < w2.heap.size := rK.lt
  replace rB := rB.kp ka (fun f => f)
  replace rK := rK.kp ka (fun f => f)
  replace h0 := h0.kp ka (fun _ _ f => f)
  replace k0 := k0.trans ka
  clear ka b0 b1 b2
  obtain ⟨Z, hZ⟩ : ∃ Z, Z = w2.heap.size := ⟨_, rfl⟩
  obtain ⟨w3, hgen⟩ : ∃ W, W = w2.alloc (.cells #[.int .u32 fr, .int .u32 p, .int .u32 q, .bool false, .bool true] 145) := ⟨_, rfl⟩
  rw [← hZ] at rZ sz ZX ⊢
  rw [← hgen] at rB rK h0 k0 rZ sz ⊢
  clear hgen hZ
  have kb := Kp.alloc noB w3 (.cells #[.int .i64 5] 3)
  have c5 : (w3.alloc (.cells #[.int .i64 5] 3)).cell? ⟨Z + 1, 0, none⟩ = some (.int .i64 5) := by
    have e0 := (MapKept.heap_alloc w3 (.cells #[.int .i64 5] 3)).1
    rw [sz] at e0
    rw [cell_at e0]; rfl
  refine (HM1.out _ (Z + 1) (h0.kp kb (fun _ _ f => f)) (fun f => by have := nR.out _ f; omega) c5).mono ?_
  rintro e w4 ⟨rfl, h4, k4⟩
  have nB : ¬ R.has X := fun f => by have := nR.out _ f; omega
  have nK : ¬ R.has (X + 1) := fun f => by have := nR.out _ f; omega
  have nZ : ¬ R.has Z := fun f => by have := nR.out _ f; omega
  replace rB := (rB.kp kb (fun f => f)).kp k4 nB
  replace rK := (rK.kp kb (fun f => f)).kp k4 nK
  replace rZ := (rZ.kp kb (fun f => f)).kp k4 nZ
  replace k0 := (kp_no (S := R.has) (k0.trans kb)).trans k4
  clear h0 kb k4 c5 sz
  have X4 : X + 1 < w4.heap.size := rK.lt
  have ra := fun O => rB.kp (Kp.alloc noB w4 O) (fun f => f)
  have b0 := fun O => (ra O).c0
  have b1 := fun O => (ra O).c1
  have b2 := fun O => (ra O).c2
  clear ra
  go_wp2_with fail
  have kc := Kp.alloc noB w4 (.cells #[.int .i64 5] 3)
  have e0 := (MapKept.heap_alloc w4 (.cells #[.int .i64 5] 3)).1
  refine (HM2.out _ w4.heap.size (h4.kp kc (fun _ _ f => f)) (fun f => by have := nR.out _ f; omega) (by rw [cell_at e0]; rfl)).mono ?_
  rintro e w5 ⟨rfl, h5, k5⟩
  replace rK := (rK.kp kc (fun f => f)).kp k5 nK
  replace rZ := (rZ.kp kc (fun f => f)).kp k5 nZ
  replace k0 := (k0.trans (kp_no kc)).trans k5
  clear h4 kc k5 e0 b0 b1 b2 rB X4
  have d0 := rK.c0; have d1 := rK.c1; have d2 := rK.c2; have d3 := rK.c3; have d4 := rK.c4
  have f0 := rK.fz 0; have f1 := rK.fz 1; have f2 := rK.fz 2; have f3 := rK.fz 3; have f4 := rK.fz 4
  have g0 := rZ.c0; have g1 := rZ.c1; have g2 := rZ.c2; have g3 := rZ.c3; have g4 := rZ.c4
  go_wp2
  have z0 := rK.s0 fr
  have z1 := z0.s1 p
  have z2 := z1.s2 q
  have z3 := z2.s3 false
  have z4 := z3.s4 true
  refine bodyPost_ret (v := .tuple #[.agg #[.int .u32 fr, .int .u32 p, .int .u32 q, .bool false, .bool true], .int .i64 (-1)]) ?_ rfl ⟨rfl, ?_, ?_⟩
  · simp [results, Tryz.results79, go_sem, z0.c0, z1.c1, z2.c2, z3.c3, z4.c4]
  · exact h5.kp (Kp.five_in _ (X + 1) _ _ _ _ _) (fun j hj e => by have := nR.out j hj; omega)
  · exact k0.five (by have := HX.out; omega) _ _ _ _ _

set_option maxRecDepth 100000 in
set_option maxHeartbeats 2000000 in
theorem rfind_ff_tf_f (w : World) (R : Rf) (M M1 M2 : Mem) (c l p q o t fr : Int) (wp t2 t4 : Bool) (h : RefAt w R M) (F : FL R M M1 M2 c l p q o t fr true true true false false t4 false) :
    Calls Tryz.prog 79 #[.pointer (some ⟨R.r, 0, none⟩), .int .u32 c, .int .u32 l, .agg #[.bool false, .bool false, .bool wp]] w fun e w' => e = .returned (.tuple #[.agg #[.int .u32 fr, .int .u32 p, .int .u32 q, .bool false, .bool false], .int .i64 (-1)]) ∧ RefAt w' R M2 ∧ Kp R.has w w' := by
  obtain ⟨c0, c1, l0, l1, p0, p1, q0, q1, o0, o1, t0, t1, ep, eq, ef, rp, rq, ho, ht, ho1, ht1, ho2, ht2, mk1, mk2r, mk2w⟩ := F
  have HO1 : Hid _ := ho1
  have HT1 : Hid _ := ht1
  have HO2 : Hid _ := ho2
  have HT2 : Hid _ := ht2
  have HM1 : Hid _ := mk1
  have HM2 : Hid _ := mk2r rfl
  clear ho1 ht1 ho2 ht2 mk1 mk2r mk2w
  have HP : Hid _ := rp
  have HO : Hid _ := ho
  have HQ : Hid _ := rq
  have HT : Hid _ := ht
  clear rp rq ho ht
  have i0 : 0 ≤ l / 4194304 ∧ l / 4194304 < 1024 := by omega
  have cd : 0 ≤ c - c % 4096 ∧ c - c % 4096 ≤ 4294963200 := by omega
  have i1 : 0 ≤ l / 4096 % 1024 ∧ l / 4096 % 1024 < 1024 := by omega
  have od : 0 ≤ o - o % 4096 ∧ o - o % 4096 ≤ 4294963200 := by omega
  obtain ⟨X, hX⟩ : ∃ X, w.heap.size = X := ⟨_, rfl⟩
  have HX : Hid (w.heap.size = X) := hX
  have k0 : Kp noB w ((w.alloc (.cells #[.bool false, .bool false, .bool wp] 132)).alloc (.cells #[.int .u32 0, .int .u32 0, .int .u32 0, .bool false, .bool false] 145)) := (Kp.alloc _ _ _).trans (Kp.alloc _ _ _)
  have rB : RowB ((w.alloc (.cells #[.bool false, .bool false, .bool wp] 132)).alloc (.cells #[.int .u32 0, .int .u32 0, .int .u32 0, .bool false, .bool false] 145)) X false false wp := by
    have e0 := (MapKept.heap_alloc w (.cells #[.bool false, .bool false, .bool wp] 132)).1
    rw [hX] at e0
    exact (Below.heap_alloc _ _ _ (by simp; omega)).trans e0
  have rK : RowK ((w.alloc (.cells #[.bool false, .bool false, .bool wp] 132)).alloc (.cells #[.int .u32 0, .int .u32 0, .int .u32 0, .bool false, .bool false] 145)) (X + 1) 0 0 0 false false := by
    have e0 := (MapKept.heap_alloc (w.alloc (.cells #[.bool false, .bool false, .bool wp] 132)) (.cells #[.int .u32 0, .int .u32 0, .int .u32 0, .bool false, .bool false] 145)).1
    have e1 : (w.alloc (.cells #[.bool false, .bool false, .bool wp] 132)).heap.size = X + 1 := by simp [hX]
    rw [e1] at e0
    exact e0
  have hR : ∀ k, R.has k → k < X := fun k hk => by rw [← hX]; exact h.lt hk
  have h0 : RefAt ((w.alloc (.cells #[.bool false, .bool false, .bool wp] 132)).alloc (.cells #[.int .u32 0, .int .u32 0, .int .u32 0, .bool false, .bool false] 145)) R M := h.kp k0 (fun _ _ f => f)
  have nR : Hid (∀ k, R.has k → k < X) := hR
  clear hX h hR
  go_enter Tryz.func79, Tryz.ntmps79
  go_wp2_with fail
  refine (HP.out _ h0).mono ?_; rintro e w1 ⟨rfl, k1⟩
  replace rB := rB.kp k1 (fun f => f)
  replace rK := rK.kp k1 (fun f => f)
  replace h0 := h0.kp k1 (fun _ _ f => f)
  replace k0 := k0.trans k1
  clear k1
  rw [HX.out]
  go_wp2_with fail
  refine (HO.out _).mono ?_; rintro e w' ⟨rfl, hw⟩; replace hw := hw.symm; subst hw
  go_wp2_with fail
  refine (HQ.out _ h0).mono ?_; rintro e w2 ⟨rfl, k1⟩
  replace rB := rB.kp k1 (fun f => f)
  replace rK := rK.kp k1 (fun f => f)
  replace h0 := h0.kp k1 (fun _ _ f => f)
  replace k0 := k0.trans k1
  clear k1
  go_wp2_with fail
  refine (HT.out _).mono ?_; rintro e w' ⟨rfl, hw⟩; replace hw := hw.symm; subst hw
  have f0 : 0 ≤ fr := by omega
  have f1 : fr < 4294967296 := by omega
  have ra := fun O => rB.kp (Kp.alloc noB w2 O) (fun f => f)
  have b0 := fun O => (ra O).c0
  have b1 := fun O => (ra O).c1
  have b2 := fun O => (ra O).c2
  clear ra
  go_wp2_with fail
  refine (HO1.out _).mono ?_; rintro e w' ⟨rfl, hw⟩; replace hw := hw.symm; subst hw
  go_wp2_with fail
  refine (HT1.out _).mono ?_; rintro e w' ⟨rfl, hw⟩; replace hw := hw.symm; subst hw
  go_wp2_with fail
  refine (HO2.out _).mono ?_; rintro e w' ⟨rfl, hw⟩; replace hw := hw.symm; subst hw
  go_wp2_with fail
  have ka := Kp.alloc noB w2 (.cells #[.int .u32 fr, .int .u32 p, .int .u32 q, .bool false, .bool false] 145)
  have rZ : RowK (w2.alloc (.cells #[.int .u32 fr, .int .u32 p, .int .u32 q, .bool false, .bool false] 145)) w2.heap.size fr p q false false := (MapKept.heap_alloc w2 _).1
  have sz : (w2.alloc (.cells #[.int .u32 fr, .int .u32 p, .int .u32 q, .bool false, .bool false] 145)).heap.size = w2.heap.size + 1 := by simp
  have ZX : X + 1 < w2.heap.size := rK.lt
  replace rB := rB.kp ka (fun f => f)
  replace rK := rK.kp ka (fun f => f)
  replace h0 := h0.kp ka (fun _ _ f => f)
  replace k0 := k0.trans ka
  clear ka b0 b1 b2
  obtain ⟨Z, hZ⟩ : ∃ Z, Z = w2.heap.size := ⟨_, rfl⟩
  obtain ⟨w3, hgen⟩ : ∃ W, W = w2.alloc (.cells #[.int .u32 fr, .int .u32 p, .int .u32 q, .bool false, .bool false] 145) := ⟨_, rfl⟩
  rw [← hZ] at rZ sz ZX ⊢
  rw [← hgen] at rB rK h0 k0 rZ sz ⊢
  clear hgen hZ
  have kb := Kp.alloc noB w3 (.cells #[.int .i64 5] 3)
  have c5 : (w3.alloc (.cells #[.int .i64 5] 3)).cell? ⟨Z + 1, 0, none⟩ = some (.int .i64 5) := by
    have e0 := (MapKept.heap_alloc w3 (.cells #[.int .i64 5] 3)).1
    rw [sz] at e0
    rw [cell_at e0]; rfl
  refine (HM1.out _ (Z + 1) (h0.kp kb (fun _ _ f => f)) (fun f => by have := nR.out _ f; omega) c5).mono ?_
  rintro e w4 ⟨rfl, h4, k4⟩
  have nB : ¬ R.has X := fun f => by have := nR.out _ f; omega
  have nK : ¬ R.has (X + 1) := fun f => by have := nR.out _ f; omega
  have nZ : ¬ R.has Z := fun f => by have := nR.out _ f; omega
  replace rB := (rB.kp kb (fun f => f)).kp k4 nB
  replace rK := (rK.kp kb (fun f => f)).kp k4 nK
  replace rZ := (rZ.kp kb (fun f => f)).kp k4 nZ
  replace k0 := (kp_no (S := R.has) (k0.trans kb)).trans k4
  clear h0 kb k4 c5 sz
  have X4 : X + 1 < w4.heap.size := rK.lt
  have ra := fun O => rB.kp (Kp.alloc noB w4 O) (fun f => f)
  have b0 := fun O => (ra O).c0
  have b1 := fun O => (ra O).c1
  have b2 := fun O => (ra O).c2
  clear ra
  go_wp2_with fail
  have kc := Kp.alloc noB w4 (.cells #[.int .i64 5] 3)
  have e0 := (MapKept.heap_alloc w4 (.cells #[.int .i64 5] 3)).1
  refine (HM2.out _ w4.heap.size (h4.kp kc (fun _ _ f => f)) (fun f => by have := nR.out _ f; omega) (by rw [cell_at e0]; rfl)).mono ?_
  rintro e w5 ⟨rfl, h5, k5⟩
  replace rK := (rK.kp kc (fun f => f)).kp k5 nK
  replace rZ := (rZ.kp kc (fun f => f)).kp k5 nZ
  replace k0 := (k0.trans (kp_no kc)).trans k5
  clear h4 kc k5 e0 b0 b1 b2 rB X4
  have d0 := rK.c0; have d1 := rK.c1; have d2 := rK.c2; have d3 := rK.c3; have d4 := rK.c4
  have f0 := rK.fz 0; have f1 := rK.fz 1; have f2 := rK.fz 2; have f3 := rK.fz 3; have f4 := rK.fz 4
  have g0 := rZ.c0; have g1 := rZ.c1; have g2 := rZ.c2; have g3 := rZ.c3; have g4 := rZ.c4
  go_wp2
  have z0 := rK.s0 fr
  have z1 := z0.s1 p
  have z2 := z1.s2 q
  have z3 := z2.s3 false
  have z4 := z3.s4 false
  refine bodyPost_ret (v := .tuple #[.agg #[.int .u32 fr, .int .u32 p, .int .u32 q, .bool false, .bool false], .int .i64 (-1)]) ?_ rfl ⟨rfl, ?_, ?_⟩
  · simp [results, Tryz.results79, go_sem, z0.c0, z1.c1, z2.c2, z3.c3, z4.c4]
  · exact h5.kp (Kp.five_in _ (X + 1) _ _ _ _ _) (fun j hj e => by have := nR.out j hj; omega)
  · exact k0.five (by have := HX.out; omega) _ _ _ _ _

set_option maxRecDepth 100000 in
set_option maxHeartbeats 2000000 in
theorem rfind_ff_tf_tf (w : World) (R : Rf) (M M1 M2 : Mem) (c l p q o t fr : Int) (wp t2 t4 : Bool) (h : RefAt w R M) (F : FL R M M1 M2 c l p q o t fr true true true false true false false) :
    Calls Tryz.prog 79 #[.pointer (some ⟨R.r, 0, none⟩), .int .u32 c, .int .u32 l, .agg #[.bool false, .bool false, .bool wp]] w fun e w' => e = .returned (.tuple #[.agg #[.int .u32 fr, .int .u32 p, .int .u32 q, .bool false, .bool false], .int .i64 (-1)]) ∧ RefAt w' R M2 ∧ Kp R.has w w' := by
  obtain ⟨c0, c1, l0, l1, p0, p1, q0, q1, o0, o1, t0, t1, ep, eq, ef, rp, rq, ho, ht, ho1, ht1, ho2, ht2, mk1, mk2r, mk2w⟩ := F
  have HO1 : Hid _ := ho1
  have HT1 : Hid _ := ht1
  have HO2 : Hid _ := ho2
  have HT2 : Hid _ := ht2
  have HM1 : Hid _ := mk1
  have HM2 : Hid _ := mk2r rfl
  clear ho1 ht1 ho2 ht2 mk1 mk2r mk2w
  have HP : Hid _ := rp
  have HO : Hid _ := ho
  have HQ : Hid _ := rq
  have HT : Hid _ := ht
  clear rp rq ho ht
  have i0 : 0 ≤ l / 4194304 ∧ l / 4194304 < 1024 := by omega
  have cd : 0 ≤ c - c % 4096 ∧ c - c % 4096 ≤ 4294963200 := by omega
  have i1 : 0 ≤ l / 4096 % 1024 ∧ l / 4096 % 1024 < 1024 := by omega
  have od : 0 ≤ o - o % 4096 ∧ o - o % 4096 ≤ 4294963200 := by omega
  obtain ⟨X, hX⟩ : ∃ X, w.heap.size = X := ⟨_, rfl⟩
  have HX : Hid (w.heap.size = X) := hX
  have k0 : Kp noB w ((w.alloc (.cells #[.bool false, .bool false, .bool wp] 132)).alloc (.cells #[.int .u32 0, .int .u32 0, .int .u32 0, .bool false, .bool false] 145)) := (Kp.alloc _ _ _).trans (Kp.alloc _ _ _)
  have rB : RowB ((w.alloc (.cells #[.bool false, .bool false, .bool wp] 132)).alloc (.cells #[.int .u32 0, .int .u32 0, .int .u32 0, .bool false, .bool false] 145)) X false false wp := by
    have e0 := (MapKept.heap_alloc w (.cells #[.bool false, .bool false, .bool wp] 132)).1
    rw [hX] at e0
    exact (Below.heap_alloc _ _ _ (by simp; omega)).trans e0
  have rK : RowK ((w.alloc (.cells #[.bool false, .bool false, .bool wp] 132)).alloc (.cells #[.int .u32 0, .int .u32 0, .int .u32 0, .bool false, .bool false] 145)) (X + 1) 0 0 0 false false := by
    have e0 := (MapKept.heap_alloc (w.alloc (.cells #[.bool false, .bool false, .bool wp] 132)) (.cells #[.int .u32 0, .int .u32 0, .int .u32 0, .bool false, .bool false] 145)).1
    have e1 : (w.alloc (.cells #[.bool false, .bool false, .bool wp] 132)).heap.size = X + 1 := by simp [hX]
    rw [e1] at e0
    exact e0
  have hR : ∀ k, R.has k → k < X := fun k hk => by rw [← hX]; exact h.lt hk
  have h0 : RefAt ((w.alloc (.cells #[.bool false, .bool false, .bool wp] 132)).alloc (.cells #[.int .u32 0, .int .u32 0, .int .u32 0, .bool false, .bool false] 145)) R M := h.kp k0 (fun _ _ f => f)
  have nR : Hid (∀ k, R.has k → k < X) := hR
  clear hX h hR
  go_enter Tryz.func79, Tryz.ntmps79
  go_wp2_with fail
  refine (HP.out _ h0).mono ?_; rintro e w1 ⟨rfl, k1⟩
  replace rB := rB.kp k1 (fun f => f)
  replace rK := rK.kp k1 (fun f => f)
  replace h0 := h0.kp k1 (fun _ _ f => f)
  replace k0 := k0.trans k1
  clear k1
  rw [HX.out]
  go_wp2_with fail
  refine (HO.out _).mono ?_; rintro e w' ⟨rfl, hw⟩; replace hw := hw.symm; subst hw
  go_wp2_with fail
  refine (HQ.out _ h0).mono ?_; rintro e w2 ⟨rfl, k1⟩
  replace rB := rB.kp k1 (fun f => f)
  replace rK := rK.kp k1 (fun f => f)
  replace h0 := h0.kp k1 (fun _ _ f => f)
  replace k0 := k0.trans k1
  clear k1
  go_wp2_with fail
  refine (HT.out _).mono ?_; rintro e w' ⟨rfl, hw⟩; replace hw := hw.symm; subst hw
  have f0 : 0 ≤ fr := by omega
  have f1 : fr < 4294967296 := by omega
  have ra := fun O => rB.kp (Kp.alloc noB w2 O) (fun f => f)
  have b0 := fun O => (ra O).c0
  have b1 := fun O => (ra O).c1
  have b2 := fun O => (ra O).c2
  clear ra
  go_wp2_with fail
  refine (HO1.out _).mono ?_; rintro e w' ⟨rfl, hw⟩; replace hw := hw.symm; subst hw
  go_wp2_with fail
  refine (HT1.out _).mono ?_; rintro e w' ⟨rfl, hw⟩; replace hw := hw.symm; subst hw
  go_wp2_with fail
  refine (HO2.out _).mono ?_; rintro e w' ⟨rfl, hw⟩; replace hw := hw.symm; subst hw
  go_wp2_with fail
  refine (HT2.out _).mono ?_; rintro e w' ⟨rfl, hw⟩; replace hw := hw.symm; subst hw
  go_wp2_with fail
  have ka := Kp.alloc noB w2 (.cells #[.int .u32 fr, .int .u32 p, .int .u32 q, .bool false, .bool false] 145)
  have rZ : RowK (w2.alloc (.cells #[.int .u32 fr, .int .u32 p, .int .u32 q, .bool false, .bool false] 145)) w2.heap.size fr p q false false := (MapKept.heap_alloc w2 _).1
  have sz : (w2.alloc (.cells #[.int .u32 fr, .int .u32 p, .int .u32 q, .bool false, .bool false] 145)).heap.size = w2.heap.size + 1 := by simp
  have ZX : X + 1 < w2.heap.size := rK.lt
  replace rB := rB.kp ka (fun f => f)
  replace rK := rK.kp ka (fun f => f)
  replace h0 := h0.kp ka (fun _ _ f => f)
  replace k0 := k0.trans ka
  clear ka b0 b1 b2
  obtain ⟨Z, hZ⟩ : ∃ Z, Z = w2.heap.size := ⟨_, rfl⟩
  obtain ⟨w3, hgen⟩ : ∃ W, W = w2.alloc (.cells #[.int .u32 fr, .int .u32 p, .int .u32 q, .bool false, .bool false] 145) := ⟨_, rfl⟩
  rw [← hZ] at rZ sz ZX ⊢
  rw [← hgen] at rB rK h0 k0 rZ sz ⊢
  clear hgen hZ
  have kb := Kp.alloc noB w3 (.cells #[.int .i64 5] 3)
  have c5 : (w3.alloc (.cells #[.int .i64 5] 3)).cell? ⟨Z + 1, 0, none⟩ = some (.int .i64 5) := by
    have e0 := (MapKept.heap_alloc w3 (.cells #[.int .i64 5] 3)).1
    rw [sz] at e0
    rw [cell_at e0]; rfl
  refine (HM1.out _ (Z + 1) (h0.kp kb (fun _ _ f => f)) (fun f => by have := nR.out _ f; omega) c5).mono ?_
  rintro e w4 ⟨rfl, h4, k4⟩
  have nB : ¬ R.has X := fun f => by have := nR.out _ f; omega
  have nK : ¬ R.has (X + 1) := fun f => by have := nR.out _ f; omega
  have nZ : ¬ R.has Z := fun f => by have := nR.out _ f; omega
  replace rB := (rB.kp kb (fun f => f)).kp k4 nB
  replace rK := (rK.kp kb (fun f => f)).kp k4 nK
  replace rZ := (rZ.kp kb (fun f => f)).kp k4 nZ
  replace k0 := (kp_no (S := R.has) (k0.trans kb)).trans k4
  clear h0 kb k4 c5 sz
  have X4 : X + 1 < w4.heap.size := rK.lt
  have ra := fun O => rB.kp (Kp.alloc noB w4 O) (fun f => f)
  have b0 := fun O => (ra O).c0
  have b1 := fun O => (ra O).c1
  have b2 := fun O => (ra O).c2
  clear ra
  go_wp2_with fail
  have kc := Kp.alloc noB w4 (.cells #[.int .i64 5] 3)
  have e0 := (MapKept.heap_alloc w4 (.cells #[.int .i64 5] 3)).1
  refine (HM2.out _ w4.heap.size (h4.kp kc (fun _ _ f => f)) (fun f => by have := nR.out _ f; omega) (by rw [cell_at e0]; rfl)).mono ?_
  rintro e w5 ⟨rfl, h5, k5⟩
  replace rK := (rK.kp kc (fun f => f)).kp k5 nK
  replace rZ := (rZ.kp kc (fun f => f)).kp k5 nZ
  replace k0 := (k0.trans (kp_no kc)).trans k5
  clear h4 kc k5 e0 b0 b1 b2 rB X4
  have d0 := rK.c0; have d1 := rK.c1; have d2 := rK.c2; have d3 := rK.c3; have d4 := rK.c4
  have f0 := rK.fz 0; have f1 := rK.fz 1; have f2 := rK.fz 2; have f3 := rK.fz 3; have f4 := rK.fz 4
  have g0 := rZ.c0; have g1 := rZ.c1; have g2 := rZ.c2; have g3 := rZ.c3; have g4 := rZ.c4
  go_wp2
  have z0 := rK.s0 fr
  have z1 := z0.s1 p
  have z2 := z1.s2 q
  have z3 := z2.s3 false
  have z4 := z3.s4 false
  refine bodyPost_ret (v := .tuple #[.agg #[.int .u32 fr, .int .u32 p, .int .u32 q, .bool false, .bool false], .int .i64 (-1)]) ?_ rfl ⟨rfl, ?_, ?_⟩
  · simp [results, Tryz.results79, go_sem, z0.c0, z1.c1, z2.c2, z3.c3, z4.c4]
  · exact h5.kp (Kp.five_in _ (X + 1) _ _ _ _ _) (fun j hj e => by have := nR.out j hj; omega)
  · exact k0.five (by have := HX.out; omega) _ _ _ _ _

set_option maxRecDepth 100000 in
set_option maxHeartbeats 2000000 in
theorem rfind_ff_tf_tt (w : World) (R : Rf) (M M1 M2 : Mem) (c l p q o t fr : Int) (wp t2 t4 : Bool) (h : RefAt w R M) (F : FL R M M1 M2 c l p q o t fr true true true false true true false) :
    Calls Tryz.prog 79 #[.pointer (some ⟨R.r, 0, none⟩), .int .u32 c, .int .u32 l, .agg #[.bool false, .bool false, .bool wp]] w fun e w' => e = .returned (.tuple #[.agg #[.int .u32 fr, .int .u32 p, .int .u32 q, .bool false, .bool true], .int .i64 (-1)]) ∧ RefAt w' R M2 ∧ Kp R.has w w' := by
  obtain ⟨c0, c1, l0, l1, p0, p1, q0, q1, o0, o1, t0, t1, ep, eq, ef, rp, rq, ho, ht, ho1, ht1, ho2, ht2, mk1, mk2r, mk2w⟩ := F
  have HO1 : Hid _ := ho1
  have HT1 : Hid _ := ht1
  have HO2 : Hid _ := ho2
  have HT2 : Hid _ := ht2
  have HM1 : Hid _ := mk1
  have HM2 : Hid _ := mk2r rfl
  clear ho1 ht1 ho2 ht2 mk1 mk2r mk2w
  have HP : Hid _ := rp
  have HO : Hid _ := ho
  have HQ : Hid _ := rq
  have HT : Hid _ := ht
  clear rp rq ho ht
  have i0 : 0 ≤ l / 4194304 ∧ l / 4194304 < 1024 := by omega
  have cd : 0 ≤ c - c % 4096 ∧ c - c % 4096 ≤ 4294963200 := by omega
  have i1 : 0 ≤ l / 4096 % 1024 ∧ l / 4096 % 1024 < 1024 := by omega
  have od : 0 ≤ o - o % 4096 ∧ o - o % 4096 ≤ 4294963200 := by omega
  obtain ⟨X, hX⟩ : ∃ X, w.heap.size = X := ⟨_, rfl⟩
  have HX : Hid (w.heap.size = X) := hX
  have k0 : Kp noB w ((w.alloc (.cells #[.bool false, .bool false, .bool wp] 132)).alloc (.cells #[.int .u32 0, .int .u32 0, .int .u32 0, .bool false, .bool false] 145)) := (Kp.alloc _ _ _).trans (Kp.alloc _ _ _)
  have rB : RowB ((w.alloc (.cells #[.bool false, .bool false, .bool wp] 132)).alloc (.cells #[.int .u32 0, .int .u32 0, .int .u32 0, .bool false, .bool false] 145)) X false false wp := by
    have e0 := (MapKept.heap_alloc w (.cells #[.bool false, .bool false, .bool wp] 132)).1
    rw [hX] at e0
    exact (Below.heap_alloc _ _ _ (by simp; omega)).trans e0
  have rK : RowK ((w.alloc (.cells #[.bool false, .bool false, .bool wp] 132)).alloc (.cells #[.int .u32 0, .int .u32 0, .int .u32 0, .bool false, .bool false] 145)) (X + 1) 0 0 0 false false := by
    have e0 := (MapKept.heap_alloc (w.alloc (.cells #[.bool false, .bool false, .bool wp] 132)) (.cells #[.int .u32 0, .int .u32 0, .int .u32 0, .bool false, .bool false] 145)).1
    have e1 : (w.alloc (.cells #[.bool false, .bool false, .bool wp] 132)).heap.size = X + 1 := by simp [hX]
    rw [e1] at e0
    exact e0
  have hR : ∀ k, R.has k → k < X := fun k hk => by rw [← hX]; exact h.lt hk
  have h0 : RefAt ((w.alloc (.cells #[.bool false, .bool false, .bool wp] 132)).alloc (.cells #[.int .u32 0, .int .u32 0, .int .u32 0, .bool false, .bool false] 145)) R M := h.kp k0 (fun _ _ f => f)
  have nR : Hid (∀ k, R.has k → k < X) := hR
  clear hX h hR
  go_enter Tryz.func79, Tryz.ntmps79
  go_wp2_with fail
  refine (HP.out _ h0).mono ?_; rintro e w1 ⟨rfl, k1⟩
  replace rB := rB.kp k1 (fun f => f)
  replace rK := rK.kp k1 (fun f => f)
  replace h0 := h0.kp k1 (fun _ _ f => f)
  replace k0 := k0.trans k1
  clear k1
  rw [HX.out]
  go_wp2_with fail
  refine (HO.out _).mono ?_; rintro e w' ⟨rfl, hw⟩; replace hw := hw.symm; subst hw
  go_wp2_with fail
  refine (HQ.out _ h0).mono ?_; rintro e w2 ⟨rfl, k1⟩
  replace rB := rB.kp k1 (fun f => f)
  replace rK := rK.kp k1 (fun f => f)
  replace h0 := h0.kp k1 (fun _ _ f => f)
  replace k0 := k0.trans k1
  clear k1
  go_wp2_with fail
  refine (HT.out _).mono ?_; rintro e w' ⟨rfl, hw⟩; replace hw := hw.symm; subst hw
  have f0 : 0 ≤ fr := by omega
  have f1 : fr < 4294967296 := by omega
  have ra := fun O => rB.kp (Kp.alloc noB w2 O) (fun f => f)
  have b0 := fun O => (ra O).c0
  have b1 := fun O => (ra O).c1
  have b2 := fun O => (ra O).c2
  clear ra
  go_wp2_with fail
  refine (HO1.out _).mono ?_; rintro e w' ⟨rfl, hw⟩; replace hw := hw.symm; subst hw
  go_wp2_with fail
  refine (HT1.out _).mono ?_; rintro e w' ⟨rfl, hw⟩; replace hw := hw.symm; subst hw
  go_wp2_with fail
  refine (HO2.out _).mono ?_; rintro e w' ⟨rfl, hw⟩; replace hw := hw.symm; subst hw
  go_wp2_with fail
  refine (HT2.out _).mono ?_; rintro e w' ⟨rfl, hw⟩; replace hw := hw.symm; subst hw
  go_wp2_with fail
  have ka := Kp.alloc noB w2 (.cells #[.int .u32 fr, .int .u32 p, .int .u32 q, .bool false, .bool true] 145)
  have rZ : RowK (w2.alloc (.cells #[.int .u32 fr, .int .u32 p, .int .u32 q, .bool false, .bool true] 145)) w2.heap.size fr p q false true := (MapKept.heap_alloc w2 _).1
  have sz : (w2.alloc (.cells #[.int .u32 fr, .int .u32 p, .int .u32 q, .bool false, .bool true] 145)).heap.size = w2.heap.size + 1 := by simp
  have ZX : X + 1 < w2.heap.size := rK.lt
  replace rB := rB.kp ka (fun f => f)
  replace rK := rK.kp ka (fun f => f)
  replace h0 := h0.kp ka (fun _ _ f => f)
  replace k0 := k0.trans ka
  clear ka b0 b1 b2
  obtain ⟨Z, hZ⟩ : ∃ Z, Z = w2.heap.size := ⟨_, rfl⟩
  obtain ⟨w3, hgen⟩ : ∃ W, W = w2.alloc (.cells #[.int .u32 fr, .int .u32 p, .int .u32 q, .bool false, .bool true] 145) := ⟨_, rfl⟩
  rw [← hZ] at rZ sz ZX ⊢
  rw [← hgen] at rB rK h0 k0 rZ sz ⊢
  clear hgen hZ
  have kb := Kp.alloc noB w3 (.cells #[.int .i64 5] 3)
  have c5 : (w3.alloc (.cells #[.int .i64 5] 3)).cell? ⟨Z + 1, 0, none⟩ = some (.int .i64 5) := by
    have e0 := (MapKept.heap_alloc w3 (.cells #[.int .i64 5] 3)).1
    rw [sz] at e0
    rw [cell_at e0]; rfl
  refine (HM1.out _ (Z + 1) (h0.kp kb (fun _ _ f => f)) (fun f => by have := nR.out _ f; omega) c5).mono ?_
  rintro e w4 ⟨rfl, h4, k4⟩
  have nB : ¬ R.has X := fun f => by have := nR.out _ f; omega
  have nK : ¬ R.has (X + 1) := fun f => by have := nR.out _ f; omega
  have nZ : ¬ R.has Z := fun f => by have := nR.out _ f; omega
  replace rB := (rB.kp kb (fun f => f)).kp k4 nB
  replace rK := (rK.kp kb (fun f => f)).kp k4 nK
  replace rZ := (rZ.kp kb (fun f => f)).kp k4 nZ
  replace k0 := (kp_no (S := R.has) (k0.trans kb)).trans k4
  clear h0 kb k4 c5 sz
  have X4 : X + 1 < w4.heap.size := rK.lt
  have ra := fun O => rB.kp (Kp.alloc noB w4 O) (fun f => f)
  have b0 := fun O => (ra O).c0
  have b1 := fun O => (ra O).c1
  have b2 := fun O => (ra O).c2
  clear ra
  go_wp2_with fail
  have kc := Kp.alloc noB w4 (.cells #[.int .i64 5] 3)
  have e0 := (MapKept.heap_alloc w4 (.cells #[.int .i64 5] 3)).1
  refine (HM2.out _ w4.heap.size (h4.kp kc (fun _ _ f => f)) (fun f => by have := nR.out _ f; omega) (by rw [cell_at e0]; rfl)).mono ?_
  rintro e w5 ⟨rfl, h5, k5⟩
  replace rK := (rK.kp kc (fun f => f)).kp k5 nK
  replace rZ := (rZ.kp kc (fun f => f)).kp k5 nZ
  replace k0 := (k0.trans (kp_no kc)).trans k5
  clear h4 kc k5 e0 b0 b1 b2 rB X4
  have d0 := rK.c0; have d1 := rK.c1; have d2 := rK.c2; have d3 := rK.c3; have d4 := rK.c4
  have f0 := rK.fz 0; have f1 := rK.fz 1; have f2 := rK.fz 2; have f3 := rK.fz 3; have f4 := rK.fz 4
  have g0 := rZ.c0; have g1 := rZ.c1; have g2 := rZ.c2; have g3 := rZ.c3; have g4 := rZ.c4
  go_wp2
  have z0 := rK.s0 fr
  have z1 := z0.s1 p
  have z2 := z1.s2 q
  have z3 := z2.s3 false
  have z4 := z3.s4 true
  refine bodyPost_ret (v := .tuple #[.agg #[.int .u32 fr, .int .u32 p, .int .u32 q, .bool false, .bool true], .int .i64 (-1)]) ?_ rfl ⟨rfl, ?_, ?_⟩
  · simp [results, Tryz.results79, go_sem, z0.c0, z1.c1, z2.c2, z3.c3, z4.c4]
  · exact h5.kp (Kp.five_in _ (X + 1) _ _ _ _ _) (fun j hj e => by have := nR.out j hj; omega)
  · exact k0.five (by have := HX.out; omega) _ _ _ _ _

set_option maxRecDepth 100000 in
set_option maxHeartbeats 2000000 in
theorem rfind_ff_tt_f (w : World) (R : Rf) (M M1 M2 : Mem) (c l p q o t fr : Int) (wp t2 t4 : Bool) (h : RefAt w R M) (F : FL R M M1 M2 c l p q o t fr true true true true false t4 false) :
    Calls Tryz.prog 79 #[.pointer (some ⟨R.r, 0, none⟩), .int .u32 c, .int .u32 l, .agg #[.bool false, .bool false, .bool wp]] w fun e w' => e = .returned (.tuple #[.agg #[.int .u32 fr, .int .u32 p, .int .u32 q, .bool true, .bool false], .int .i64 (-1)]) ∧ RefAt w' R M2 ∧ Kp R.has w w' := by
  obtain ⟨c0, c1, l0, l1, p0, p1, q0, q1, o0, o1, t0, t1, ep, eq, ef, rp, rq, ho, ht, ho1, ht1, ho2, ht2, mk1, mk2r, mk2w⟩ := F
  have HO1 : Hid _ := ho1
  have HT1 : Hid _ := ht1
  have HO2 : Hid _ := ho2
  have HT2 : Hid _ := ht2
  have HM1 : Hid _ := mk1
  have HM2 : Hid _ := mk2r rfl
  clear ho1 ht1 ho2 ht2 mk1 mk2r mk2w
  have HP : Hid _ := rp
  have HO : Hid _ := ho
  have HQ : Hid _ := rq
  have HT : Hid _ := ht
  clear rp rq ho ht
  have i0 : 0 ≤ l / 4194304 ∧ l / 4194304 < 1024 := by omega
  have cd : 0 ≤ c - c % 4096 ∧ c - c % 4096 ≤ 4294963200 := by omega
  have i1 : 0 ≤ l / 4096 % 1024 ∧ l / 4096 % 1024 < 1024 := by omega
  have od : 0 ≤ o - o % 4096 ∧ o - o % 4096 ≤ 4294963200 := by omega
  obtain ⟨X, hX⟩ : ∃ X, w.heap.size = X := ⟨_, rfl⟩
  have HX : Hid (w.heap.size = X) := hX
  have k0 : Kp noB w ((w.alloc (.cells #[.bool false, .bool false, .bool wp] 132)).alloc (.cells #[.int .u32 0, .int .u32 0, .int .u32 0, .bool false, .bool false] 145)) := (Kp.alloc _ _ _).trans (Kp.alloc _ _ _)
  have rB : RowB ((w.alloc (.cells #[.bool false, .bool false, .bool wp] 132)).alloc (.cells #[.int .u32 0, .int .u32 0, .int .u32 0, .bool false, .bool false] 145)) X false false wp := by
    have e0 := (MapKept.heap_alloc w (.cells #[.bool false, .bool false, .bool wp] 132)).1
    rw [hX] at e0
    exact (Below.heap_alloc _ _ _ (by simp; omega)).trans e0
  have rK : RowK ((w.alloc (.cells #[.bool false, .bool false, .bool wp] 132)).alloc (.cells #[.int .u32 0, .int .u32 0, .int .u32 0, .bool false, .bool false] 145)) (X + 1) 0 0 0 false false := by
    have e0 := (MapKept.heap_alloc (w.alloc (.cells #[.bool false, .bool false, .bool wp] 132)) (.cells #[.int .u32 0, .int .u32 0, .int .u32 0, .bool false, .bool false] 145)).1
    have e1 : (w.alloc (.cells #[.bool false, .bool false, .bool wp] 132)).heap.size = X + 1 := by simp [hX]
    rw [e1] at e0
    exact e0
  have hR : ∀ k, R.has k → k < X := fun k hk => by rw [← hX]; exact h.lt hk
  have h0 : RefAt ((w.alloc (.cells #[.bool false, .bool false, .bool wp] 132)).alloc (.cells #[.int .u32 0, .int .u32 0, .int .u32 0, .bool false, .bool false] 145)) R M := h.kp k0 (fun _ _ f => f)
  have nR : Hid (∀ k, R.has k → k < X) := hR
  clear hX h hR
  go_enter Tryz.func79, Tryz.ntmps79
  go_wp2_with fail
  refine (HP.out _ h0).mono ?_; rintro e w1 ⟨rfl, k1⟩
  replace rB := rB.kp k1 (fun f => f)
  replace rK := rK.kp k1 (fun f => f)
  replace h0 := h0.kp k1 (fun _ _ f => f)
  replace k0 := k0.trans k1
  clear k1
  rw [HX.out]
  go_wp2_with fail
  refine (HO.out _).mono ?_; rintro e w' ⟨rfl, hw⟩; replace hw := hw.symm; subst hw
  go_wp2_with fail
  refine (HQ.out _ h0).mono ?_; rintro e w2 ⟨rfl, k1⟩
  replace rB := rB.kp k1 (fun f => f)
  replace rK := rK.kp k1 (fun f => f)
  replace h0 := h0.kp k1 (fun _ _ f => f)
  replace k0 := k0.trans k1
  clear k1
  go_wp2_with fail
  refine (HT.out _).mono ?_; rintro e w' ⟨rfl, hw⟩; replace hw := hw.symm; subst hw
  have f0 : 0 ≤ fr := by omega
  have f1 : fr < 4294967296 := by omega
  have ra := fun O => rB.kp (Kp.alloc noB w2 O) (fun f => f)
  have b0 := fun O => (ra O).c0
  have b1 := fun O => (ra O).c1
  have b2 := fun O => (ra O).c2
  clear ra
  go_wp2_with fail
  refine (HO1.out _).mono ?_; rintro e w' ⟨rfl, hw⟩; replace hw := hw.symm; subst hw
  go_wp2_with fail
  refine (HT1.out _).mono ?_; rintro e w' ⟨rfl, hw⟩; replace hw := hw.symm; subst hw
  go_wp2_with fail
  refine (HO2.out _).mono ?_; rintro e w' ⟨rfl, hw⟩; replace hw := hw.symm; subst hw
  go_wp2_with fail
  have ka := Kp.alloc noB w2 (.cells #[.int .u32 fr, .int .u32 p, .int .u32 q, .bool true, .bool false] 145)
  have rZ : RowK (w2.alloc (.cells #[.int .u32 fr, .int .u32 p, .int .u32 q, .bool true, .bool false] 145)) w2.heap.size fr p q true false := (MapKept.heap_alloc w2 _).1
  have sz : (w2.alloc (.cells #[.int .u32 fr, .int .u32 p, .int .u32 q, .bool true, .bool false] 145)).heap.size = w2.heap.size + 1 := by simp
  have ZX : X + 1 < w2.heap.size := rK.lt
  replace rB := rB.kp ka (fun f => f)
  replace rK := rK.kp ka (fun f => f)
  replace h0 := h0.kp ka (fun _ _ f => f)
  replace k0 := k0.trans ka
  clear ka b0 b1 b2
  obtain ⟨Z, hZ⟩ : ∃ Z, Z = w2.heap.size := ⟨_, rfl⟩
  obtain ⟨w3, hgen⟩ : ∃ W, W = w2.alloc (.cells #[.int .u32 fr, .int .u32 p, .int .u32 q, .bool true, .bool false] 145) := ⟨_, rfl⟩
  rw [← hZ] at rZ sz ZX ⊢
  rw [← hgen] at rB rK h0 k0 rZ sz ⊢
  clear hgen hZ
  have kb := Kp.alloc noB w3 (.cells #[.int .i64 5] 3)
  have c5 : (w3.alloc (.cells #[.int .i64 5] 3)).cell? ⟨Z + 1, 0, none⟩ = some (.int .i64 5) := by
    have e0 := (MapKept.heap_alloc w3 (.cells #[.int .i64 5] 3)).1
    rw [sz] at e0
    rw [cell_at e0]; rfl
  refine (HM1.out _ (Z + 1) (h0.kp kb (fun _ _ f => f)) (fun f => by have := nR.out _ f; omega) c5).mono ?_
  rintro e w4 ⟨rfl, h4, k4⟩
  have nB : ¬ R.has X := fun f => by have := nR.out _ f; omega
  have nK : ¬ R.has (X + 1) := fun f => by have := nR.out _ f; omega
  have nZ : ¬ R.has Z := fun f => by have := nR.out _ f; omega
  replace rB := (rB.kp kb (fun f => f)).kp k4 nB
  replace rK := (rK.kp kb (fun f => f)).kp k4 nK
  replace rZ := (rZ.kp kb (fun f => f)).kp k4 nZ
  replace k0 := (kp_no (S := R.has) (k0.trans kb)).trans k4
  clear h0 kb k4 c5 sz
  have X4 : X + 1 < w4.heap.size := rK.lt
  have ra := fun O => rB.kp (Kp.alloc noB w4 O) (fun f => f)
  have b0 := fun O => (ra O).c0
  have b1 := fun O => (ra O).c1
  have b2 := fun O => (ra O).c2
  clear ra
  go_wp2_with fail
  have kc := Kp.alloc noB w4 (.cells #[.int .i64 5] 3)
  have e0 := (MapKept.heap_alloc w4 (.cells #[.int .i64 5] 3)).1
  refine (HM2.out _ w4.heap.size (h4.kp kc (fun _ _ f => f)) (fun f => by have := nR.out _ f; omega) (by rw [cell_at e0]; rfl)).mono ?_
  rintro e w5 ⟨rfl, h5, k5⟩
  replace rK := (rK.kp kc (fun f => f)).kp k5 nK
  replace rZ := (rZ.kp kc (fun f => f)).kp k5 nZ
  replace k0 := (k0.trans (kp_no kc)).trans k5
  clear h4 kc k5 e0 b0 b1 b2 rB X4
  have d0 := rK.c0; have d1 := rK.c1; have d2 := rK.c2; have d3 := rK.c3; have d4 := rK.c4
  have f0 := rK.fz 0; have f1 := rK.fz 1; have f2 := rK.fz 2; have f3 := rK.fz 3; have f4 := rK.fz 4
  have g0 := rZ.c0; have g1 := rZ.c1; have g2 := rZ.c2; have g3 := rZ.c3; have g4 := rZ.c4
  go_wp2
  have z0 := rK.s0 fr
  have z1 := z0.s1 p
  have z2 := z1.s2 q
  have z3 := z2.s3 true
  have z4 := z3.s4 false
  refine bodyPost_ret (v := .tuple #[.agg #[.int .u32 fr, .int .u32 p, .int .u32 q, .bool true, .bool false], .int .i64 (-1)]) ?_ rfl ⟨rfl, ?_, ?_⟩
  · simp [results, Tryz.results79, go_sem, z0.c0, z1.c1, z2.c2, z3.c3, z4.c4]
  · exact h5.kp (Kp.five_in _ (X + 1) _ _ _ _ _) (fun j hj e => by have := nR.out j hj; omega)
  · exact k0.five (by have := HX.out; omega) _ _ _ _ _

set_option maxRecDepth 100000 in
set_option maxHeartbeats 2000000 in
theorem rfind_ff_tt_tf (w : World) (R : Rf) (M M1 M2 : Mem) (c l p q o t fr : Int) (wp t2 t4 : Bool) (h : RefAt w R M) (F : FL R M M1 M2 c l p q o t fr true true true true true false false) :
    Calls Tryz.prog 79 #[.pointer (some ⟨R.r, 0, none⟩), .int .u32 c, .int .u32 l, .agg #[.bool false, .bool false, .bool wp]] w fun e w' => e = .returned (.tuple #[.agg #[.int .u32 fr, .int .u32 p, .int .u32 q, .bool true, .bool false], .int .i64 (-1)]) ∧ RefAt w' R M2 ∧ Kp R.has w w' := by
  obtain ⟨c0, c1, l0, l1, p0, p1, q0, q1, o0, o1, t0, t1, ep, eq, ef, rp, rq, ho, ht, ho1, ht1, ho2, ht2, mk1, mk2r, mk2w⟩ := F
  have HO1 : Hid _ := ho1
  have HT1 : Hid _ := ht1
  have HO2 : Hid _ := ho2
  have HT2 : Hid _ := ht2
  have HM1 : Hid _ := mk1
  have HM2 : Hid _ := mk2r rfl
  clear ho1 ht1 ho2 ht2 mk1 mk2r mk2w
  have HP : Hid _ := rp
  have HO : Hid _ := ho
  have HQ : Hid _ := rq
  have HT : Hid _ := ht
  clear rp rq ho ht
  have i0 : 0 ≤ l / 4194304 ∧ l / 4194304 < 1024 := by omega
  have cd : 0 ≤ c - c % 4096 ∧ c - c % 4096 ≤ 4294963200 := by omega
  have i1 : 0 ≤ l / 4096 % 1024 ∧ l / 4096 % 1024 < 1024 := by omega
  have od : 0 ≤ o - o % 4096 ∧ o - o % 4096 ≤ 4294963200 := by omega
  obtain ⟨X, hX⟩ : ∃ X, w.heap.size = X := ⟨_, rfl⟩
  have HX : Hid (w.heap.size = X) := hX
  have k0 : Kp noB w ((w.alloc (.cells #[.bool false, .bool false, .bool wp] 132)).alloc (.cells #[.int .u32 0, .int .u32 0, .int .u32 0, .bool false, .bool false] 145)) := (Kp.alloc _ _ _).trans (Kp.alloc _ _ _)
  have rB : RowB ((w.alloc (.cells #[.bool false, .bool false, .bool wp] 132)).alloc (.cells #[.int .u32 0, .int .u32 0, .int .u32 0, .bool false, .bool false] 145)) X false false wp := by
    have e0 := (MapKept.heap_alloc w (.cells #[.bool false, .bool false, .bool wp] 132)).1
    rw [hX] at e0
    exact (Below.heap_alloc _ _ _ (by simp; omega)).trans e0
  have rK : RowK ((w.alloc (.cells #[.bool false, .bool false, .bool wp] 132)).alloc (.cells #[.int .u32 0, .int .u32 0, .int .u32 0, .bool false, .bool false] 145)) (X + 1) 0 0 0 false false := by
    have e0 := (MapKept.heap_alloc (w.alloc (.cells #[.bool false, .bool false, .bool wp] 132)) (.cells #[.int .u32 0, .int .u32 0, .int .u32 0, .bool false, .bool false] 145)).1
    have e1 : (w.alloc (.cells #[.bool false, .bool false, .bool wp] 132)).heap.size = X + 1 := by simp [hX]
    rw [e1] at e0
    exact e0
  have hR : ∀ k, R.has k → k < X := fun k hk => by rw [← hX]; exact h.lt hk
  have h0 : RefAt ((w.alloc (.cells #[.bool false, .bool false, .bool wp] 132)).alloc (.cells #[.int .u32 0, .int .u32 0, .int .u32 0, .bool false, .bool false] 145)) R M := h.kp k0 (fun _ _ f => f)
  have nR : Hid (∀ k, R.has k → k < X) := hR
  clear hX h hR
  go_enter Tryz.func79, Tryz.ntmps79
  go_wp2_with fail
  refine (HP.out _ h0).mono ?_; rintro e w1 ⟨rfl, k1⟩
  replace rB := rB.kp k1 (fun f => f)
  replace rK := rK.kp k1 (fun f => f)
  replace h0 := h0.kp k1 (fun _ _ f => f)
  replace k0 := k0.trans k1
  clear k1
  rw [HX.out]
  go_wp2_with fail
  refine (HO.out _).mono ?_; rintro e w' ⟨rfl, hw⟩; replace hw := hw.symm; subst hw
  go_wp2_with fail
  refine (HQ.out _ h0).mono ?_; rintro e w2 ⟨rfl, k1⟩
  replace rB := rB.kp k1 (fun f => f)
  replace rK := rK.kp k1 (fun f => f)
  replace h0 := h0.kp k1 (fun _ _ f => f)
  replace k0 := k0.trans k1
  clear k1
  go_wp2_with fail
  refine (HT.out _).mono ?_; rintro e w' ⟨rfl, hw⟩; replace hw := hw.symm; subst hw
  have f0 : 0 ≤ fr := by omega
  have f1 : fr < 4294967296 := by omega
  have ra := fun O => rB.kp (Kp.alloc noB w2 O) (fun f => f)
  have b0 := fun O => (ra O).c0
  have b1 := fun O => (ra O).c1
  have b2 := fun O => (ra O).c2
  clear ra
  go_wp2_with fail
  refine (HO1.out _).mono ?_; rintro e w' ⟨rfl, hw⟩; replace hw := hw.symm; subst hw
  go_wp2_with fail
  refine (HT1.out _).mono ?_; rintro e w' ⟨rfl, hw⟩; replace hw := hw.symm; subst hw
  go_wp2_with fail
  refine (HO2.out _).mono ?_; rintro e w' ⟨rfl, hw⟩; replace hw := hw.symm; subst hw
  go_wp2_with fail
  refine (HT2.out _).mono ?_; rintro e w' ⟨rfl, hw⟩; replace hw := hw.symm; subst hw
  go_wp2_with fail
  have ka := Kp.alloc noB w2 (.cells #[.int .u32 fr, .int .u32 p, .int .u32 q, .bool true, .bool false] 145)
  have rZ : RowK (w2.alloc (.cells #[.int .u32 fr, .int .u32 p, .int .u32 q, .bool true, .bool false] 145)) w2.heap.size fr p q true false := (MapKept.heap_alloc w2 _).1
  have sz : (w2.alloc (.cells #[.int .u32 fr, .int .u32 p, .int .u32 q, .bool true, .bool false] 145)).heap.size = w2.heap.size + 1 := by simp
  have ZX : X + 1 < w2.heap.size := rK.lt
  replace rB := rB.kp ka (fun f => f)
  replace rK := rK.kp ka (fun f => f)
  replace h0 := h0.kp ka (fun _ _ f => f)
  replace k0 := k0.trans ka
  clear ka b0 b1 b2
  obtain ⟨Z, hZ⟩ : ∃ Z, Z = w2.heap.size := ⟨_, rfl⟩
  obtain ⟨w3, hgen⟩ : ∃ W, W = w2.alloc (.cells #[.int .u32 fr, .int .u32 p, .int .u32 q, .bool true, .bool false] 145) := ⟨_, rfl⟩
  rw [← hZ] at rZ sz ZX ⊢
  rw [← hgen] at rB rK h0 k0 rZ sz ⊢
  clear hgen hZ
  have kb := Kp.alloc noB w3 (.cells #[.int .i64 5] 3)
  have c5 : (w3.alloc (.cells #[.int .i64 5] 3)).cell? ⟨Z + 1, 0, none⟩ = some (.int .i64 5) := by
    have e0 := (MapKept.heap_alloc w3 (.cells #[.int .i64 5] 3)).1
    rw [sz] at e0
    rw [cell_at e0]; rfl
  refine (HM1.out _ (Z + 1) (h0.kp kb (fun _ _ f => f)) (fun f => by have := nR.out _ f; omega) c5).mono ?_
  rintro e w4 ⟨rfl, h4, k4⟩
  have nB : ¬ R.has X := fun f => by have := nR.out _ f; omega
  have nK : ¬ R.has (X + 1) := fun f => by have := nR.out _ f; omega
  have nZ : ¬ R.has Z := fun f => by have := nR.out _ f; omega
  replace rB := (rB.kp kb (fun f => f)).kp k4 nB
  replace rK := (rK.kp kb (fun f => f)).kp k4 nK
  replace rZ := (rZ.kp kb (fun f => f)).kp k4 nZ
  replace k0 := (kp_no (S := R.has) (k0.trans kb)).trans k4
  clear h0 kb k4 c5 sz
  have X4 : X + 1 < w4.heap.size := rK.lt
  have ra := fun O => rB.kp (Kp.alloc noB w4 O) (fun f => f)
  have b0 := fun O => (ra O).c0
  have b1 := fun O => (ra O).c1
  have b2 := fun O => (ra O).c2
  clear ra
  go_wp2_with fail
  have kc := Kp.alloc noB w4 (.cells #[.int .i64 5] 3)
  have e0 := (MapKept.heap_alloc w4 (.cells #[.int .i64 5] 3)).1
  refine (HM2.out _ w4.heap.size (h4.kp kc (fun _ _ f => f)) (fun f => by have := nR.out _ f; omega) (by rw [cell_at e0]; rfl)).mono ?_
  rintro e w5 ⟨rfl, h5, k5⟩
  replace rK := (rK.kp kc (fun f => f)).kp k5 nK
  replace rZ := (rZ.kp kc (fun f => f)).kp k5 nZ
  replace k0 := (k0.trans (kp_no kc)).trans k5
  clear h4 kc k5 e0 b0 b1 b2 rB X4
  have d0 := rK.c0; have d1 := rK.c1; have d2 := rK.c2; have d3 := rK.c3; have d4 := rK.c4
  have f0 := rK.fz 0; have f1 := rK.fz 1; have f2 := rK.fz 2; have f3 := rK.fz 3; have f4 := rK.fz 4
  have g0 := rZ.c0; have g1 := rZ.c1; have g2 := rZ.c2; have g3 := rZ.c3; have g4 := rZ.c4
  go_wp2
  have z0 := rK.s0 fr
  have z1 := z0.s1 p
  have z2 := z1.s2 q
  have z3 := z2.s3 true
  have z4 := z3.s4 false
  refine bodyPost_ret (v := .tuple #[.agg #[.int .u32 fr, .int .u32 p, .int .u32 q, .bool true, .bool false], .int .i64 (-1)]) ?_ rfl ⟨rfl, ?_, ?_⟩
  · simp [results, Tryz.results79, go_sem, z0.c0, z1.c1, z2.c2, z3.c3, z4.c4]
  · exact h5.kp (Kp.five_in _ (X + 1) _ _ _ _ _) (fun j hj e => by have := nR.out j hj; omega)
  · exact k0.five (by have := HX.out; omega) _ _ _ _ _

set_option maxRecDepth 100000 in
set_option maxHeartbeats 2000000 in
theorem rfind_ff_tt_tt (w : World) (R : Rf) (M M1 M2 : Mem) (c l p q o t fr : Int) (wp t2 t4 : Bool) (h : RefAt w R M) (F : FL R M M1 M2 c l p q o t fr true true true true true true false) :
    Calls Tryz.prog 79 #[.pointer (some ⟨R.r, 0, none⟩), .int .u32 c, .int .u32 l, .agg #[.bool false, .bool false, .bool wp]] w fun e w' => e = .returned (.tuple #[.agg #[.int .u32 fr, .int .u32 p, .int .u32 q, .bool true, .bool true], .int .i64 (-1)]) ∧ RefAt w' R M2 ∧ Kp R.has w w' := by
  obtain ⟨c0, c1, l0, l1, p0, p1, q0, q1, o0, o1, t0, t1, ep, eq, ef, rp, rq, ho, ht, ho1, ht1, ho2, ht2, mk1, mk2r, mk2w⟩ := F
  have HO1 : Hid _ := ho1
  have HT1 : Hid _ := ht1
  have HO2 : Hid _ := ho2
  have HT2 : Hid _ := ht2
  have HM1 : Hid _ := mk1
  have HM2 : Hid _ := mk2r rfl
  clear ho1 ht1 ho2 ht2 mk1 mk2r mk2w
  have HP : Hid _ := rp
  have HO : Hid _ := ho
  have HQ : Hid _ := rq
  have HT : Hid _ := ht
  clear rp rq ho ht
  have i0 : 0 ≤ l / 4194304 ∧ l / 4194304 < 1024 := by omega
  have cd : 0 ≤ c - c % 4096 ∧ c - c % 4096 ≤ 4294963200 := by omega
  have i1 : 0 ≤ l / 4096 % 1024 ∧ l / 4096 % 1024 < 1024 := by omega
  have od : 0 ≤ o - o % 4096 ∧ o - o % 4096 ≤ 4294963200 := by omega
  obtain ⟨X, hX⟩ : ∃ X, w.heap.size = X := ⟨_, rfl⟩
  have HX : Hid (w.heap.size = X) := hX
  have k0 : Kp noB w ((w.alloc (.cells #[.bool false, .bool false, .bool wp] 132)).alloc (.cells #[.int .u32 0, .int .u32 0, .int .u32 0, .bool false, .bool false] 145)) := (Kp.alloc _ _ _).trans (Kp.alloc _ _ _)
  have rB : RowB ((w.alloc (.cells #[.bool false, .bool false, .bool wp] 132)).alloc (.cells #[.int .u32 0, .int .u32 0, .int .u32 0, .bool false, .bool false] 145)) X false false wp := by
    have e0 := (MapKept.heap_alloc w (.cells #[.bool false, .bool false, .bool wp] 132)).1
    rw [hX] at e0
    exact (Below.heap_alloc _ _ _ (by simp; omega)).trans e0
  have rK : RowK ((w.alloc (.cells #[.bool false, .bool false, .bool wp] 132)).alloc (.cells #[.int .u32 0, .int .u32 0, .int .u32 0, .bool false, .bool false] 145)) (X + 1) 0 0 0 false false := by
    have e0 := (MapKept.heap_alloc (w.alloc (.cells #[.bool false, .bool false, .bool wp] 132)) (.cells #[.int .u32 0, .int .u32 0, .int .u32 0, .bool false, .bool false] 145)).1
    have e1 : (w.alloc (.cells #[.bool false, .bool false, .bool wp] 132)).heap.size = X + 1 := by simp [hX]
    rw [e1] at e0
    exact e0
  have hR : ∀ k, R.has k → k < X := fun k hk => by rw [← hX]; exact h.lt hk
  have h0 : RefAt ((w.alloc (.cells #[.bool false, .bool false, .bool wp] 132)).alloc (.cells #[.int .u32 0, .int .u32 0, .int .u32 0, .bool false, .bool false] 145)) R M := h.kp k0 (fun _ _ f => f)
  have nR : Hid (∀ k, R.has k → k < X) := hR
  clear hX h hR
  go_enter Tryz.func79, Tryz.ntmps79
  go_wp2_with fail
  refine (HP.out _ h0).mono ?_; rintro e w1 ⟨rfl, k1⟩
  replace rB := rB.kp k1 (fun f => f)
  replace rK := rK.kp k1 (fun f => f)
  replace h0 := h0.kp k1 (fun _ _ f => f)
  replace k0 := k0.trans k1
  clear k1
  rw [HX.out]
  go_wp2_with fail
  refine (HO.out _).mono ?_; rintro e w' ⟨rfl, hw⟩; replace hw := hw.symm; subst hw
  go_wp2_with fail
  refine (HQ.out _ h0).mono ?_; rintro e w2 ⟨rfl, k1⟩
  replace rB := rB.kp k1 (fun f => f)
  replace rK := rK.kp k1 (fun f => f)
  replace h0 := h0.kp k1 (fun _ _ f => f)
  replace k0 := k0.trans k1
  clear k1
  go_wp2_with fail
  refine (HT.out _).mono ?_; rintro e w' ⟨rfl, hw⟩; replace hw := hw.symm; subst hw
  have f0 : 0 ≤ fr := by omega
  have f1 : fr < 4294967296 := by omega
  have ra := fun O => rB.kp (Kp.alloc noB w2 O) (fun f => f)
  have b0 := fun O => (ra O).c0
  have b1 := fun O => (ra O).c1
  have b2 := fun O => (ra O).c2
  clear ra
  go_wp2_with fail
  refine (HO1.out _).mono ?_; rintro e w' ⟨rfl, hw⟩; replace hw := hw.symm; subst hw
  go_wp2_with fail
  refine (HT1.out _).mono ?_; rintro e w' ⟨rfl, hw⟩; replace hw := hw.symm; subst hw
  go_wp2_with fail
  refine (HO2.out _).mono ?_; rintro e w' ⟨rfl, hw⟩; replace hw := hw.symm; subst hw
  go_wp2_with fail
  refine (HT2.out _).mono ?_; rintro e w' ⟨rfl, hw⟩; replace hw := hw.symm; subst hw
  go_wp2_with fail
  have ka := Kp.alloc noB w2 (.cells #[.int .u32 fr, .int .u32 p, .int .u32 q, .bool true, .bool true] 145)
  have rZ : RowK (w2.alloc (.cells #[.int .u32 fr, .int .u32 p, .int .u32 q, .bool true, .bool true] 145)) w2.heap.size fr p q true true := (MapKept.heap_alloc w2 _).1
  have sz : (w2.alloc (.cells #[.int .u32 fr, .int .u32 p, .int .u32 q, .bool true, .bool true] 145)).heap.size = w2.heap.size + 1 := by simp
  have ZX : X + 1 < w2.heap.size := rK.lt
  replace rB := rB.kp ka (fun f => f)
  replace rK := rK.kp ka (fun f => f)
  replace h0 := h0.kp ka (fun _ _ f => f)
  replace k0 := k0.trans ka
  clear ka b0 b1 b2
  obtain ⟨Z, hZ⟩ : ∃ Z, Z = w2.heap.size := ⟨_, rfl⟩
  obtain ⟨w3, hgen⟩ : ∃ W, W = w2.alloc (.cells #[.int .u32 fr, .int .u32 p, .int .u32 q, .bool true, .bool true] 145) := ⟨_, rfl⟩
  rw [← hZ] at rZ sz ZX ⊢
  rw [← hgen] at rB rK h0 k0 rZ sz ⊢
  clear hgen hZ
  have kb := Kp.alloc noB w3 (.cells #[.int .i64 5] 3)
  have c5 : (w3.alloc (.cells #[.int .i64 5] 3)).cell? ⟨Z + 1, 0, none⟩ = some (.int .i64 5) := by
    have e0 := (MapKept.heap_alloc w3 (.cells #[.int .i64 5] 3)).1
    rw [sz] at e0
    rw [cell_at e0]; rfl
  refine (HM1.out _ (Z + 1) (h0.kp kb (fun _ _ f => f)) (fun f => by have := nR.out _ f; omega) c5).mono ?_
  rintro e w4 ⟨rfl, h4, k4⟩
  have nB : ¬ R.has X := fun f => by have := nR.out _ f; omega
  have nK : ¬ R.has (X + 1) := fun f => by have := nR.out _ f; omega
  have nZ : ¬ R.has Z := fun f => by have := nR.out _ f; omega
  replace rB := (rB.kp kb (fun f => f)).kp k4 nB
  replace rK := (rK.kp kb (fun f => f)).kp k4 nK
  replace rZ := (rZ.kp kb (fun f => f)).kp k4 nZ
  replace k0 := (kp_no (S := R.has) (k0.trans kb)).trans k4
  clear h0 kb k4 c5 sz
  have X4 : X + 1 < w4.heap.size := rK.lt
  have ra := fun O => rB.kp (Kp.alloc noB w4 O) (fun f => f)
  have b0 := fun O => (ra O).c0
  have b1 := fun O => (ra O).c1
  have b2 := fun O => (ra O).c2
  clear ra
  go_wp2_with fail
  have kc := Kp.alloc noB w4 (.cells #[.int .i64 5] 3)
  have e0 := (MapKept.heap_alloc w4 (.cells #[.int .i64 5] 3)).1
  refine (HM2.out _ w4.heap.size (h4.kp kc (fun _ _ f => f)) (fun f => by have := nR.out _ f; omega) (by rw [cell_at e0]; rfl)).mono ?_
  rintro e w5 ⟨rfl, h5, k5⟩
  replace rK := (rK.kp kc (fun f => f)).kp k5 nK
  replace rZ := (rZ.kp kc (fun f => f)).kp k5 nZ
  replace k0 := (k0.trans (kp_no kc)).trans k5
  clear h4 kc k5 e0 b0 b1 b2 rB X4
  have d0 := rK.c0; have d1 := rK.c1; have d2 := rK.c2; have d3 := rK.c3; have d4 := rK.c4
  have f0 := rK.fz 0; have f1 := rK.fz 1; have f2 := rK.fz 2; have f3 := rK.fz 3; have f4 := rK.fz 4
  have g0 := rZ.c0; have g1 := rZ.c1; have g2 := rZ.c2; have g3 := rZ.c3; have g4 := rZ.c4
  go_wp2
  have z0 := rK.s0 fr
  have z1 := z0.s1 p
  have z2 := z1.s2 q
  have z3 := z2.s3 true
  have z4 := z3.s4 true
  refine bodyPost_ret (v := .tuple #[.agg #[.int .u32 fr, .int .u32 p, .int .u32 q, .bool true, .bool true], .int .i64 (-1)]) ?_ rfl ⟨rfl, ?_, ?_⟩
  · simp [results, Tryz.results79, go_sem, z0.c0, z1.c1, z2.c2, z3.c3, z4.c4]
  · exact h5.kp (Kp.five_in _ (X + 1) _ _ _ _ _) (fun j hj e => by have := nR.out j hj; omega)
  · exact k0.five (by have := HX.out; omega) _ _ _ _ _

end Go.Proofs.YtmmnnafjikilpaaGreat

/- The document's own walk: the ways with a page. -/
namespace Go.Proofs.YtmmnnafjikilpaaGreat
open Go.ChangeShapes Go.WideShapes Go.ChangeAt Go.RowKit Go.Maps
set_option linter.unusedVariables false

set_option maxRecDepth 100000 in
set_option maxHeartbeats 2000000 in
theorem rfind_ft_f_f (w : World) (R : Rf) (M M1 M2 : Mem) (c l p q o t fr : Int) (wp t2 t4 : Bool) (h : RefAt w R M) (F : FL R M M1 M2 c l p q o t fr true true false t2 false t4 false) :
    Calls Tryz.prog 79 #[.pointer (some ⟨R.r, 0, none⟩), .int .u32 c, .int .u32 l, .agg #[.bool false, .bool true, .bool wp]] w fun e w' => e = .returned (.tuple #[.agg #[.int .u32 0, .int .u32 0, .int .u32 0, .bool false, .bool false], .int .i64 5]) ∧ RefAt w' R M ∧ Kp R.has w w' := by
  obtain ⟨c0, c1, l0, l1, p0, p1, q0, q1, o0, o1, t0, t1, ep, eq, ef, rp, rq, ho, ht, ho1, ht1, ho2, ht2, mk1, mk2r, mk2w⟩ := F
  have HO1 : Hid _ := ho1
  have HT1 : Hid _ := ht1
  have HO2 : Hid _ := ho2
  have HT2 : Hid _ := ht2
  have HM1 : Hid _ := mk1
  have HM2 : Hid _ := mk2r rfl
  clear ho1 ht1 ho2 ht2 mk1 mk2r mk2w
  have HP : Hid _ := rp
  have HO : Hid _ := ho
  have HQ : Hid _ := rq
  have HT : Hid _ := ht
  clear rp rq ho ht
  have i0 : 0 ≤ l / 4194304 ∧ l / 4194304 < 1024 := by omega
  have cd : 0 ≤ c - c % 4096 ∧ c - c % 4096 ≤ 4294963200 := by omega
  have i1 : 0 ≤ l / 4096 % 1024 ∧ l / 4096 % 1024 < 1024 := by omega
  have od : 0 ≤ o - o % 4096 ∧ o - o % 4096 ≤ 4294963200 := by omega
  obtain ⟨X, hX⟩ : ∃ X, w.heap.size = X := ⟨_, rfl⟩
  have HX : Hid (w.heap.size = X) := hX
  have k0 : Kp noB w ((w.alloc (.cells #[.bool false, .bool true, .bool wp] 132)).alloc (.cells #[.int .u32 0, .int .u32 0, .int .u32 0, .bool false, .bool false] 145)) := (Kp.alloc _ _ _).trans (Kp.alloc _ _ _)
  have rB : RowB ((w.alloc (.cells #[.bool false, .bool true, .bool wp] 132)).alloc (.cells #[.int .u32 0, .int .u32 0, .int .u32 0, .bool false, .bool false] 145)) X false true wp := by
    have e0 := (MapKept.heap_alloc w (.cells #[.bool false, .bool true, .bool wp] 132)).1
    rw [hX] at e0
    exact (Below.heap_alloc _ _ _ (by simp; omega)).trans e0
  have rK : RowK ((w.alloc (.cells #[.bool false, .bool true, .bool wp] 132)).alloc (.cells #[.int .u32 0, .int .u32 0, .int .u32 0, .bool false, .bool false] 145)) (X + 1) 0 0 0 false false := by
    have e0 := (MapKept.heap_alloc (w.alloc (.cells #[.bool false, .bool true, .bool wp] 132)) (.cells #[.int .u32 0, .int .u32 0, .int .u32 0, .bool false, .bool false] 145)).1
    have e1 : (w.alloc (.cells #[.bool false, .bool true, .bool wp] 132)).heap.size = X + 1 := by simp [hX]
    rw [e1] at e0
    exact e0
  have hR : ∀ k, R.has k → k < X := fun k hk => by rw [← hX]; exact h.lt hk
  have h0 : RefAt ((w.alloc (.cells #[.bool false, .bool true, .bool wp] 132)).alloc (.cells #[.int .u32 0, .int .u32 0, .int .u32 0, .bool false, .bool false] 145)) R M := h.kp k0 (fun _ _ f => f)
  have nR : Hid (∀ k, R.has k → k < X) := hR
  clear hX h hR
  go_enter Tryz.func79, Tryz.ntmps79
  go_wp2_with fail
  refine (HP.out _ h0).mono ?_; rintro e w1 ⟨rfl, k1⟩
  replace rB := rB.kp k1 (fun f => f)
  replace rK := rK.kp k1 (fun f => f)
  replace h0 := h0.kp k1 (fun _ _ f => f)
  replace k0 := k0.trans k1
  clear k1
  rw [HX.out]
  go_wp2_with fail
  refine (HO.out _).mono ?_; rintro e w' ⟨rfl, hw⟩; replace hw := hw.symm; subst hw
  go_wp2_with fail
  refine (HQ.out _ h0).mono ?_; rintro e w2 ⟨rfl, k1⟩
  replace rB := rB.kp k1 (fun f => f)
  replace rK := rK.kp k1 (fun f => f)
  replace h0 := h0.kp k1 (fun _ _ f => f)
  replace k0 := k0.trans k1
  clear k1
  go_wp2_with fail
  refine (HT.out _).mono ?_; rintro e w' ⟨rfl, hw⟩; replace hw := hw.symm; subst hw
  have f0 : 0 ≤ fr := by omega
  have f1 : fr < 4294967296 := by omega
  have ra := fun O => rB.kp (Kp.alloc noB w2 O) (fun f => f)
  have b0 := fun O => (ra O).c0
  have b1 := fun O => (ra O).c1
  have b2 := fun O => (ra O).c2
  clear ra
  go_wp2_with fail
  refine (HO1.out _).mono ?_; rintro e w' ⟨rfl, hw⟩; replace hw := hw.symm; subst hw
  go_wp2_with fail
  refine (HO2.out _).mono ?_; rintro e w' ⟨rfl, hw⟩; replace hw := hw.symm; subst hw
  have rka := fun O => rK.kp (Kp.alloc noB w2 O) (fun f => f)
  have d0 := fun O => (rka O).c0
  have d1 := fun O => (rka O).c1
  have d2 := fun O => (rka O).c2
  have d3 := fun O => (rka O).c3
  have d4 := fun O => (rka O).c4
  have g0 := fun O => (rka O).fz 0
  have g1 := fun O => (rka O).fz 1
  have g2 := fun O => (rka O).fz 2
  have g3 := fun O => (rka O).fz 3
  have g4 := fun O => (rka O).fz 4
  have ka := Kp.alloc noB w2 (.cells #[.int .u32 fr, .int .u32 p, .int .u32 q, .bool false, .bool false] 145)
  replace rK := rK.kp ka (fun f => f)
  replace h0 := h0.kp ka (fun _ _ f => f)
  replace k0 := kp_no (S := R.has) (k0.trans ka)
  clear ka rka
  go_wp2
  have z0 := rK.s0 0
  have z1 := z0.s1 0
  have z2 := z1.s2 0
  have z3 := z2.s3 false
  have z4 := z3.s4 false
  refine bodyPost_ret (v := .tuple #[.agg #[.int .u32 0, .int .u32 0, .int .u32 0, .bool false, .bool false], .int .i64 5]) ?_ rfl ⟨rfl, ?_, ?_⟩
  · simp [results, Tryz.results79, go_sem, z0.c0, z1.c1, z2.c2, z3.c3, z4.c4]
  · exact h0.kp (Kp.five_in _ (X + 1) _ _ _ _ _) (fun j hj e => by have := nR.out j hj; omega)
  · exact k0.five (by have := HX.out; omega) _ _ _ _ _

set_option maxRecDepth 100000 in
set_option maxHeartbeats 2000000 in
theorem rfind_ft_f_tf (w : World) (R : Rf) (M M1 M2 : Mem) (c l p q o t fr : Int) (wp t2 t4 : Bool) (h : RefAt w R M) (F : FL R M M1 M2 c l p q o t fr true true false t2 true false false) :
    Calls Tryz.prog 79 #[.pointer (some ⟨R.r, 0, none⟩), .int .u32 c, .int .u32 l, .agg #[.bool false, .bool true, .bool wp]] w fun e w' => e = .returned (.tuple #[.agg #[.int .u32 0, .int .u32 0, .int .u32 0, .bool false, .bool false], .int .i64 5]) ∧ RefAt w' R M ∧ Kp R.has w w' := by
  obtain ⟨c0, c1, l0, l1, p0, p1, q0, q1, o0, o1, t0, t1, ep, eq, ef, rp, rq, ho, ht, ho1, ht1, ho2, ht2, mk1, mk2r, mk2w⟩ := F
  have HO1 : Hid _ := ho1
  have HT1 : Hid _ := ht1
  have HO2 : Hid _ := ho2
  have HT2 : Hid _ := ht2
  have HM1 : Hid _ := mk1
  have HM2 : Hid _ := mk2r rfl
  clear ho1 ht1 ho2 ht2 mk1 mk2r mk2w
  have HP : Hid _ := rp
  have HO : Hid _ := ho
  have HQ : Hid _ := rq
  have HT : Hid _ := ht
  clear rp rq ho ht
  have i0 : 0 ≤ l / 4194304 ∧ l / 4194304 < 1024 := by omega
  have cd : 0 ≤ c - c % 4096 ∧ c - c % 4096 ≤ 4294963200 := by omega
  have i1 : 0 ≤ l / 4096 % 1024 ∧ l / 4096 % 1024 < 1024 := by omega
  have od : 0 ≤ o - o % 4096 ∧ o - o % 4096 ≤ 4294963200 := by omega
  obtain ⟨X, hX⟩ : ∃ X, w.heap.size = X := ⟨_, rfl⟩
  have HX : Hid (w.heap.size = X) := hX
  have k0 : Kp noB w ((w.alloc (.cells #[.bool false, .bool true, .bool wp] 132)).alloc (.cells #[.int .u32 0, .int .u32 0, .int .u32 0, .bool false, .bool false] 145)) := (Kp.alloc _ _ _).trans (Kp.alloc _ _ _)
  have rB : RowB ((w.alloc (.cells #[.bool false, .bool true, .bool wp] 132)).alloc (.cells #[.int .u32 0, .int .u32 0, .int .u32 0, .bool false, .bool false] 145)) X false true wp := by
    have e0 := (MapKept.heap_alloc w (.cells #[.bool false, .bool true, .bool wp] 132)).1
    rw [hX] at e0
    exact (Below.heap_alloc _ _ _ (by simp; omega)).trans e0
  have rK : RowK ((w.alloc (.cells #[.bool false, .bool true, .bool wp] 132)).alloc (.cells #[.int .u32 0, .int .u32 0, .int .u32 0, .bool false, .bool false] 145)) (X + 1) 0 0 0 false false := by
    have e0 := (MapKept.heap_alloc (w.alloc (.cells #[.bool false, .bool true, .bool wp] 132)) (.cells #[.int .u32 0, .int .u32 0, .int .u32 0, .bool false, .bool false] 145)).1
    have e1 : (w.alloc (.cells #[.bool false, .bool true, .bool wp] 132)).heap.size = X + 1 := by simp [hX]
    rw [e1] at e0
    exact e0
  have hR : ∀ k, R.has k → k < X := fun k hk => by rw [← hX]; exact h.lt hk
  have h0 : RefAt ((w.alloc (.cells #[.bool false, .bool true, .bool wp] 132)).alloc (.cells #[.int .u32 0, .int .u32 0, .int .u32 0, .bool false, .bool false] 145)) R M := h.kp k0 (fun _ _ f => f)
  have nR : Hid (∀ k, R.has k → k < X) := hR
  clear hX h hR
  go_enter Tryz.func79, Tryz.ntmps79
  go_wp2_with fail
  refine (HP.out _ h0).mono ?_; rintro e w1 ⟨rfl, k1⟩
  replace rB := rB.kp k1 (fun f => f)
  replace rK := rK.kp k1 (fun f => f)
  replace h0 := h0.kp k1 (fun _ _ f => f)
  replace k0 := k0.trans k1
  clear k1
  rw [HX.out]
  go_wp2_with fail
  refine (HO.out _).mono ?_; rintro e w' ⟨rfl, hw⟩; replace hw := hw.symm; subst hw
  go_wp2_with fail
  refine (HQ.out _ h0).mono ?_; rintro e w2 ⟨rfl, k1⟩
  replace rB := rB.kp k1 (fun f => f)
  replace rK := rK.kp k1 (fun f => f)
  replace h0 := h0.kp k1 (fun _ _ f => f)
  replace k0 := k0.trans k1
  clear k1
  go_wp2_with fail
  refine (HT.out _).mono ?_; rintro e w' ⟨rfl, hw⟩; replace hw := hw.symm; subst hw
  have f0 : 0 ≤ fr := by omega
  have f1 : fr < 4294967296 := by omega
  have ra := fun O => rB.kp (Kp.alloc noB w2 O) (fun f => f)
  have b0 := fun O => (ra O).c0
  have b1 := fun O => (ra O).c1
  have b2 := fun O => (ra O).c2
  clear ra
  go_wp2_with fail
  refine (HO1.out _).mono ?_; rintro e w' ⟨rfl, hw⟩; replace hw := hw.symm; subst hw
  go_wp2_with fail
  refine (HO2.out _).mono ?_; rintro e w' ⟨rfl, hw⟩; replace hw := hw.symm; subst hw
  go_wp2_with fail
  refine (HT2.out _).mono ?_; rintro e w' ⟨rfl, hw⟩; replace hw := hw.symm; subst hw
  have rka := fun O => rK.kp (Kp.alloc noB w2 O) (fun f => f)
  have d0 := fun O => (rka O).c0
  have d1 := fun O => (rka O).c1
  have d2 := fun O => (rka O).c2
  have d3 := fun O => (rka O).c3
  have d4 := fun O => (rka O).c4
  have g0 := fun O => (rka O).fz 0
  have g1 := fun O => (rka O).fz 1
  have g2 := fun O => (rka O).fz 2
  have g3 := fun O => (rka O).fz 3
  have g4 := fun O => (rka O).fz 4
  have ka := Kp.alloc noB w2 (.cells #[.int .u32 fr, .int .u32 p, .int .u32 q, .bool false, .bool false] 145)
  replace rK := rK.kp ka (fun f => f)
  replace h0 := h0.kp ka (fun _ _ f => f)
  replace k0 := kp_no (S := R.has) (k0.trans ka)
  clear ka rka
  go_wp2
  have z0 := rK.s0 0
  have z1 := z0.s1 0
  have z2 := z1.s2 0
  have z3 := z2.s3 false
  have z4 := z3.s4 false
  refine bodyPost_ret (v := .tuple #[.agg #[.int .u32 0, .int .u32 0, .int .u32 0, .bool false, .bool false], .int .i64 5]) ?_ rfl ⟨rfl, ?_, ?_⟩
  · simp [results, Tryz.results79, go_sem, z0.c0, z1.c1, z2.c2, z3.c3, z4.c4]
  · exact h0.kp (Kp.five_in _ (X + 1) _ _ _ _ _) (fun j hj e => by have := nR.out j hj; omega)
  · exact k0.five (by have := HX.out; omega) _ _ _ _ _

set_option maxRecDepth 100000 in
set_option maxHeartbeats 2000000 in
theorem rfind_ft_f_tt (w : World) (R : Rf) (M M1 M2 : Mem) (c l p q o t fr : Int) (wp t2 t4 : Bool) (h : RefAt w R M) (F : FL R M M1 M2 c l p q o t fr true true false t2 true true false) :
    Calls Tryz.prog 79 #[.pointer (some ⟨R.r, 0, none⟩), .int .u32 c, .int .u32 l, .agg #[.bool false, .bool true, .bool wp]] w fun e w' => e = .returned (.tuple #[.agg #[.int .u32 fr, .int .u32 p, .int .u32 q, .bool false, .bool true], .int .i64 (-1)]) ∧ RefAt w' R M2 ∧ Kp R.has w w' := by
  obtain ⟨c0, c1, l0, l1, p0, p1, q0, q1, o0, o1, t0, t1, ep, eq, ef, rp, rq, ho, ht, ho1, ht1, ho2, ht2, mk1, mk2r, mk2w⟩ := F
  have HO1 : Hid _ := ho1
  have HT1 : Hid _ := ht1
  have HO2 : Hid _ := ho2
  have HT2 : Hid _ := ht2
  have HM1 : Hid _ := mk1
  have HM2 : Hid _ := mk2r rfl
  clear ho1 ht1 ho2 ht2 mk1 mk2r mk2w
  have HP : Hid _ := rp
  have HO : Hid _ := ho
  have HQ : Hid _ := rq
  have HT : Hid _ := ht
  clear rp rq ho ht
  have i0 : 0 ≤ l / 4194304 ∧ l / 4194304 < 1024 := by omega
  have cd : 0 ≤ c - c % 4096 ∧ c - c % 4096 ≤ 4294963200 := by omega
  have i1 : 0 ≤ l / 4096 % 1024 ∧ l / 4096 % 1024 < 1024 := by omega
  have od : 0 ≤ o - o % 4096 ∧ o - o % 4096 ≤ 4294963200 := by omega
  obtain ⟨X, hX⟩ : ∃ X, w.heap.size = X := ⟨_, rfl⟩
  have HX : Hid (w.heap.size = X) := hX
  have k0 : Kp noB w ((w.alloc (.cells #[.bool false, .bool true, .bool wp] 132)).alloc (.cells #[.int .u32 0, .int .u32 0, .int .u32 0, .bool false, .bool false] 145)) := (Kp.alloc _ _ _).trans (Kp.alloc _ _ _)
  have rB : RowB ((w.alloc (.cells #[.bool false, .bool true, .bool wp] 132)).alloc (.cells #[.int .u32 0, .int .u32 0, .int .u32 0, .bool false, .bool false] 145)) X false true wp := by
    have e0 := (MapKept.heap_alloc w (.cells #[.bool false, .bool true, .bool wp] 132)).1
    rw [hX] at e0
    exact (Below.heap_alloc _ _ _ (by simp; omega)).trans e0
  have rK : RowK ((w.alloc (.cells #[.bool false, .bool true, .bool wp] 132)).alloc (.cells #[.int .u32 0, .int .u32 0, .int .u32 0, .bool false, .bool false] 145)) (X + 1) 0 0 0 false false := by
    have e0 := (MapKept.heap_alloc (w.alloc (.cells #[.bool false, .bool true, .bool wp] 132)) (.cells #[.int .u32 0, .int .u32 0, .int .u32 0, .bool false, .bool false] 145)).1
    have e1 : (w.alloc (.cells #[.bool false, .bool true, .bool wp] 132)).heap.size = X + 1 := by simp [hX]
    rw [e1] at e0
    exact e0
  have hR : ∀ k, R.has k → k < X := fun k hk => by rw [← hX]; exact h.lt hk
  have h0 : RefAt ((w.alloc (.cells #[.bool false, .bool true, .bool wp] 132)).alloc (.cells #[.int .u32 0, .int .u32 0, .int .u32 0, .bool false, .bool false] 145)) R M := h.kp k0 (fun _ _ f => f)
  have nR : Hid (∀ k, R.has k → k < X) := hR
  clear hX h hR
  go_enter Tryz.func79, Tryz.ntmps79
  go_wp2_with fail
  refine (HP.out _ h0).mono ?_; rintro e w1 ⟨rfl, k1⟩
  replace rB := rB.kp k1 (fun f => f)
  replace rK := rK.kp k1 (fun f => f)
  replace h0 := h0.kp k1 (fun _ _ f => f)
  replace k0 := k0.trans k1
  clear k1
  rw [HX.out]
  go_wp2_with fail
  refine (HO.out _).mono ?_; rintro e w' ⟨rfl, hw⟩; replace hw := hw.symm; subst hw
  go_wp2_with fail
  refine (HQ.out _ h0).mono ?_; rintro e w2 ⟨rfl, k1⟩
  replace rB := rB.kp k1 (fun f => f)
  replace rK := rK.kp k1 (fun f => f)
  replace h0 := h0.kp k1 (fun _ _ f => f)
  replace k0 := k0.trans k1
  clear k1
  go_wp2_with fail
  refine (HT.out _).mono ?_; rintro e w' ⟨rfl, hw⟩; replace hw := hw.symm; subst hw
  have f0 : 0 ≤ fr := by omega
  have f1 : fr < 4294967296 := by omega
  have ra := fun O => rB.kp (Kp.alloc noB w2 O) (fun f => f)
  have b0 := fun O => (ra O).c0
  have b1 := fun O => (ra O).c1
  have b2 := fun O => (ra O).c2
  clear ra
  go_wp2_with fail
  refine (HO1.out _).mono ?_; rintro e w' ⟨rfl, hw⟩; replace hw := hw.symm; subst hw
  go_wp2_with fail
  refine (HO2.out _).mono ?_; rintro e w' ⟨rfl, hw⟩; replace hw := hw.symm; subst hw
  go_wp2_with fail
  refine (HT2.out _).mono ?_; rintro e w' ⟨rfl, hw⟩; replace hw := hw.symm; subst hw
  go_wp2_with fail
  have ka := Kp.alloc noB w2 (.cells #[.int .u32 fr, .int .u32 p, .int .u32 q, .bool false, .bool true] 145)
  have rZ : RowK (w2.alloc (.cells #[.int .u32 fr, .int .u32 p, .int .u32 q, .bool false, .bool true] 145)) w2.heap.size fr p q false true := (MapKept.heap_alloc w2 _).1
  have sz : (w2.alloc (.cells #[.int .u32 fr, .int .u32 p, .int .u32 q, .bool false, .bool true] 145)).heap.size = w2.heap.size + 1 := by simp
  have ZX : X + 1 < w2.heap.size := rK.lt
  replace rB := rB.kp ka (fun f => f)
  replace rK := rK.kp ka (fun f => f)
  replace h0 := h0.kp ka (fun _ _ f => f)
  replace k0 := k0.trans ka
  clear ka b0 b1 b2
  obtain ⟨Z, hZ⟩ : ∃ Z, Z = w2.heap.size := ⟨_, rfl⟩
  obtain ⟨w3, hgen⟩ : ∃ W, W = w2.alloc (.cells #[.int .u32 fr, .int .u32 p, .int .u32 q, .bool false, .bool true] 145) := ⟨_, rfl⟩
  rw [← hZ] at rZ sz ZX ⊢
  rw [← hgen] at rB rK h0 k0 rZ sz ⊢
  clear hgen hZ
  have kb := Kp.alloc noB w3 (.cells #[.int .i64 5] 3)
  have c5 : (w3.alloc (.cells #[.int .i64 5] 3)).cell? ⟨Z + 1, 0, none⟩ = some (.int .i64 5) := by
    have e0 := (MapKept.heap_alloc w3 (.cells #[.int .i64 5] 3)).1
    rw [sz] at e0
    rw [cell_at e0]; rfl
  refine (HM1.out _ (Z + 1) (h0.kp kb (fun _ _ f => f)) (fun f => by have := nR.out _ f; omega) c5).mono ?_
  rintro e w4 ⟨rfl, h4, k4⟩
  have nB : ¬ R.has X := fun f => by have := nR.out _ f; omega
  have nK : ¬ R.has (X + 1) := fun f => by have := nR.out _ f; omega
  have nZ : ¬ R.has Z := fun f => by have := nR.out _ f; omega
  replace rB := (rB.kp kb (fun f => f)).kp k4 nB
  replace rK := (rK.kp kb (fun f => f)).kp k4 nK
  replace rZ := (rZ.kp kb (fun f => f)).kp k4 nZ
  replace k0 := (kp_no (S := R.has) (k0.trans kb)).trans k4
  clear h0 kb k4 c5 sz
  have X4 : X + 1 < w4.heap.size := rK.lt
  have ra := fun O => rB.kp (Kp.alloc noB w4 O) (fun f => f)
  have b0 := fun O => (ra O).c0
  have b1 := fun O => (ra O).c1
  have b2 := fun O => (ra O).c2
  clear ra
  go_wp2_with fail
  have kc := Kp.alloc noB w4 (.cells #[.int .i64 5] 3)
  have e0 := (MapKept.heap_alloc w4 (.cells #[.int .i64 5] 3)).1
  refine (HM2.out _ w4.heap.size (h4.kp kc (fun _ _ f => f)) (fun f => by have := nR.out _ f; omega) (by rw [cell_at e0]; rfl)).mono ?_
  rintro e w5 ⟨rfl, h5, k5⟩
  replace rK := (rK.kp kc (fun f => f)).kp k5 nK
  replace rZ := (rZ.kp kc (fun f => f)).kp k5 nZ
  replace k0 := (k0.trans (kp_no kc)).trans k5
  clear h4 kc k5 e0 b0 b1 b2 rB X4
  have d0 := rK.c0; have d1 := rK.c1; have d2 := rK.c2; have d3 := rK.c3; have d4 := rK.c4
  have f0 := rK.fz 0; have f1 := rK.fz 1; have f2 := rK.fz 2; have f3 := rK.fz 3; have f4 := rK.fz 4
  have g0 := rZ.c0; have g1 := rZ.c1; have g2 := rZ.c2; have g3 := rZ.c3; have g4 := rZ.c4
  go_wp2
  have z0 := rK.s0 fr
  have z1 := z0.s1 p
  have z2 := z1.s2 q
  have z3 := z2.s3 false
  have z4 := z3.s4 true
  refine bodyPost_ret (v := .tuple #[.agg #[.int .u32 fr, .int .u32 p, .int .u32 q, .bool false, .bool true], .int .i64 (-1)]) ?_ rfl ⟨rfl, ?_, ?_⟩
  · simp [results, Tryz.results79, go_sem, z0.c0, z1.c1, z2.c2, z3.c3, z4.c4]
  · exact h5.kp (Kp.five_in _ (X + 1) _ _ _ _ _) (fun j hj e => by have := nR.out j hj; omega)
  · exact k0.five (by have := HX.out; omega) _ _ _ _ _

set_option maxRecDepth 100000 in
set_option maxHeartbeats 2000000 in
theorem rfind_ft_tf_f (w : World) (R : Rf) (M M1 M2 : Mem) (c l p q o t fr : Int) (wp t2 t4 : Bool) (h : RefAt w R M) (F : FL R M M1 M2 c l p q o t fr true true true false false t4 false) :
    Calls Tryz.prog 79 #[.pointer (some ⟨R.r, 0, none⟩), .int .u32 c, .int .u32 l, .agg #[.bool false, .bool true, .bool wp]] w fun e w' => e = .returned (.tuple #[.agg #[.int .u32 0, .int .u32 0, .int .u32 0, .bool false, .bool false], .int .i64 5]) ∧ RefAt w' R M ∧ Kp R.has w w' := by
  obtain ⟨c0, c1, l0, l1, p0, p1, q0, q1, o0, o1, t0, t1, ep, eq, ef, rp, rq, ho, ht, ho1, ht1, ho2, ht2, mk1, mk2r, mk2w⟩ := F
  have HO1 : Hid _ := ho1
  have HT1 : Hid _ := ht1
  have HO2 : Hid _ := ho2
  have HT2 : Hid _ := ht2
  have HM1 : Hid _ := mk1
  have HM2 : Hid _ := mk2r rfl
  clear ho1 ht1 ho2 ht2 mk1 mk2r mk2w
  have HP : Hid _ := rp
  have HO : Hid _ := ho
  have HQ : Hid _ := rq
  have HT : Hid _ := ht
  clear rp rq ho ht
  have i0 : 0 ≤ l / 4194304 ∧ l / 4194304 < 1024 := by omega
  have cd : 0 ≤ c - c % 4096 ∧ c - c % 4096 ≤ 4294963200 := by omega
  have i1 : 0 ≤ l / 4096 % 1024 ∧ l / 4096 % 1024 < 1024 := by omega
  have od : 0 ≤ o - o % 4096 ∧ o - o % 4096 ≤ 4294963200 := by omega
  obtain ⟨X, hX⟩ : ∃ X, w.heap.size = X := ⟨_, rfl⟩
  have HX : Hid (w.heap.size = X) := hX
  have k0 : Kp noB w ((w.alloc (.cells #[.bool false, .bool true, .bool wp] 132)).alloc (.cells #[.int .u32 0, .int .u32 0, .int .u32 0, .bool false, .bool false] 145)) := (Kp.alloc _ _ _).trans (Kp.alloc _ _ _)
  have rB : RowB ((w.alloc (.cells #[.bool false, .bool true, .bool wp] 132)).alloc (.cells #[.int .u32 0, .int .u32 0, .int .u32 0, .bool false, .bool false] 145)) X false true wp := by
    have e0 := (MapKept.heap_alloc w (.cells #[.bool false, .bool true, .bool wp] 132)).1
    rw [hX] at e0
    exact (Below.heap_alloc _ _ _ (by simp; omega)).trans e0
  have rK : RowK ((w.alloc (.cells #[.bool false, .bool true, .bool wp] 132)).alloc (.cells #[.int .u32 0, .int .u32 0, .int .u32 0, .bool false, .bool false] 145)) (X + 1) 0 0 0 false false := by
    have e0 := (MapKept.heap_alloc (w.alloc (.cells #[.bool false, .bool true, .bool wp] 132)) (.cells #[.int .u32 0, .int .u32 0, .int .u32 0, .bool false, .bool false] 145)).1
    have e1 : (w.alloc (.cells #[.bool false, .bool true, .bool wp] 132)).heap.size = X + 1 := by simp [hX]
    rw [e1] at e0
    exact e0
  have hR : ∀ k, R.has k → k < X := fun k hk => by rw [← hX]; exact h.lt hk
  have h0 : RefAt ((w.alloc (.cells #[.bool false, .bool true, .bool wp] 132)).alloc (.cells #[.int .u32 0, .int .u32 0, .int .u32 0, .bool false, .bool false] 145)) R M := h.kp k0 (fun _ _ f => f)
  have nR : Hid (∀ k, R.has k → k < X) := hR
  clear hX h hR
  go_enter Tryz.func79, Tryz.ntmps79
  go_wp2_with fail
  refine (HP.out _ h0).mono ?_; rintro e w1 ⟨rfl, k1⟩
  replace rB := rB.kp k1 (fun f => f)
  replace rK := rK.kp k1 (fun f => f)
  replace h0 := h0.kp k1 (fun _ _ f => f)
  replace k0 := k0.trans k1
  clear k1
  rw [HX.out]
  go_wp2_with fail
  refine (HO.out _).mono ?_; rintro e w' ⟨rfl, hw⟩; replace hw := hw.symm; subst hw
  go_wp2_with fail
  refine (HQ.out _ h0).mono ?_; rintro e w2 ⟨rfl, k1⟩
  replace rB := rB.kp k1 (fun f => f)
  replace rK := rK.kp k1 (fun f => f)
  replace h0 := h0.kp k1 (fun _ _ f => f)
  replace k0 := k0.trans k1
  clear k1
  go_wp2_with fail
  refine (HT.out _).mono ?_; rintro e w' ⟨rfl, hw⟩; replace hw := hw.symm; subst hw
  have f0 : 0 ≤ fr := by omega
  have f1 : fr < 4294967296 := by omega
  have ra := fun O => rB.kp (Kp.alloc noB w2 O) (fun f => f)
  have b0 := fun O => (ra O).c0
  have b1 := fun O => (ra O).c1
  have b2 := fun O => (ra O).c2
  clear ra
  go_wp2_with fail
  refine (HO1.out _).mono ?_; rintro e w' ⟨rfl, hw⟩; replace hw := hw.symm; subst hw
  go_wp2_with fail
  refine (HT1.out _).mono ?_; rintro e w' ⟨rfl, hw⟩; replace hw := hw.symm; subst hw
  go_wp2_with fail
  refine (HO2.out _).mono ?_; rintro e w' ⟨rfl, hw⟩; replace hw := hw.symm; subst hw
  have rka := fun O => rK.kp (Kp.alloc noB w2 O) (fun f => f)
  have d0 := fun O => (rka O).c0
  have d1 := fun O => (rka O).c1
  have d2 := fun O => (rka O).c2
  have d3 := fun O => (rka O).c3
  have d4 := fun O => (rka O).c4
  have g0 := fun O => (rka O).fz 0
  have g1 := fun O => (rka O).fz 1
  have g2 := fun O => (rka O).fz 2
  have g3 := fun O => (rka O).fz 3
  have g4 := fun O => (rka O).fz 4
  have ka := Kp.alloc noB w2 (.cells #[.int .u32 fr, .int .u32 p, .int .u32 q, .bool false, .bool false] 145)
  replace rK := rK.kp ka (fun f => f)
  replace h0 := h0.kp ka (fun _ _ f => f)
  replace k0 := kp_no (S := R.has) (k0.trans ka)
  clear ka rka
  go_wp2
  have z0 := rK.s0 0
  have z1 := z0.s1 0
  have z2 := z1.s2 0
  have z3 := z2.s3 false
  have z4 := z3.s4 false
  refine bodyPost_ret (v := .tuple #[.agg #[.int .u32 0, .int .u32 0, .int .u32 0, .bool false, .bool false], .int .i64 5]) ?_ rfl ⟨rfl, ?_, ?_⟩
  · simp [results, Tryz.results79, go_sem, z0.c0, z1.c1, z2.c2, z3.c3, z4.c4]
  · exact h0.kp (Kp.five_in _ (X + 1) _ _ _ _ _) (fun j hj e => by have := nR.out j hj; omega)
  · exact k0.five (by have := HX.out; omega) _ _ _ _ _

set_option maxRecDepth 100000 in
set_option maxHeartbeats 2000000 in
theorem rfind_ft_tf_tf (w : World) (R : Rf) (M M1 M2 : Mem) (c l p q o t fr : Int) (wp t2 t4 : Bool) (h : RefAt w R M) (F : FL R M M1 M2 c l p q o t fr true true true false true false false) :
    Calls Tryz.prog 79 #[.pointer (some ⟨R.r, 0, none⟩), .int .u32 c, .int .u32 l, .agg #[.bool false, .bool true, .bool wp]] w fun e w' => e = .returned (.tuple #[.agg #[.int .u32 0, .int .u32 0, .int .u32 0, .bool false, .bool false], .int .i64 5]) ∧ RefAt w' R M ∧ Kp R.has w w' := by
  obtain ⟨c0, c1, l0, l1, p0, p1, q0, q1, o0, o1, t0, t1, ep, eq, ef, rp, rq, ho, ht, ho1, ht1, ho2, ht2, mk1, mk2r, mk2w⟩ := F
  have HO1 : Hid _ := ho1
  have HT1 : Hid _ := ht1
  have HO2 : Hid _ := ho2
  have HT2 : Hid _ := ht2
  have HM1 : Hid _ := mk1
  have HM2 : Hid _ := mk2r rfl
  clear ho1 ht1 ho2 ht2 mk1 mk2r mk2w
  have HP : Hid _ := rp
  have HO : Hid _ := ho
  have HQ : Hid _ := rq
  have HT : Hid _ := ht
  clear rp rq ho ht
  have i0 : 0 ≤ l / 4194304 ∧ l / 4194304 < 1024 := by omega
  have cd : 0 ≤ c - c % 4096 ∧ c - c % 4096 ≤ 4294963200 := by omega
  have i1 : 0 ≤ l / 4096 % 1024 ∧ l / 4096 % 1024 < 1024 := by omega
  have od : 0 ≤ o - o % 4096 ∧ o - o % 4096 ≤ 4294963200 := by omega
  obtain ⟨X, hX⟩ : ∃ X, w.heap.size = X := ⟨_, rfl⟩
  have HX : Hid (w.heap.size = X) := hX
  have k0 : Kp noB w ((w.alloc (.cells #[.bool false, .bool true, .bool wp] 132)).alloc (.cells #[.int .u32 0, .int .u32 0, .int .u32 0, .bool false, .bool false] 145)) := (Kp.alloc _ _ _).trans (Kp.alloc _ _ _)
  have rB : RowB ((w.alloc (.cells #[.bool false, .bool true, .bool wp] 132)).alloc (.cells #[.int .u32 0, .int .u32 0, .int .u32 0, .bool false, .bool false] 145)) X false true wp := by
    have e0 := (MapKept.heap_alloc w (.cells #[.bool false, .bool true, .bool wp] 132)).1
    rw [hX] at e0
    exact (Below.heap_alloc _ _ _ (by simp; omega)).trans e0
  have rK : RowK ((w.alloc (.cells #[.bool false, .bool true, .bool wp] 132)).alloc (.cells #[.int .u32 0, .int .u32 0, .int .u32 0, .bool false, .bool false] 145)) (X + 1) 0 0 0 false false := by
    have e0 := (MapKept.heap_alloc (w.alloc (.cells #[.bool false, .bool true, .bool wp] 132)) (.cells #[.int .u32 0, .int .u32 0, .int .u32 0, .bool false, .bool false] 145)).1
    have e1 : (w.alloc (.cells #[.bool false, .bool true, .bool wp] 132)).heap.size = X + 1 := by simp [hX]
    rw [e1] at e0
    exact e0
  have hR : ∀ k, R.has k → k < X := fun k hk => by rw [← hX]; exact h.lt hk
  have h0 : RefAt ((w.alloc (.cells #[.bool false, .bool true, .bool wp] 132)).alloc (.cells #[.int .u32 0, .int .u32 0, .int .u32 0, .bool false, .bool false] 145)) R M := h.kp k0 (fun _ _ f => f)
  have nR : Hid (∀ k, R.has k → k < X) := hR
  clear hX h hR
  go_enter Tryz.func79, Tryz.ntmps79
  go_wp2_with fail
  refine (HP.out _ h0).mono ?_; rintro e w1 ⟨rfl, k1⟩
  replace rB := rB.kp k1 (fun f => f)
  replace rK := rK.kp k1 (fun f => f)
  replace h0 := h0.kp k1 (fun _ _ f => f)
  replace k0 := k0.trans k1
  clear k1
  rw [HX.out]
  go_wp2_with fail
  refine (HO.out _).mono ?_; rintro e w' ⟨rfl, hw⟩; replace hw := hw.symm; subst hw
  go_wp2_with fail
  refine (HQ.out _ h0).mono ?_; rintro e w2 ⟨rfl, k1⟩
  replace rB := rB.kp k1 (fun f => f)
  replace rK := rK.kp k1 (fun f => f)
  replace h0 := h0.kp k1 (fun _ _ f => f)
  replace k0 := k0.trans k1
  clear k1
  go_wp2_with fail
  refine (HT.out _).mono ?_; rintro e w' ⟨rfl, hw⟩; replace hw := hw.symm; subst hw
  have f0 : 0 ≤ fr := by omega
  have f1 : fr < 4294967296 := by omega
  have ra := fun O => rB.kp (Kp.alloc noB w2 O) (fun f => f)
  have b0 := fun O => (ra O).c0
  have b1 := fun O => (ra O).c1
  have b2 := fun O => (ra O).c2
  clear ra
  go_wp2_with fail
  refine (HO1.out _).mono ?_; rintro e w' ⟨rfl, hw⟩; replace hw := hw.symm; subst hw
  go_wp2_with fail
  refine (HT1.out _).mono ?_; rintro e w' ⟨rfl, hw⟩; replace hw := hw.symm; subst hw
  go_wp2_with fail
  refine (HO2.out _).mono ?_; rintro e w' ⟨rfl, hw⟩; replace hw := hw.symm; subst hw
  go_wp2_with fail
  refine (HT2.out _).mono ?_; rintro e w' ⟨rfl, hw⟩; replace hw := hw.symm; subst hw
  have rka := fun O => rK.kp (Kp.alloc noB w2 O) (fun f => f)
  have d0 := fun O => (rka O).c0
  have d1 := fun O => (rka O).c1
  have d2 := fun O => (rka O).c2
  have d3 := fun O => (rka O).c3
  have d4 := fun O => (rka O).c4
  have g0 := fun O => (rka O).fz 0
  have g1 := fun O => (rka O).fz 1
  have g2 := fun O => (rka O).fz 2
  have g3 := fun O => (rka O).fz 3
  have g4 := fun O => (rka O).fz 4
  have ka := Kp.alloc noB w2 (.cells #[.int .u32 fr, .int .u32 p, .int .u32 q, .bool false, .bool false] 145)
  replace rK := rK.kp ka (fun f => f)
  replace h0 := h0.kp ka (fun _ _ f => f)
  replace k0 := kp_no (S := R.has) (k0.trans ka)
  clear ka rka
  go_wp2
  have z0 := rK.s0 0
  have z1 := z0.s1 0
  have z2 := z1.s2 0
  have z3 := z2.s3 false
  have z4 := z3.s4 false
  refine bodyPost_ret (v := .tuple #[.agg #[.int .u32 0, .int .u32 0, .int .u32 0, .bool false, .bool false], .int .i64 5]) ?_ rfl ⟨rfl, ?_, ?_⟩
  · simp [results, Tryz.results79, go_sem, z0.c0, z1.c1, z2.c2, z3.c3, z4.c4]
  · exact h0.kp (Kp.five_in _ (X + 1) _ _ _ _ _) (fun j hj e => by have := nR.out j hj; omega)
  · exact k0.five (by have := HX.out; omega) _ _ _ _ _

set_option maxRecDepth 100000 in
set_option maxHeartbeats 2000000 in
theorem rfind_ft_tf_tt (w : World) (R : Rf) (M M1 M2 : Mem) (c l p q o t fr : Int) (wp t2 t4 : Bool) (h : RefAt w R M) (F : FL R M M1 M2 c l p q o t fr true true true false true true false) :
    Calls Tryz.prog 79 #[.pointer (some ⟨R.r, 0, none⟩), .int .u32 c, .int .u32 l, .agg #[.bool false, .bool true, .bool wp]] w fun e w' => e = .returned (.tuple #[.agg #[.int .u32 fr, .int .u32 p, .int .u32 q, .bool false, .bool true], .int .i64 (-1)]) ∧ RefAt w' R M2 ∧ Kp R.has w w' := by
  obtain ⟨c0, c1, l0, l1, p0, p1, q0, q1, o0, o1, t0, t1, ep, eq, ef, rp, rq, ho, ht, ho1, ht1, ho2, ht2, mk1, mk2r, mk2w⟩ := F
  have HO1 : Hid _ := ho1
  have HT1 : Hid _ := ht1
  have HO2 : Hid _ := ho2
  have HT2 : Hid _ := ht2
  have HM1 : Hid _ := mk1
  have HM2 : Hid _ := mk2r rfl
  clear ho1 ht1 ho2 ht2 mk1 mk2r mk2w
  have HP : Hid _ := rp
  have HO : Hid _ := ho
  have HQ : Hid _ := rq
  have HT : Hid _ := ht
  clear rp rq ho ht
  have i0 : 0 ≤ l / 4194304 ∧ l / 4194304 < 1024 := by omega
  have cd : 0 ≤ c - c % 4096 ∧ c - c % 4096 ≤ 4294963200 := by omega
  have i1 : 0 ≤ l / 4096 % 1024 ∧ l / 4096 % 1024 < 1024 := by omega
  have od : 0 ≤ o - o % 4096 ∧ o - o % 4096 ≤ 4294963200 := by omega
  obtain ⟨X, hX⟩ : ∃ X, w.heap.size = X := ⟨_, rfl⟩
  have HX : Hid (w.heap.size = X) := hX
  have k0 : Kp noB w ((w.alloc (.cells #[.bool false, .bool true, .bool wp] 132)).alloc (.cells #[.int .u32 0, .int .u32 0, .int .u32 0, .bool false, .bool false] 145)) := (Kp.alloc _ _ _).trans (Kp.alloc _ _ _)
  have rB : RowB ((w.alloc (.cells #[.bool false, .bool true, .bool wp] 132)).alloc (.cells #[.int .u32 0, .int .u32 0, .int .u32 0, .bool false, .bool false] 145)) X false true wp := by
    have e0 := (MapKept.heap_alloc w (.cells #[.bool false, .bool true, .bool wp] 132)).1
    rw [hX] at e0
    exact (Below.heap_alloc _ _ _ (by simp; omega)).trans e0
  have rK : RowK ((w.alloc (.cells #[.bool false, .bool true, .bool wp] 132)).alloc (.cells #[.int .u32 0, .int .u32 0, .int .u32 0, .bool false, .bool false] 145)) (X + 1) 0 0 0 false false := by
    have e0 := (MapKept.heap_alloc (w.alloc (.cells #[.bool false, .bool true, .bool wp] 132)) (.cells #[.int .u32 0, .int .u32 0, .int .u32 0, .bool false, .bool false] 145)).1
    have e1 : (w.alloc (.cells #[.bool false, .bool true, .bool wp] 132)).heap.size = X + 1 := by simp [hX]
    rw [e1] at e0
    exact e0
  have hR : ∀ k, R.has k → k < X := fun k hk => by rw [← hX]; exact h.lt hk
  have h0 : RefAt ((w.alloc (.cells #[.bool false, .bool true, .bool wp] 132)).alloc (.cells #[.int .u32 0, .int .u32 0, .int .u32 0, .bool false, .bool false] 145)) R M := h.kp k0 (fun _ _ f => f)
  have nR : Hid (∀ k, R.has k → k < X) := hR
  clear hX h hR
  go_enter Tryz.func79, Tryz.ntmps79
  go_wp2_with fail
  refine (HP.out _ h0).mono ?_; rintro e w1 ⟨rfl, k1⟩
  replace rB := rB.kp k1 (fun f => f)
  replace rK := rK.kp k1 (fun f => f)
  replace h0 := h0.kp k1 (fun _ _ f => f)
  replace k0 := k0.trans k1
  clear k1
  rw [HX.out]
  go_wp2_with fail
  refine (HO.out _).mono ?_; rintro e w' ⟨rfl, hw⟩; replace hw := hw.symm; subst hw
  go_wp2_with fail
  refine (HQ.out _ h0).mono ?_; rintro e w2 ⟨rfl, k1⟩
  replace rB := rB.kp k1 (fun f => f)
  replace rK := rK.kp k1 (fun f => f)
  replace h0 := h0.kp k1 (fun _ _ f => f)
  replace k0 := k0.trans k1
  clear k1
  go_wp2_with fail
  refine (HT.out _).mono ?_; rintro e w' ⟨rfl, hw⟩; replace hw := hw.symm; subst hw
  have f0 : 0 ≤ fr := by omega
  have f1 : fr < 4294967296 := by omega
  have ra := fun O => rB.kp (Kp.alloc noB w2 O) (fun f => f)
  have b0 := fun O => (ra O).c0
  have b1 := fun O => (ra O).c1
  have b2 := fun O => (ra O).c2
  clear ra
  go_wp2_with fail
  refine (HO1.out _).mono ?_; rintro e w' ⟨rfl, hw⟩; replace hw := hw.symm; subst hw
  go_wp2_with fail
  refine (HT1.out _).mono ?_; rintro e w' ⟨rfl, hw⟩; replace hw := hw.symm; subst hw
  go_wp2_with fail
  refine (HO2.out _).mono ?_; rintro e w' ⟨rfl, hw⟩; replace hw := hw.symm; subst hw
  go_wp2_with fail
  refine (HT2.out _).mono ?_; rintro e w' ⟨rfl, hw⟩; replace hw := hw.symm; subst hw
  go_wp2_with fail
  have ka := Kp.alloc noB w2 (.cells #[.int .u32 fr, .int .u32 p, .int .u32 q, .bool false, .bool true] 145)
  have rZ : RowK (w2.alloc (.cells #[.int .u32 fr, .int .u32 p, .int .u32 q, .bool false, .bool true] 145)) w2.heap.size fr p q false true := (MapKept.heap_alloc w2 _).1
  have sz : (w2.alloc (.cells #[.int .u32 fr, .int .u32 p, .int .u32 q, .bool false, .bool true] 145)).heap.size = w2.heap.size + 1 := by simp
  have ZX : X + 1 < w2.heap.size := rK.lt
  replace rB := rB.kp ka (fun f => f)
  replace rK := rK.kp ka (fun f => f)
  replace h0 := h0.kp ka (fun _ _ f => f)
  replace k0 := k0.trans ka
  clear ka b0 b1 b2
  obtain ⟨Z, hZ⟩ : ∃ Z, Z = w2.heap.size := ⟨_, rfl⟩
  obtain ⟨w3, hgen⟩ : ∃ W, W = w2.alloc (.cells #[.int .u32 fr, .int .u32 p, .int .u32 q, .bool false, .bool true] 145) := ⟨_, rfl⟩
  rw [← hZ] at rZ sz ZX ⊢
  rw [← hgen] at rB rK h0 k0 rZ sz ⊢
  clear hgen hZ
  have kb := Kp.alloc noB w3 (.cells #[.int .i64 5] 3)
  have c5 : (w3.alloc (.cells #[.int .i64 5] 3)).cell? ⟨Z + 1, 0, none⟩ = some (.int .i64 5) := by
    have e0 := (MapKept.heap_alloc w3 (.cells #[.int .i64 5] 3)).1
    rw [sz] at e0
    rw [cell_at e0]; rfl
  refine (HM1.out _ (Z + 1) (h0.kp kb (fun _ _ f => f)) (fun f => by have := nR.out _ f; omega) c5).mono ?_
  rintro e w4 ⟨rfl, h4, k4⟩
  have nB : ¬ R.has X := fun f => by have := nR.out _ f; omega
  have nK : ¬ R.has (X + 1) := fun f => by have := nR.out _ f; omega
  have nZ : ¬ R.has Z := fun f => by have := nR.out _ f; omega
  replace rB := (rB.kp kb (fun f => f)).kp k4 nB
  replace rK := (rK.kp kb (fun f => f)).kp k4 nK
  replace rZ := (rZ.kp kb (fun f => f)).kp k4 nZ
  replace k0 := (kp_no (S := R.has) (k0.trans kb)).trans k4
  clear h0 kb k4 c5 sz
  have X4 : X + 1 < w4.heap.size := rK.lt
  have ra := fun O => rB.kp (Kp.alloc noB w4 O) (fun f => f)
  have b0 := fun O => (ra O).c0
  have b1 := fun O => (ra O).c1
  have b2 := fun O => (ra O).c2
  clear ra
  go_wp2_with fail
  have kc := Kp.alloc noB w4 (.cells #[.int .i64 5] 3)
  have e0 := (MapKept.heap_alloc w4 (.cells #[.int .i64 5] 3)).1
  refine (HM2.out _ w4.heap.size (h4.kp kc (fun _ _ f => f)) (fun f => by have := nR.out _ f; omega) (by rw [cell_at e0]; rfl)).mono ?_
  rintro e w5 ⟨rfl, h5, k5⟩
  replace rK := (rK.kp kc (fun f => f)).kp k5 nK
  replace rZ := (rZ.kp kc (fun f => f)).kp k5 nZ
  replace k0 := (k0.trans (kp_no kc)).trans k5
  clear h4 kc k5 e0 b0 b1 b2 rB X4
  have d0 := rK.c0; have d1 := rK.c1; have d2 := rK.c2; have d3 := rK.c3; have d4 := rK.c4
  have f0 := rK.fz 0; have f1 := rK.fz 1; have f2 := rK.fz 2; have f3 := rK.fz 3; have f4 := rK.fz 4
  have g0 := rZ.c0; have g1 := rZ.c1; have g2 := rZ.c2; have g3 := rZ.c3; have g4 := rZ.c4
  go_wp2
  have z0 := rK.s0 fr
  have z1 := z0.s1 p
  have z2 := z1.s2 q
  have z3 := z2.s3 false
  have z4 := z3.s4 true
  refine bodyPost_ret (v := .tuple #[.agg #[.int .u32 fr, .int .u32 p, .int .u32 q, .bool false, .bool true], .int .i64 (-1)]) ?_ rfl ⟨rfl, ?_, ?_⟩
  · simp [results, Tryz.results79, go_sem, z0.c0, z1.c1, z2.c2, z3.c3, z4.c4]
  · exact h5.kp (Kp.five_in _ (X + 1) _ _ _ _ _) (fun j hj e => by have := nR.out j hj; omega)
  · exact k0.five (by have := HX.out; omega) _ _ _ _ _

set_option maxRecDepth 100000 in
set_option maxHeartbeats 2000000 in
theorem rfind_ft_tt_f (w : World) (R : Rf) (M M1 M2 : Mem) (c l p q o t fr : Int) (wp t2 t4 : Bool) (h : RefAt w R M) (F : FL R M M1 M2 c l p q o t fr true true true true false t4 false) :
    Calls Tryz.prog 79 #[.pointer (some ⟨R.r, 0, none⟩), .int .u32 c, .int .u32 l, .agg #[.bool false, .bool true, .bool wp]] w fun e w' => e = .returned (.tuple #[.agg #[.int .u32 0, .int .u32 0, .int .u32 0, .bool false, .bool false], .int .i64 5]) ∧ RefAt w' R M ∧ Kp R.has w w' := by
  obtain ⟨c0, c1, l0, l1, p0, p1, q0, q1, o0, o1, t0, t1, ep, eq, ef, rp, rq, ho, ht, ho1, ht1, ho2, ht2, mk1, mk2r, mk2w⟩ := F
  have HO1 : Hid _ := ho1
  have HT1 : Hid _ := ht1
  have HO2 : Hid _ := ho2
  have HT2 : Hid _ := ht2
  have HM1 : Hid _ := mk1
  have HM2 : Hid _ := mk2r rfl
  clear ho1 ht1 ho2 ht2 mk1 mk2r mk2w
  have HP : Hid _ := rp
  have HO : Hid _ := ho
  have HQ : Hid _ := rq
  have HT : Hid _ := ht
  clear rp rq ho ht
  have i0 : 0 ≤ l / 4194304 ∧ l / 4194304 < 1024 := by omega
  have cd : 0 ≤ c - c % 4096 ∧ c - c % 4096 ≤ 4294963200 := by omega
  have i1 : 0 ≤ l / 4096 % 1024 ∧ l / 4096 % 1024 < 1024 := by omega
  have od : 0 ≤ o - o % 4096 ∧ o - o % 4096 ≤ 4294963200 := by omega
  obtain ⟨X, hX⟩ : ∃ X, w.heap.size = X := ⟨_, rfl⟩
  have HX : Hid (w.heap.size = X) := hX
  have k0 : Kp noB w ((w.alloc (.cells #[.bool false, .bool true, .bool wp] 132)).alloc (.cells #[.int .u32 0, .int .u32 0, .int .u32 0, .bool false, .bool false] 145)) := (Kp.alloc _ _ _).trans (Kp.alloc _ _ _)
  have rB : RowB ((w.alloc (.cells #[.bool false, .bool true, .bool wp] 132)).alloc (.cells #[.int .u32 0, .int .u32 0, .int .u32 0, .bool false, .bool false] 145)) X false true wp := by
    have e0 := (MapKept.heap_alloc w (.cells #[.bool false, .bool true, .bool wp] 132)).1
    rw [hX] at e0
    exact (Below.heap_alloc _ _ _ (by simp; omega)).trans e0
  have rK : RowK ((w.alloc (.cells #[.bool false, .bool true, .bool wp] 132)).alloc (.cells #[.int .u32 0, .int .u32 0, .int .u32 0, .bool false, .bool false] 145)) (X + 1) 0 0 0 false false := by
    have e0 := (MapKept.heap_alloc (w.alloc (.cells #[.bool false, .bool true, .bool wp] 132)) (.cells #[.int .u32 0, .int .u32 0, .int .u32 0, .bool false, .bool false] 145)).1
    have e1 : (w.alloc (.cells #[.bool false, .bool true, .bool wp] 132)).heap.size = X + 1 := by simp [hX]
    rw [e1] at e0
    exact e0
  have hR : ∀ k, R.has k → k < X := fun k hk => by rw [← hX]; exact h.lt hk
  have h0 : RefAt ((w.alloc (.cells #[.bool false, .bool true, .bool wp] 132)).alloc (.cells #[.int .u32 0, .int .u32 0, .int .u32 0, .bool false, .bool false] 145)) R M := h.kp k0 (fun _ _ f => f)
  have nR : Hid (∀ k, R.has k → k < X) := hR
  clear hX h hR
  go_enter Tryz.func79, Tryz.ntmps79
  go_wp2_with fail
  refine (HP.out _ h0).mono ?_; rintro e w1 ⟨rfl, k1⟩
  replace rB := rB.kp k1 (fun f => f)
  replace rK := rK.kp k1 (fun f => f)
  replace h0 := h0.kp k1 (fun _ _ f => f)
  replace k0 := k0.trans k1
  clear k1
  rw [HX.out]
  go_wp2_with fail
  refine (HO.out _).mono ?_; rintro e w' ⟨rfl, hw⟩; replace hw := hw.symm; subst hw
  go_wp2_with fail
  refine (HQ.out _ h0).mono ?_; rintro e w2 ⟨rfl, k1⟩
  replace rB := rB.kp k1 (fun f => f)
  replace rK := rK.kp k1 (fun f => f)
  replace h0 := h0.kp k1 (fun _ _ f => f)
  replace k0 := k0.trans k1
  clear k1
  go_wp2_with fail
  refine (HT.out _).mono ?_; rintro e w' ⟨rfl, hw⟩; replace hw := hw.symm; subst hw
  have f0 : 0 ≤ fr := by omega
  have f1 : fr < 4294967296 := by omega
  have ra := fun O => rB.kp (Kp.alloc noB w2 O) (fun f => f)
  have b0 := fun O => (ra O).c0
  have b1 := fun O => (ra O).c1
  have b2 := fun O => (ra O).c2
  clear ra
  go_wp2_with fail
  refine (HO1.out _).mono ?_; rintro e w' ⟨rfl, hw⟩; replace hw := hw.symm; subst hw
  go_wp2_with fail
  refine (HT1.out _).mono ?_; rintro e w' ⟨rfl, hw⟩; replace hw := hw.symm; subst hw
  go_wp2_with fail
  refine (HO2.out _).mono ?_; rintro e w' ⟨rfl, hw⟩; replace hw := hw.symm; subst hw
  have rka := fun O => rK.kp (Kp.alloc noB w2 O) (fun f => f)
  have d0 := fun O => (rka O).c0
  have d1 := fun O => (rka O).c1
  have d2 := fun O => (rka O).c2
  have d3 := fun O => (rka O).c3
  have d4 := fun O => (rka O).c4
  have g0 := fun O => (rka O).fz 0
  have g1 := fun O => (rka O).fz 1
  have g2 := fun O => (rka O).fz 2
  have g3 := fun O => (rka O).fz 3
  have g4 := fun O => (rka O).fz 4
  have ka := Kp.alloc noB w2 (.cells #[.int .u32 fr, .int .u32 p, .int .u32 q, .bool true, .bool false] 145)
  replace rK := rK.kp ka (fun f => f)
  replace h0 := h0.kp ka (fun _ _ f => f)
  replace k0 := kp_no (S := R.has) (k0.trans ka)
  clear ka rka
  go_wp2
  have z0 := rK.s0 0
  have z1 := z0.s1 0
  have z2 := z1.s2 0
  have z3 := z2.s3 false
  have z4 := z3.s4 false
  refine bodyPost_ret (v := .tuple #[.agg #[.int .u32 0, .int .u32 0, .int .u32 0, .bool false, .bool false], .int .i64 5]) ?_ rfl ⟨rfl, ?_, ?_⟩
  · simp [results, Tryz.results79, go_sem, z0.c0, z1.c1, z2.c2, z3.c3, z4.c4]
  · exact h0.kp (Kp.five_in _ (X + 1) _ _ _ _ _) (fun j hj e => by have := nR.out j hj; omega)
  · exact k0.five (by have := HX.out; omega) _ _ _ _ _

set_option maxRecDepth 100000 in
set_option maxHeartbeats 2000000 in
theorem rfind_ft_tt_tf (w : World) (R : Rf) (M M1 M2 : Mem) (c l p q o t fr : Int) (wp t2 t4 : Bool) (h : RefAt w R M) (F : FL R M M1 M2 c l p q o t fr true true true true true false false) :
    Calls Tryz.prog 79 #[.pointer (some ⟨R.r, 0, none⟩), .int .u32 c, .int .u32 l, .agg #[.bool false, .bool true, .bool wp]] w fun e w' => e = .returned (.tuple #[.agg #[.int .u32 0, .int .u32 0, .int .u32 0, .bool false, .bool false], .int .i64 5]) ∧ RefAt w' R M ∧ Kp R.has w w' := by
  obtain ⟨c0, c1, l0, l1, p0, p1, q0, q1, o0, o1, t0, t1, ep, eq, ef, rp, rq, ho, ht, ho1, ht1, ho2, ht2, mk1, mk2r, mk2w⟩ := F
  have HO1 : Hid _ := ho1
  have HT1 : Hid _ := ht1
  have HO2 : Hid _ := ho2
  have HT2 : Hid _ := ht2
  have HM1 : Hid _ := mk1
  have HM2 : Hid _ := mk2r rfl
  clear ho1 ht1 ho2 ht2 mk1 mk2r mk2w
  have HP : Hid _ := rp
  have HO : Hid _ := ho
  have HQ : Hid _ := rq
  have HT : Hid _ := ht
  clear rp rq ho ht
  have i0 : 0 ≤ l / 4194304 ∧ l / 4194304 < 1024 := by omega
  have cd : 0 ≤ c - c % 4096 ∧ c - c % 4096 ≤ 4294963200 := by omega
  have i1 : 0 ≤ l / 4096 % 1024 ∧ l / 4096 % 1024 < 1024 := by omega
  have od : 0 ≤ o - o % 4096 ∧ o - o % 4096 ≤ 4294963200 := by omega
  obtain ⟨X, hX⟩ : ∃ X, w.heap.size = X := ⟨_, rfl⟩
  have HX : Hid (w.heap.size = X) := hX
  have k0 : Kp noB w ((w.alloc (.cells #[.bool false, .bool true, .bool wp] 132)).alloc (.cells #[.int .u32 0, .int .u32 0, .int .u32 0, .bool false, .bool false] 145)) := (Kp.alloc _ _ _).trans (Kp.alloc _ _ _)
  have rB : RowB ((w.alloc (.cells #[.bool false, .bool true, .bool wp] 132)).alloc (.cells #[.int .u32 0, .int .u32 0, .int .u32 0, .bool false, .bool false] 145)) X false true wp := by
    have e0 := (MapKept.heap_alloc w (.cells #[.bool false, .bool true, .bool wp] 132)).1
    rw [hX] at e0
    exact (Below.heap_alloc _ _ _ (by simp; omega)).trans e0
  have rK : RowK ((w.alloc (.cells #[.bool false, .bool true, .bool wp] 132)).alloc (.cells #[.int .u32 0, .int .u32 0, .int .u32 0, .bool false, .bool false] 145)) (X + 1) 0 0 0 false false := by
    have e0 := (MapKept.heap_alloc (w.alloc (.cells #[.bool false, .bool true, .bool wp] 132)) (.cells #[.int .u32 0, .int .u32 0, .int .u32 0, .bool false, .bool false] 145)).1
    have e1 : (w.alloc (.cells #[.bool false, .bool true, .bool wp] 132)).heap.size = X + 1 := by simp [hX]
    rw [e1] at e0
    exact e0
  have hR : ∀ k, R.has k → k < X := fun k hk => by rw [← hX]; exact h.lt hk
  have h0 : RefAt ((w.alloc (.cells #[.bool false, .bool true, .bool wp] 132)).alloc (.cells #[.int .u32 0, .int .u32 0, .int .u32 0, .bool false, .bool false] 145)) R M := h.kp k0 (fun _ _ f => f)
  have nR : Hid (∀ k, R.has k → k < X) := hR
  clear hX h hR
  go_enter Tryz.func79, Tryz.ntmps79
  go_wp2_with fail
  refine (HP.out _ h0).mono ?_; rintro e w1 ⟨rfl, k1⟩
  replace rB := rB.kp k1 (fun f => f)
  replace rK := rK.kp k1 (fun f => f)
  replace h0 := h0.kp k1 (fun _ _ f => f)
  replace k0 := k0.trans k1
  clear k1
  rw [HX.out]
  go_wp2_with fail
  refine (HO.out _).mono ?_; rintro e w' ⟨rfl, hw⟩; replace hw := hw.symm; subst hw
  go_wp2_with fail
  refine (HQ.out _ h0).mono ?_; rintro e w2 ⟨rfl, k1⟩
  replace rB := rB.kp k1 (fun f => f)
  replace rK := rK.kp k1 (fun f => f)
  replace h0 := h0.kp k1 (fun _ _ f => f)
  replace k0 := k0.trans k1
  clear k1
  go_wp2_with fail
  refine (HT.out _).mono ?_; rintro e w' ⟨rfl, hw⟩; replace hw := hw.symm; subst hw
  have f0 : 0 ≤ fr := by omega
  have f1 : fr < 4294967296 := by omega
  have ra := fun O => rB.kp (Kp.alloc noB w2 O) (fun f => f)
  have b0 := fun O => (ra O).c0
  have b1 := fun O => (ra O).c1
  have b2 := fun O => (ra O).c2
  clear ra
  go_wp2_with fail
  refine (HO1.out _).mono ?_; rintro e w' ⟨rfl, hw⟩; replace hw := hw.symm; subst hw
  go_wp2_with fail
  refine (HT1.out _).mono ?_; rintro e w' ⟨rfl, hw⟩; replace hw := hw.symm; subst hw
  go_wp2_with fail
  refine (HO2.out _).mono ?_; rintro e w' ⟨rfl, hw⟩; replace hw := hw.symm; subst hw
  go_wp2_with fail
  refine (HT2.out _).mono ?_; rintro e w' ⟨rfl, hw⟩; replace hw := hw.symm; subst hw
  have rka := fun O => rK.kp (Kp.alloc noB w2 O) (fun f => f)
  have d0 := fun O => (rka O).c0
  have d1 := fun O => (rka O).c1
  have d2 := fun O => (rka O).c2
  have d3 := fun O => (rka O).c3
  have d4 := fun O => (rka O).c4
  have g0 := fun O => (rka O).fz 0
  have g1 := fun O => (rka O).fz 1
  have g2 := fun O => (rka O).fz 2
  have g3 := fun O => (rka O).fz 3
  have g4 := fun O => (rka O).fz 4
  have ka := Kp.alloc noB w2 (.cells #[.int .u32 fr, .int .u32 p, .int .u32 q, .bool true, .bool false] 145)
  replace rK := rK.kp ka (fun f => f)
  replace h0 := h0.kp ka (fun _ _ f => f)
  replace k0 := kp_no (S := R.has) (k0.trans ka)
  clear ka rka
  go_wp2
  have z0 := rK.s0 0
  have z1 := z0.s1 0
  have z2 := z1.s2 0
  have z3 := z2.s3 false
  have z4 := z3.s4 false
  refine bodyPost_ret (v := .tuple #[.agg #[.int .u32 0, .int .u32 0, .int .u32 0, .bool false, .bool false], .int .i64 5]) ?_ rfl ⟨rfl, ?_, ?_⟩
  · simp [results, Tryz.results79, go_sem, z0.c0, z1.c1, z2.c2, z3.c3, z4.c4]
  · exact h0.kp (Kp.five_in _ (X + 1) _ _ _ _ _) (fun j hj e => by have := nR.out j hj; omega)
  · exact k0.five (by have := HX.out; omega) _ _ _ _ _

set_option maxRecDepth 100000 in
set_option maxHeartbeats 2000000 in
theorem rfind_ft_tt_tt (w : World) (R : Rf) (M M1 M2 : Mem) (c l p q o t fr : Int) (wp t2 t4 : Bool) (h : RefAt w R M) (F : FL R M M1 M2 c l p q o t fr true true true true true true false) :
    Calls Tryz.prog 79 #[.pointer (some ⟨R.r, 0, none⟩), .int .u32 c, .int .u32 l, .agg #[.bool false, .bool true, .bool wp]] w fun e w' => e = .returned (.tuple #[.agg #[.int .u32 fr, .int .u32 p, .int .u32 q, .bool true, .bool true], .int .i64 (-1)]) ∧ RefAt w' R M2 ∧ Kp R.has w w' := by
  obtain ⟨c0, c1, l0, l1, p0, p1, q0, q1, o0, o1, t0, t1, ep, eq, ef, rp, rq, ho, ht, ho1, ht1, ho2, ht2, mk1, mk2r, mk2w⟩ := F
  have HO1 : Hid _ := ho1
  have HT1 : Hid _ := ht1
  have HO2 : Hid _ := ho2
  have HT2 : Hid _ := ht2
  have HM1 : Hid _ := mk1
  have HM2 : Hid _ := mk2r rfl
  clear ho1 ht1 ho2 ht2 mk1 mk2r mk2w
  have HP : Hid _ := rp
  have HO : Hid _ := ho
  have HQ : Hid _ := rq
  have HT : Hid _ := ht
  clear rp rq ho ht
  have i0 : 0 ≤ l / 4194304 ∧ l / 4194304 < 1024 := by omega
  have cd : 0 ≤ c - c % 4096 ∧ c - c % 4096 ≤ 4294963200 := by omega
  have i1 : 0 ≤ l / 4096 % 1024 ∧ l / 4096 % 1024 < 1024 := by omega
  have od : 0 ≤ o - o % 4096 ∧ o - o % 4096 ≤ 4294963200 := by omega
  obtain ⟨X, hX⟩ : ∃ X, w.heap.size = X := ⟨_, rfl⟩
  have HX : Hid (w.heap.size = X) := hX
  have k0 : Kp noB w ((w.alloc (.cells #[.bool false, .bool true, .bool wp] 132)).alloc (.cells #[.int .u32 0, .int .u32 0, .int .u32 0, .bool false, .bool false] 145)) := (Kp.alloc _ _ _).trans (Kp.alloc _ _ _)
  have rB : RowB ((w.alloc (.cells #[.bool false, .bool true, .bool wp] 132)).alloc (.cells #[.int .u32 0, .int .u32 0, .int .u32 0, .bool false, .bool false] 145)) X false true wp := by
    have e0 := (MapKept.heap_alloc w (.cells #[.bool false, .bool true, .bool wp] 132)).1
    rw [hX] at e0
    exact (Below.heap_alloc _ _ _ (by simp; omega)).trans e0
  have rK : RowK ((w.alloc (.cells #[.bool false, .bool true, .bool wp] 132)).alloc (.cells #[.int .u32 0, .int .u32 0, .int .u32 0, .bool false, .bool false] 145)) (X + 1) 0 0 0 false false := by
    have e0 := (MapKept.heap_alloc (w.alloc (.cells #[.bool false, .bool true, .bool wp] 132)) (.cells #[.int .u32 0, .int .u32 0, .int .u32 0, .bool false, .bool false] 145)).1
    have e1 : (w.alloc (.cells #[.bool false, .bool true, .bool wp] 132)).heap.size = X + 1 := by simp [hX]
    rw [e1] at e0
    exact e0
  have hR : ∀ k, R.has k → k < X := fun k hk => by rw [← hX]; exact h.lt hk
  have h0 : RefAt ((w.alloc (.cells #[.bool false, .bool true, .bool wp] 132)).alloc (.cells #[.int .u32 0, .int .u32 0, .int .u32 0, .bool false, .bool false] 145)) R M := h.kp k0 (fun _ _ f => f)
  have nR : Hid (∀ k, R.has k → k < X) := hR
  clear hX h hR
  go_enter Tryz.func79, Tryz.ntmps79
  go_wp2_with fail
  refine (HP.out _ h0).mono ?_; rintro e w1 ⟨rfl, k1⟩
  replace rB := rB.kp k1 (fun f => f)
  replace rK := rK.kp k1 (fun f => f)
  replace h0 := h0.kp k1 (fun _ _ f => f)
  replace k0 := k0.trans k1
  clear k1
  rw [HX.out]
  go_wp2_with fail
  refine (HO.out _).mono ?_; rintro e w' ⟨rfl, hw⟩; replace hw := hw.symm; subst hw
  go_wp2_with fail
  refine (HQ.out _ h0).mono ?_; rintro e w2 ⟨rfl, k1⟩
  replace rB := rB.kp k1 (fun f => f)
  replace rK := rK.kp k1 (fun f => f)
  replace h0 := h0.kp k1 (fun _ _ f => f)
  replace k0 := k0.trans k1
  clear k1
  go_wp2_with fail
  refine (HT.out _).mono ?_; rintro e w' ⟨rfl, hw⟩; replace hw := hw.symm; subst hw
  have f0 : 0 ≤ fr := by omega
  have f1 : fr < 4294967296 := by omega
  have ra := fun O => rB.kp (Kp.alloc noB w2 O) (fun f => f)
  have b0 := fun O => (ra O).c0
  have b1 := fun O => (ra O).c1
  have b2 := fun O => (ra O).c2
  clear ra
  go_wp2_with fail
  refine (HO1.out _).mono ?_; rintro e w' ⟨rfl, hw⟩; replace hw := hw.symm; subst hw
  go_wp2_with fail
  refine (HT1.out _).mono ?_; rintro e w' ⟨rfl, hw⟩; replace hw := hw.symm; subst hw
  go_wp2_with fail
  refine (HO2.out _).mono ?_; rintro e w' ⟨rfl, hw⟩; replace hw := hw.symm; subst hw
  go_wp2_with fail
  refine (HT2.out _).mono ?_; rintro e w' ⟨rfl, hw⟩; replace hw := hw.symm; subst hw
  go_wp2_with fail
  have ka := Kp.alloc noB w2 (.cells #[.int .u32 fr, .int .u32 p, .int .u32 q, .bool true, .bool true] 145)
  have rZ : RowK (w2.alloc (.cells #[.int .u32 fr, .int .u32 p, .int .u32 q, .bool true, .bool true] 145)) w2.heap.size fr p q true true := (MapKept.heap_alloc w2 _).1
  have sz : (w2.alloc (.cells #[.int .u32 fr, .int .u32 p, .int .u32 q, .bool true, .bool true] 145)).heap.size = w2.heap.size + 1 := by simp
  have ZX : X + 1 < w2.heap.size := rK.lt
  replace rB := rB.kp ka (fun f => f)
  replace rK := rK.kp ka (fun f => f)
  replace h0 := h0.kp ka (fun _ _ f => f)
  replace k0 := k0.trans ka
  clear ka b0 b1 b2
  obtain ⟨Z, hZ⟩ : ∃ Z, Z = w2.heap.size := ⟨_, rfl⟩
  obtain ⟨w3, hgen⟩ : ∃ W, W = w2.alloc (.cells #[.int .u32 fr, .int .u32 p, .int .u32 q, .bool true, .bool true] 145) := ⟨_, rfl⟩
  rw [← hZ] at rZ sz ZX ⊢
  rw [← hgen] at rB rK h0 k0 rZ sz ⊢
  clear hgen hZ
  have kb := Kp.alloc noB w3 (.cells #[.int .i64 5] 3)
  have c5 : (w3.alloc (.cells #[.int .i64 5] 3)).cell? ⟨Z + 1, 0, none⟩ = some (.int .i64 5) := by
    have e0 := (MapKept.heap_alloc w3 (.cells #[.int .i64 5] 3)).1
    rw [sz] at e0
    rw [cell_at e0]; rfl
  refine (HM1.out _ (Z + 1) (h0.kp kb (fun _ _ f => f)) (fun f => by have := nR.out _ f; omega) c5).mono ?_
  rintro e w4 ⟨rfl, h4, k4⟩
  have nB : ¬ R.has X := fun f => by have := nR.out _ f; omega
  have nK : ¬ R.has (X + 1) := fun f => by have := nR.out _ f; omega
  have nZ : ¬ R.has Z := fun f => by have := nR.out _ f; omega
  replace rB := (rB.kp kb (fun f => f)).kp k4 nB
  replace rK := (rK.kp kb (fun f => f)).kp k4 nK
  replace rZ := (rZ.kp kb (fun f => f)).kp k4 nZ
  replace k0 := (kp_no (S := R.has) (k0.trans kb)).trans k4
  clear h0 kb k4 c5 sz
  have X4 : X + 1 < w4.heap.size := rK.lt
  have ra := fun O => rB.kp (Kp.alloc noB w4 O) (fun f => f)
  have b0 := fun O => (ra O).c0
  have b1 := fun O => (ra O).c1
  have b2 := fun O => (ra O).c2
  clear ra
  go_wp2_with fail
  have kc := Kp.alloc noB w4 (.cells #[.int .i64 5] 3)
  have e0 := (MapKept.heap_alloc w4 (.cells #[.int .i64 5] 3)).1
  refine (HM2.out _ w4.heap.size (h4.kp kc (fun _ _ f => f)) (fun f => by have := nR.out _ f; omega) (by rw [cell_at e0]; rfl)).mono ?_
  rintro e w5 ⟨rfl, h5, k5⟩
  replace rK := (rK.kp kc (fun f => f)).kp k5 nK
  replace rZ := (rZ.kp kc (fun f => f)).kp k5 nZ
  replace k0 := (k0.trans (kp_no kc)).trans k5
  clear h4 kc k5 e0 b0 b1 b2 rB X4
  have d0 := rK.c0; have d1 := rK.c1; have d2 := rK.c2; have d3 := rK.c3; have d4 := rK.c4
  have f0 := rK.fz 0; have f1 := rK.fz 1; have f2 := rK.fz 2; have f3 := rK.fz 3; have f4 := rK.fz 4
  have g0 := rZ.c0; have g1 := rZ.c1; have g2 := rZ.c2; have g3 := rZ.c3; have g4 := rZ.c4
  go_wp2
  have z0 := rK.s0 fr
  have z1 := z0.s1 p
  have z2 := z1.s2 q
  have z3 := z2.s3 true
  have z4 := z3.s4 true
  refine bodyPost_ret (v := .tuple #[.agg #[.int .u32 fr, .int .u32 p, .int .u32 q, .bool true, .bool true], .int .i64 (-1)]) ?_ rfl ⟨rfl, ?_, ?_⟩
  · simp [results, Tryz.results79, go_sem, z0.c0, z1.c1, z2.c2, z3.c3, z4.c4]
  · exact h5.kp (Kp.five_in _ (X + 1) _ _ _ _ _) (fun j hj e => by have := nR.out j hj; omega)
  · exact k0.five (by have := HX.out; omega) _ _ _ _ _

end Go.Proofs.YtmmnnafjikilpaaGreat
