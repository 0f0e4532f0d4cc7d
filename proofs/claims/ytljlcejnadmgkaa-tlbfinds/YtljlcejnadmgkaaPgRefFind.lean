/- The document's own walk: its letters, and the ways without a page. -/
import Derived.Test.YtljlcejnadmgkaaPgRef
import Derived.Test.YtljlcejnadmgkaaPgFind
namespace Go.Proofs.Ytljlcejnadmgkaa
open Go.ChangeShapes Go.WideShapes Go.ChangeAt Go.RowKit Go.Maps
set_option linter.unusedVariables false

/-- All that the walk takes, by letters. -/
structure FL (R : Rf) (M M1 M2 : Mem) (c l p q o t fr : Int) (h1 h2 o2 t2 o4 t4 : Bool) (wr : Bool) : Prop where
  c0 : 0 ≤ c
  c1 : c < 4294967296
  l0 : 0 ≤ l
  l1 : l < 4294967296
  p0 : 0 ≤ p
  p1 : p < 4294967296
  q0 : 0 ≤ q
  q1 : q < 4294967296
  o0 : 0 ≤ o
  o1 : o < 4294967296
  t0 : 0 ≤ t
  t1 : t < 4294967296
  ep : c - c % 4096 + l / 4194304 * 4 = p
  eq : o - o % 4096 + l / 4096 % 1024 * 4 = q
  ef : t - t % 4096 = fr
  rp : ∀ W, RefAt W R M → Calls Try.prog 29 #[.pointer (some ⟨R.r, 0, none⟩), .int .u32 p, .int .i64 4] W fun e w' => e = .returned (.tuple #[.int .u32 o, .int .i64 0]) ∧ Kp noB W w'
  rq : ∀ W, RefAt W R M → Calls Try.prog 29 #[.pointer (some ⟨R.r, 0, none⟩), .int .u32 q, .int .i64 4] W fun e w' => e = .returned (.tuple #[.int .u32 t, .int .i64 0]) ∧ Kp noB W w'
  ho : ∀ W, Calls Try.prog 30 #[.int .u32 o, .int .i64 0] W fun e w' => e = .returned (.bool h1) ∧ w' = W
  ht : ∀ W, Calls Try.prog 30 #[.int .u32 t, .int .i64 0] W fun e w' => e = .returned (.bool h2) ∧ w' = W
  ho1 : ∀ W, Calls Try.prog 30 #[.int .u32 o, .int .i64 1] W fun e w' => e = .returned (.bool o2) ∧ w' = W
  ht1 : ∀ W, Calls Try.prog 30 #[.int .u32 t, .int .i64 1] W fun e w' => e = .returned (.bool t2) ∧ w' = W
  ho2 : ∀ W, Calls Try.prog 30 #[.int .u32 o, .int .i64 2] W fun e w' => e = .returned (.bool o4) ∧ w' = W
  ht2 : ∀ W, Calls Try.prog 30 #[.int .u32 t, .int .i64 2] W fun e w' => e = .returned (.bool t4) ∧ w' = W
  mk1 : ∀ W Y, RefAt W R M → ¬ R.has Y → W.cell? ⟨Y, 0, none⟩ = some (.int .i64 5) → Calls Try.prog 31 #[.pointer (some ⟨R.r, 0, none⟩), .int .u32 p, .slice (some ⟨Y, 0, none⟩) 1 1] W fun e w' => e = .returned (.tuple #[]) ∧ RefAt w' R M1 ∧ Kp R.has W w'
  mk2r : wr = false → ∀ W Y, RefAt W R M1 → ¬ R.has Y → W.cell? ⟨Y, 0, none⟩ = some (.int .i64 5) → Calls Try.prog 31 #[.pointer (some ⟨R.r, 0, none⟩), .int .u32 q, .slice (some ⟨Y, 0, none⟩) 1 1] W fun e w' => e = .returned (.tuple #[]) ∧ RefAt w' R M2 ∧ Kp R.has W w'
  mk2w : wr = true → ∀ W Y, RefAt W R M1 → ¬ R.has Y → W.cell? ⟨Y, 0, none⟩ = some (.int .i64 5) → W.cell? ⟨Y, 1, none⟩ = some (.int .i64 6) → Calls Try.prog 31 #[.pointer (some ⟨R.r, 0, none⟩), .int .u32 q, .slice (some ⟨Y, 0, none⟩) 2 2] W fun e w' => e = .returned (.tuple #[]) ∧ RefAt w' R M2 ∧ Kp R.has W w'

set_option maxRecDepth 100000 in
set_option maxHeartbeats 2000000 in
theorem rfind_no1_ff (w : World) (R : Rf) (M M1 M2 : Mem) (c l p q o t fr : Int) (wp h2 o2 t2 o4 t4 : Bool) (h : RefAt w R M) (F : FL R M M1 M2 c l p q o t fr false h2 o2 t2 o4 t4 false) :
    Calls Try.prog 13 #[.pointer (some ⟨R.r, 0, none⟩), .int .u32 c, .int .u32 l, .agg #[.bool false, .bool false, .bool wp]] w fun e w' => e = .returned (.tuple #[.agg #[.int .u32 0, .int .u32 0, .int .u32 0, .bool false, .bool false], .int .i64 0]) ∧ RefAt w' R M ∧ Kp R.has w w' := by
  obtain ⟨c0, c1, l0, l1, p0, p1, q0, q1, o0, o1, t0, t1, ep, eq, ef, rp, rq, ho, ht, ho1, ht1, ho2, ht2, mk1, mk2r, mk2w⟩ := F
  clear mk1 mk2r mk2w ho1 ht1 ho2 ht2
  have HP : Hid _ := rp
  have HO : Hid _ := ho
  have HQ : Hid _ := rq
  have HT : Hid _ := ht
  clear rp rq ho ht
  have i0 : 0 ≤ l / 4194304 ∧ l / 4194304 < 1024 := by omega
  have cd : 0 ≤ c - c % 4096 ∧ c - c % 4096 ≤ 4294963200 := by omega
  have i1 : 0 ≤ l / 4096 % 1024 ∧ l / 4096 % 1024 < 1024 := by omega
  have od : 0 ≤ o - o % 4096 ∧ o - o % 4096 ≤ 4294963200 := by omega
  obtain ⟨X, hX⟩ : ∃ X, w.heap.size = X := ⟨_, rfl⟩
  have HX : Hid (w.heap.size = X) := hX
  have k0 : Kp noB w ((w.alloc (.cells #[.bool false, .bool false, .bool wp] 37)).alloc (.cells #[.int .u32 0, .int .u32 0, .int .u32 0, .bool false, .bool false] 45)) := (Kp.alloc _ _ _).trans (Kp.alloc _ _ _)
  have rB : RowB ((w.alloc (.cells #[.bool false, .bool false, .bool wp] 37)).alloc (.cells #[.int .u32 0, .int .u32 0, .int .u32 0, .bool false, .bool false] 45)) X false false wp := by
    have e0 := (MapKept.heap_alloc w (.cells #[.bool false, .bool false, .bool wp] 37)).1
    rw [hX] at e0
    exact (Below.heap_alloc _ _ _ (by simp; omega)).trans e0
  have rK : RowK ((w.alloc (.cells #[.bool false, .bool false, .bool wp] 37)).alloc (.cells #[.int .u32 0, .int .u32 0, .int .u32 0, .bool false, .bool false] 45)) (X + 1) 0 0 0 false false := by
    have e0 := (MapKept.heap_alloc (w.alloc (.cells #[.bool false, .bool false, .bool wp] 37)) (.cells #[.int .u32 0, .int .u32 0, .int .u32 0, .bool false, .bool false] 45)).1
    have e1 : (w.alloc (.cells #[.bool false, .bool false, .bool wp] 37)).heap.size = X + 1 := by simp [hX]
    rw [e1] at e0
    exact e0
  have hR : ∀ k, R.has k → k < X := fun k hk => by rw [← hX]; exact h.lt hk
  have h0 : RefAt ((w.alloc (.cells #[.bool false, .bool false, .bool wp] 37)).alloc (.cells #[.int .u32 0, .int .u32 0, .int .u32 0, .bool false, .bool false] 45)) R M := h.kp k0 (fun _ _ f => f)
  have nR : Hid (∀ k, R.has k → k < X) := hR
  clear hX h hR
  go_enter Try.func13, Try.ntmps13
  go_wp2_with fail
  refine (HP.out _ h0).mono ?_; rintro e w1 ⟨rfl, k1⟩
  replace rB := rB.kp k1 (fun f => f)
  replace rK := rK.kp k1 (fun f => f)
  replace h0 := h0.kp k1 (fun _ _ f => f)
  replace k0 := k0.trans k1
  clear k1
  rw [HX.out]
  go_wp2_with fail
  refine (HO.out _).mono ?_; rintro e w' ⟨rfl, hw⟩; replace hw := hw.symm; subst hw
  have d0 := rK.c0; have d1 := rK.c1; have d2 := rK.c2; have d3 := rK.c3; have d4 := rK.c4
  have f0 := rK.fz 0; have f1 := rK.fz 1; have f2 := rK.fz 2; have f3 := rK.fz 3; have f4 := rK.fz 4
  replace k0 := kp_no (S := R.has) k0
  go_wp2
  have z0 := rK.s0 0
  have z1 := z0.s1 0
  have z2 := z1.s2 0
  have z3 := z2.s3 false
  have z4 := z3.s4 false
  refine bodyPost_ret (v := .tuple #[.agg #[.int .u32 0, .int .u32 0, .int .u32 0, .bool false, .bool false], .int .i64 0]) ?_ rfl ⟨rfl, ?_, ?_⟩
  · simp [results, Try.results13, go_sem, z0.c0, z1.c1, z2.c2, z3.c3, z4.c4]
  · exact h0.kp (Kp.five_in _ (X + 1) _ _ _ _ _) (fun j hj e => by have := nR.out j hj; omega)
  · exact k0.five (by have := HX.out; omega) _ _ _ _ _

set_option maxRecDepth 100000 in
set_option maxHeartbeats 2000000 in
theorem rfind_no1_ft (w : World) (R : Rf) (M M1 M2 : Mem) (c l p q o t fr : Int) (wp h2 o2 t2 o4 t4 : Bool) (h : RefAt w R M) (F : FL R M M1 M2 c l p q o t fr false h2 o2 t2 o4 t4 false) :
    Calls Try.prog 13 #[.pointer (some ⟨R.r, 0, none⟩), .int .u32 c, .int .u32 l, .agg #[.bool false, .bool true, .bool wp]] w fun e w' => e = .returned (.tuple #[.agg #[.int .u32 0, .int .u32 0, .int .u32 0, .bool false, .bool false], .int .i64 4]) ∧ RefAt w' R M ∧ Kp R.has w w' := by
  obtain ⟨c0, c1, l0, l1, p0, p1, q0, q1, o0, o1, t0, t1, ep, eq, ef, rp, rq, ho, ht, ho1, ht1, ho2, ht2, mk1, mk2r, mk2w⟩ := F
  clear mk1 mk2r mk2w ho1 ht1 ho2 ht2
  have HP : Hid _ := rp
  have HO : Hid _ := ho
  have HQ : Hid _ := rq
  have HT : Hid _ := ht
  clear rp rq ho ht
  have i0 : 0 ≤ l / 4194304 ∧ l / 4194304 < 1024 := by omega
  have cd : 0 ≤ c - c % 4096 ∧ c - c % 4096 ≤ 4294963200 := by omega
  have i1 : 0 ≤ l / 4096 % 1024 ∧ l / 4096 % 1024 < 1024 := by omega
  have od : 0 ≤ o - o % 4096 ∧ o - o % 4096 ≤ 4294963200 := by omega
  obtain ⟨X, hX⟩ : ∃ X, w.heap.size = X := ⟨_, rfl⟩
  have HX : Hid (w.heap.size = X) := hX
  have k0 : Kp noB w ((w.alloc (.cells #[.bool false, .bool true, .bool wp] 37)).alloc (.cells #[.int .u32 0, .int .u32 0, .int .u32 0, .bool false, .bool false] 45)) := (Kp.alloc _ _ _).trans (Kp.alloc _ _ _)
  have rB : RowB ((w.alloc (.cells #[.bool false, .bool true, .bool wp] 37)).alloc (.cells #[.int .u32 0, .int .u32 0, .int .u32 0, .bool false, .bool false] 45)) X false true wp := by
    have e0 := (MapKept.heap_alloc w (.cells #[.bool false, .bool true, .bool wp] 37)).1
    rw [hX] at e0
    exact (Below.heap_alloc _ _ _ (by simp; omega)).trans e0
  have rK : RowK ((w.alloc (.cells #[.bool false, .bool true, .bool wp] 37)).alloc (.cells #[.int .u32 0, .int .u32 0, .int .u32 0, .bool false, .bool false] 45)) (X + 1) 0 0 0 false false := by
    have e0 := (MapKept.heap_alloc (w.alloc (.cells #[.bool false, .bool true, .bool wp] 37)) (.cells #[.int .u32 0, .int .u32 0, .int .u32 0, .bool false, .bool false] 45)).1
    have e1 : (w.alloc (.cells #[.bool false, .bool true, .bool wp] 37)).heap.size = X + 1 := by simp [hX]
    rw [e1] at e0
    exact e0
  have hR : ∀ k, R.has k → k < X := fun k hk => by rw [← hX]; exact h.lt hk
  have h0 : RefAt ((w.alloc (.cells #[.bool false, .bool true, .bool wp] 37)).alloc (.cells #[.int .u32 0, .int .u32 0, .int .u32 0, .bool false, .bool false] 45)) R M := h.kp k0 (fun _ _ f => f)
  have nR : Hid (∀ k, R.has k → k < X) := hR
  clear hX h hR
  go_enter Try.func13, Try.ntmps13
  go_wp2_with fail
  refine (HP.out _ h0).mono ?_; rintro e w1 ⟨rfl, k1⟩
  replace rB := rB.kp k1 (fun f => f)
  replace rK := rK.kp k1 (fun f => f)
  replace h0 := h0.kp k1 (fun _ _ f => f)
  replace k0 := k0.trans k1
  clear k1
  rw [HX.out]
  go_wp2_with fail
  refine (HO.out _).mono ?_; rintro e w' ⟨rfl, hw⟩; replace hw := hw.symm; subst hw
  have d0 := rK.c0; have d1 := rK.c1; have d2 := rK.c2; have d3 := rK.c3; have d4 := rK.c4
  have f0 := rK.fz 0; have f1 := rK.fz 1; have f2 := rK.fz 2; have f3 := rK.fz 3; have f4 := rK.fz 4
  replace k0 := kp_no (S := R.has) k0
  go_wp2
  have z0 := rK.s0 0
  have z1 := z0.s1 0
  have z2 := z1.s2 0
  have z3 := z2.s3 false
  have z4 := z3.s4 false
  refine bodyPost_ret (v := .tuple #[.agg #[.int .u32 0, .int .u32 0, .int .u32 0, .bool false, .bool false], .int .i64 4]) ?_ rfl ⟨rfl, ?_, ?_⟩
  · simp [results, Try.results13, go_sem, z0.c0, z1.c1, z2.c2, z3.c3, z4.c4]
  · exact h0.kp (Kp.five_in _ (X + 1) _ _ _ _ _) (fun j hj e => by have := nR.out j hj; omega)
  · exact k0.five (by have := HX.out; omega) _ _ _ _ _

set_option maxRecDepth 100000 in
set_option maxHeartbeats 2000000 in
theorem rfind_no1_tf (w : World) (R : Rf) (M M1 M2 : Mem) (c l p q o t fr : Int) (wp h2 o2 t2 o4 t4 : Bool) (h : RefAt w R M) (F : FL R M M1 M2 c l p q o t fr false h2 o2 t2 o4 t4 true) :
    Calls Try.prog 13 #[.pointer (some ⟨R.r, 0, none⟩), .int .u32 c, .int .u32 l, .agg #[.bool true, .bool false, .bool wp]] w fun e w' => e = .returned (.tuple #[.agg #[.int .u32 0, .int .u32 0, .int .u32 0, .bool false, .bool false], .int .i64 2]) ∧ RefAt w' R M ∧ Kp R.has w w' := by
  obtain ⟨c0, c1, l0, l1, p0, p1, q0, q1, o0, o1, t0, t1, ep, eq, ef, rp, rq, ho, ht, ho1, ht1, ho2, ht2, mk1, mk2r, mk2w⟩ := F
  clear mk1 mk2r mk2w ho1 ht1 ho2 ht2
  have HP : Hid _ := rp
  have HO : Hid _ := ho
  have HQ : Hid _ := rq
  have HT : Hid _ := ht
  clear rp rq ho ht
  have i0 : 0 ≤ l / 4194304 ∧ l / 4194304 < 1024 := by omega
  have cd : 0 ≤ c - c % 4096 ∧ c - c % 4096 ≤ 4294963200 := by omega
  have i1 : 0 ≤ l / 4096 % 1024 ∧ l / 4096 % 1024 < 1024 := by omega
  have od : 0 ≤ o - o % 4096 ∧ o - o % 4096 ≤ 4294963200 := by omega
  obtain ⟨X, hX⟩ : ∃ X, w.heap.size = X := ⟨_, rfl⟩
  have HX : Hid (w.heap.size = X) := hX
  have k0 : Kp noB w ((w.alloc (.cells #[.bool true, .bool false, .bool wp] 37)).alloc (.cells #[.int .u32 0, .int .u32 0, .int .u32 0, .bool false, .bool false] 45)) := (Kp.alloc _ _ _).trans (Kp.alloc _ _ _)
  have rB : RowB ((w.alloc (.cells #[.bool true, .bool false, .bool wp] 37)).alloc (.cells #[.int .u32 0, .int .u32 0, .int .u32 0, .bool false, .bool false] 45)) X true false wp := by
    have e0 := (MapKept.heap_alloc w (.cells #[.bool true, .bool false, .bool wp] 37)).1
    rw [hX] at e0
    exact (Below.heap_alloc _ _ _ (by simp; omega)).trans e0
  have rK : RowK ((w.alloc (.cells #[.bool true, .bool false, .bool wp] 37)).alloc (.cells #[.int .u32 0, .int .u32 0, .int .u32 0, .bool false, .bool false] 45)) (X + 1) 0 0 0 false false := by
    have e0 := (MapKept.heap_alloc (w.alloc (.cells #[.bool true, .bool false, .bool wp] 37)) (.cells #[.int .u32 0, .int .u32 0, .int .u32 0, .bool false, .bool false] 45)).1
    have e1 : (w.alloc (.cells #[.bool true, .bool false, .bool wp] 37)).heap.size = X + 1 := by simp [hX]
    rw [e1] at e0
    exact e0
  have hR : ∀ k, R.has k → k < X := fun k hk => by rw [← hX]; exact h.lt hk
  have h0 : RefAt ((w.alloc (.cells #[.bool true, .bool false, .bool wp] 37)).alloc (.cells #[.int .u32 0, .int .u32 0, .int .u32 0, .bool false, .bool false] 45)) R M := h.kp k0 (fun _ _ f => f)
  have nR : Hid (∀ k, R.has k → k < X) := hR
  clear hX h hR
  go_enter Try.func13, Try.ntmps13
  go_wp2_with fail
  refine (HP.out _ h0).mono ?_; rintro e w1 ⟨rfl, k1⟩
  replace rB := rB.kp k1 (fun f => f)
  replace rK := rK.kp k1 (fun f => f)
  replace h0 := h0.kp k1 (fun _ _ f => f)
  replace k0 := k0.trans k1
  clear k1
  rw [HX.out]
  go_wp2_with fail
  refine (HO.out _).mono ?_; rintro e w' ⟨rfl, hw⟩; replace hw := hw.symm; subst hw
  have d0 := rK.c0; have d1 := rK.c1; have d2 := rK.c2; have d3 := rK.c3; have d4 := rK.c4
  have f0 := rK.fz 0; have f1 := rK.fz 1; have f2 := rK.fz 2; have f3 := rK.fz 3; have f4 := rK.fz 4
  replace k0 := kp_no (S := R.has) k0
  go_wp2
  have z0 := rK.s0 0
  have z1 := z0.s1 0
  have z2 := z1.s2 0
  have z3 := z2.s3 false
  have z4 := z3.s4 false
  refine bodyPost_ret (v := .tuple #[.agg #[.int .u32 0, .int .u32 0, .int .u32 0, .bool false, .bool false], .int .i64 2]) ?_ rfl ⟨rfl, ?_, ?_⟩
  · simp [results, Try.results13, go_sem, z0.c0, z1.c1, z2.c2, z3.c3, z4.c4]
  · exact h0.kp (Kp.five_in _ (X + 1) _ _ _ _ _) (fun j hj e => by have := nR.out j hj; omega)
  · exact k0.five (by have := HX.out; omega) _ _ _ _ _

set_option maxRecDepth 100000 in
set_option maxHeartbeats 2000000 in
theorem rfind_no1_tt (w : World) (R : Rf) (M M1 M2 : Mem) (c l p q o t fr : Int) (wp h2 o2 t2 o4 t4 : Bool) (h : RefAt w R M) (F : FL R M M1 M2 c l p q o t fr false h2 o2 t2 o4 t4 true) :
    Calls Try.prog 13 #[.pointer (some ⟨R.r, 0, none⟩), .int .u32 c, .int .u32 l, .agg #[.bool true, .bool true, .bool wp]] w fun e w' => e = .returned (.tuple #[.agg #[.int .u32 0, .int .u32 0, .int .u32 0, .bool false, .bool false], .int .i64 6]) ∧ RefAt w' R M ∧ Kp R.has w w' := by
  obtain ⟨c0, c1, l0, l1, p0, p1, q0, q1, o0, o1, t0, t1, ep, eq, ef, rp, rq, ho, ht, ho1, ht1, ho2, ht2, mk1, mk2r, mk2w⟩ := F
  clear mk1 mk2r mk2w ho1 ht1 ho2 ht2
  have HP : Hid _ := rp
  have HO : Hid _ := ho
  have HQ : Hid _ := rq
  have HT : Hid _ := ht
  clear rp rq ho ht
  have i0 : 0 ≤ l / 4194304 ∧ l / 4194304 < 1024 := by omega
  have cd : 0 ≤ c - c % 4096 ∧ c - c % 4096 ≤ 4294963200 := by omega
  have i1 : 0 ≤ l / 4096 % 1024 ∧ l / 4096 % 1024 < 1024 := by omega
  have od : 0 ≤ o - o % 4096 ∧ o - o % 4096 ≤ 4294963200 := by omega
  obtain ⟨X, hX⟩ : ∃ X, w.heap.size = X := ⟨_, rfl⟩
  have HX : Hid (w.heap.size = X) := hX
  have k0 : Kp noB w ((w.alloc (.cells #[.bool true, .bool true, .bool wp] 37)).alloc (.cells #[.int .u32 0, .int .u32 0, .int .u32 0, .bool false, .bool false] 45)) := (Kp.alloc _ _ _).trans (Kp.alloc _ _ _)
  have rB : RowB ((w.alloc (.cells #[.bool true, .bool true, .bool wp] 37)).alloc (.cells #[.int .u32 0, .int .u32 0, .int .u32 0, .bool false, .bool false] 45)) X true true wp := by
    have e0 := (MapKept.heap_alloc w (.cells #[.bool true, .bool true, .bool wp] 37)).1
    rw [hX] at e0
    exact (Below.heap_alloc _ _ _ (by simp; omega)).trans e0
  have rK : RowK ((w.alloc (.cells #[.bool true, .bool true, .bool wp] 37)).alloc (.cells #[.int .u32 0, .int .u32 0, .int .u32 0, .bool false, .bool false] 45)) (X + 1) 0 0 0 false false := by
    have e0 := (MapKept.heap_alloc (w.alloc (.cells #[.bool true, .bool true, .bool wp] 37)) (.cells #[.int .u32 0, .int .u32 0, .int .u32 0, .bool false, .bool false] 45)).1
    have e1 : (w.alloc (.cells #[.bool true, .bool true, .bool wp] 37)).heap.size = X + 1 := by simp [hX]
    rw [e1] at e0
    exact e0
  have hR : ∀ k, R.has k → k < X := fun k hk => by rw [← hX]; exact h.lt hk
  have h0 : RefAt ((w.alloc (.cells #[.bool true, .bool true, .bool wp] 37)).alloc (.cells #[.int .u32 0, .int .u32 0, .int .u32 0, .bool false, .bool false] 45)) R M := h.kp k0 (fun _ _ f => f)
  have nR : Hid (∀ k, R.has k → k < X) := hR
  clear hX h hR
  go_enter Try.func13, Try.ntmps13
  go_wp2_with fail
  refine (HP.out _ h0).mono ?_; rintro e w1 ⟨rfl, k1⟩
  replace rB := rB.kp k1 (fun f => f)
  replace rK := rK.kp k1 (fun f => f)
  replace h0 := h0.kp k1 (fun _ _ f => f)
  replace k0 := k0.trans k1
  clear k1
  rw [HX.out]
  go_wp2_with fail
  refine (HO.out _).mono ?_; rintro e w' ⟨rfl, hw⟩; replace hw := hw.symm; subst hw
  have d0 := rK.c0; have d1 := rK.c1; have d2 := rK.c2; have d3 := rK.c3; have d4 := rK.c4
  have f0 := rK.fz 0; have f1 := rK.fz 1; have f2 := rK.fz 2; have f3 := rK.fz 3; have f4 := rK.fz 4
  replace k0 := kp_no (S := R.has) k0
  go_wp2
  have z0 := rK.s0 0
  have z1 := z0.s1 0
  have z2 := z1.s2 0
  have z3 := z2.s3 false
  have z4 := z3.s4 false
  refine bodyPost_ret (v := .tuple #[.agg #[.int .u32 0, .int .u32 0, .int .u32 0, .bool false, .bool false], .int .i64 6]) ?_ rfl ⟨rfl, ?_, ?_⟩
  · simp [results, Try.results13, go_sem, z0.c0, z1.c1, z2.c2, z3.c3, z4.c4]
  · exact h0.kp (Kp.five_in _ (X + 1) _ _ _ _ _) (fun j hj e => by have := nR.out j hj; omega)
  · exact k0.five (by have := HX.out; omega) _ _ _ _ _

set_option maxRecDepth 100000 in
set_option maxHeartbeats 2000000 in
theorem rfind_no2_ff (w : World) (R : Rf) (M M1 M2 : Mem) (c l p q o t fr : Int) (wp h2 o2 t2 o4 t4 : Bool) (h : RefAt w R M) (F : FL R M M1 M2 c l p q o t fr true false o2 t2 o4 t4 false) :
    Calls Try.prog 13 #[.pointer (some ⟨R.r, 0, none⟩), .int .u32 c, .int .u32 l, .agg #[.bool false, .bool false, .bool wp]] w fun e w' => e = .returned (.tuple #[.agg #[.int .u32 0, .int .u32 0, .int .u32 0, .bool false, .bool false], .int .i64 0]) ∧ RefAt w' R M ∧ Kp R.has w w' := by
  obtain ⟨c0, c1, l0, l1, p0, p1, q0, q1, o0, o1, t0, t1, ep, eq, ef, rp, rq, ho, ht, ho1, ht1, ho2, ht2, mk1, mk2r, mk2w⟩ := F
  clear mk1 mk2r mk2w ho1 ht1 ho2 ht2
  have HP : Hid _ := rp
  have HO : Hid _ := ho
  have HQ : Hid _ := rq
  have HT : Hid _ := ht
  clear rp rq ho ht
  have i0 : 0 ≤ l / 4194304 ∧ l / 4194304 < 1024 := by omega
  have cd : 0 ≤ c - c % 4096 ∧ c - c % 4096 ≤ 4294963200 := by omega
  have i1 : 0 ≤ l / 4096 % 1024 ∧ l / 4096 % 1024 < 1024 := by omega
  have od : 0 ≤ o - o % 4096 ∧ o - o % 4096 ≤ 4294963200 := by omega
  obtain ⟨X, hX⟩ : ∃ X, w.heap.size = X := ⟨_, rfl⟩
  have HX : Hid (w.heap.size = X) := hX
  have k0 : Kp noB w ((w.alloc (.cells #[.bool false, .bool false, .bool wp] 37)).alloc (.cells #[.int .u32 0, .int .u32 0, .int .u32 0, .bool false, .bool false] 45)) := (Kp.alloc _ _ _).trans (Kp.alloc _ _ _)
  have rB : RowB ((w.alloc (.cells #[.bool false, .bool false, .bool wp] 37)).alloc (.cells #[.int .u32 0, .int .u32 0, .int .u32 0, .bool false, .bool false] 45)) X false false wp := by
    have e0 := (MapKept.heap_alloc w (.cells #[.bool false, .bool false, .bool wp] 37)).1
    rw [hX] at e0
    exact (Below.heap_alloc _ _ _ (by simp; omega)).trans e0
  have rK : RowK ((w.alloc (.cells #[.bool false, .bool false, .bool wp] 37)).alloc (.cells #[.int .u32 0, .int .u32 0, .int .u32 0, .bool false, .bool false] 45)) (X + 1) 0 0 0 false false := by
    have e0 := (MapKept.heap_alloc (w.alloc (.cells #[.bool false, .bool false, .bool wp] 37)) (.cells #[.int .u32 0, .int .u32 0, .int .u32 0, .bool false, .bool false] 45)).1
    have e1 : (w.alloc (.cells #[.bool false, .bool false, .bool wp] 37)).heap.size = X + 1 := by simp [hX]
    rw [e1] at e0
    exact e0
  have hR : ∀ k, R.has k → k < X := fun k hk => by rw [← hX]; exact h.lt hk
  have h0 : RefAt ((w.alloc (.cells #[.bool false, .bool false, .bool wp] 37)).alloc (.cells #[.int .u32 0, .int .u32 0, .int .u32 0, .bool false, .bool false] 45)) R M := h.kp k0 (fun _ _ f => f)
  have nR : Hid (∀ k, R.has k → k < X) := hR
  clear hX h hR
  go_enter Try.func13, Try.ntmps13
  go_wp2_with fail
  refine (HP.out _ h0).mono ?_; rintro e w1 ⟨rfl, k1⟩
  replace rB := rB.kp k1 (fun f => f)
  replace rK := rK.kp k1 (fun f => f)
  replace h0 := h0.kp k1 (fun _ _ f => f)
  replace k0 := k0.trans k1
  clear k1
  rw [HX.out]
  go_wp2_with fail
  refine (HO.out _).mono ?_; rintro e w' ⟨rfl, hw⟩; replace hw := hw.symm; subst hw
  go_wp2_with fail
  refine (HQ.out _ h0).mono ?_; rintro e w2 ⟨rfl, k1⟩
  replace rB := rB.kp k1 (fun f => f)
  replace rK := rK.kp k1 (fun f => f)
  replace h0 := h0.kp k1 (fun _ _ f => f)
  replace k0 := k0.trans k1
  clear k1
  go_wp2_with fail
  refine (HT.out _).mono ?_; rintro e w' ⟨rfl, hw⟩; replace hw := hw.symm; subst hw
  have d0 := rK.c0; have d1 := rK.c1; have d2 := rK.c2; have d3 := rK.c3; have d4 := rK.c4
  have f0 := rK.fz 0; have f1 := rK.fz 1; have f2 := rK.fz 2; have f3 := rK.fz 3; have f4 := rK.fz 4
  replace k0 := kp_no (S := R.has) k0
  go_wp2
  have z0 := rK.s0 0
  have z1 := z0.s1 0
  have z2 := z1.s2 0
  have z3 := z2.s3 false
  have z4 := z3.s4 false
  refine bodyPost_ret (v := .tuple #[.agg #[.int .u32 0, .int .u32 0, .int .u32 0, .bool false, .bool false], .int .i64 0]) ?_ rfl ⟨rfl, ?_, ?_⟩
  · simp [results, Try.results13, go_sem, z0.c0, z1.c1, z2.c2, z3.c3, z4.c4]
  · exact h0.kp (Kp.five_in _ (X + 1) _ _ _ _ _) (fun j hj e => by have := nR.out j hj; omega)
  · exact k0.five (by have := HX.out; omega) _ _ _ _ _

set_option maxRecDepth 100000 in
set_option maxHeartbeats 2000000 in
theorem rfind_no2_ft (w : World) (R : Rf) (M M1 M2 : Mem) (c l p q o t fr : Int) (wp h2 o2 t2 o4 t4 : Bool) (h : RefAt w R M) (F : FL R M M1 M2 c l p q o t fr true false o2 t2 o4 t4 false) :
    Calls Try.prog 13 #[.pointer (some ⟨R.r, 0, none⟩), .int .u32 c, .int .u32 l, .agg #[.bool false, .bool true, .bool wp]] w fun e w' => e = .returned (.tuple #[.agg #[.int .u32 0, .int .u32 0, .int .u32 0, .bool false, .bool false], .int .i64 4]) ∧ RefAt w' R M ∧ Kp R.has w w' := by
  obtain ⟨c0, c1, l0, l1, p0, p1, q0, q1, o0, o1, t0, t1, ep, eq, ef, rp, rq, ho, ht, ho1, ht1, ho2, ht2, mk1, mk2r, mk2w⟩ := F
  clear mk1 mk2r mk2w ho1 ht1 ho2 ht2
  have HP : Hid _ := rp
  have HO : Hid _ := ho
  have HQ : Hid _ := rq
  have HT : Hid _ := ht
  clear rp rq ho ht
  have i0 : 0 ≤ l / 4194304 ∧ l / 4194304 < 1024 := by omega
  have cd : 0 ≤ c - c % 4096 ∧ c - c % 4096 ≤ 4294963200 := by omega
  have i1 : 0 ≤ l / 4096 % 1024 ∧ l / 4096 % 1024 < 1024 := by omega
  have od : 0 ≤ o - o % 4096 ∧ o - o % 4096 ≤ 4294963200 := by omega
  obtain ⟨X, hX⟩ : ∃ X, w.heap.size = X := ⟨_, rfl⟩
  have HX : Hid (w.heap.size = X) := hX
  have k0 : Kp noB w ((w.alloc (.cells #[.bool false, .bool true, .bool wp] 37)).alloc (.cells #[.int .u32 0, .int .u32 0, .int .u32 0, .bool false, .bool false] 45)) := (Kp.alloc _ _ _).trans (Kp.alloc _ _ _)
  have rB : RowB ((w.alloc (.cells #[.bool false, .bool true, .bool wp] 37)).alloc (.cells #[.int .u32 0, .int .u32 0, .int .u32 0, .bool false, .bool false] 45)) X false true wp := by
    have e0 := (MapKept.heap_alloc w (.cells #[.bool false, .bool true, .bool wp] 37)).1
    rw [hX] at e0
    exact (Below.heap_alloc _ _ _ (by simp; omega)).trans e0
  have rK : RowK ((w.alloc (.cells #[.bool false, .bool true, .bool wp] 37)).alloc (.cells #[.int .u32 0, .int .u32 0, .int .u32 0, .bool false, .bool false] 45)) (X + 1) 0 0 0 false false := by
    have e0 := (MapKept.heap_alloc (w.alloc (.cells #[.bool false, .bool true, .bool wp] 37)) (.cells #[.int .u32 0, .int .u32 0, .int .u32 0, .bool false, .bool false] 45)).1
    have e1 : (w.alloc (.cells #[.bool false, .bool true, .bool wp] 37)).heap.size = X + 1 := by simp [hX]
    rw [e1] at e0
    exact e0
  have hR : ∀ k, R.has k → k < X := fun k hk => by rw [← hX]; exact h.lt hk
  have h0 : RefAt ((w.alloc (.cells #[.bool false, .bool true, .bool wp] 37)).alloc (.cells #[.int .u32 0, .int .u32 0, .int .u32 0, .bool false, .bool false] 45)) R M := h.kp k0 (fun _ _ f => f)
  have nR : Hid (∀ k, R.has k → k < X) := hR
  clear hX h hR
  go_enter Try.func13, Try.ntmps13
  go_wp2_with fail
  refine (HP.out _ h0).mono ?_; rintro e w1 ⟨rfl, k1⟩
  replace rB := rB.kp k1 (fun f => f)
  replace rK := rK.kp k1 (fun f => f)
  replace h0 := h0.kp k1 (fun _ _ f => f)
  replace k0 := k0.trans k1
  clear k1
  rw [HX.out]
  go_wp2_with fail
  refine (HO.out _).mono ?_; rintro e w' ⟨rfl, hw⟩; replace hw := hw.symm; subst hw
  go_wp2_with fail
  refine (HQ.out _ h0).mono ?_; rintro e w2 ⟨rfl, k1⟩
  replace rB := rB.kp k1 (fun f => f)
  replace rK := rK.kp k1 (fun f => f)
  replace h0 := h0.kp k1 (fun _ _ f => f)
  replace k0 := k0.trans k1
  clear k1
  go_wp2_with fail
  refine (HT.out _).mono ?_; rintro e w' ⟨rfl, hw⟩; replace hw := hw.symm; subst hw
  have d0 := rK.c0; have d1 := rK.c1; have d2 := rK.c2; have d3 := rK.c3; have d4 := rK.c4
  have f0 := rK.fz 0; have f1 := rK.fz 1; have f2 := rK.fz 2; have f3 := rK.fz 3; have f4 := rK.fz 4
  replace k0 := kp_no (S := R.has) k0
  go_wp2
  have z0 := rK.s0 0
  have z1 := z0.s1 0
  have z2 := z1.s2 0
  have z3 := z2.s3 false
  have z4 := z3.s4 false
  refine bodyPost_ret (v := .tuple #[.agg #[.int .u32 0, .int .u32 0, .int .u32 0, .bool false, .bool false], .int .i64 4]) ?_ rfl ⟨rfl, ?_, ?_⟩
  · simp [results, Try.results13, go_sem, z0.c0, z1.c1, z2.c2, z3.c3, z4.c4]
  · exact h0.kp (Kp.five_in _ (X + 1) _ _ _ _ _) (fun j hj e => by have := nR.out j hj; omega)
  · exact k0.five (by have := HX.out; omega) _ _ _ _ _

set_option maxRecDepth 100000 in
set_option maxHeartbeats 2000000 in
theorem rfind_no2_tf (w : World) (R : Rf) (M M1 M2 : Mem) (c l p q o t fr : Int) (wp h2 o2 t2 o4 t4 : Bool) (h : RefAt w R M) (F : FL R M M1 M2 c l p q o t fr true false o2 t2 o4 t4 true) :
    Calls Try.prog 13 #[.pointer (some ⟨R.r, 0, none⟩), .int .u32 c, .int .u32 l, .agg #[.bool true, .bool false, .bool wp]] w fun e w' => e = .returned (.tuple #[.agg #[.int .u32 0, .int .u32 0, .int .u32 0, .bool false, .bool false], .int .i64 2]) ∧ RefAt w' R M ∧ Kp R.has w w' := by
  obtain ⟨c0, c1, l0, l1, p0, p1, q0, q1, o0, o1, t0, t1, ep, eq, ef, rp, rq, ho, ht, ho1, ht1, ho2, ht2, mk1, mk2r, mk2w⟩ := F
  clear mk1 mk2r mk2w ho1 ht1 ho2 ht2
  have HP : Hid _ := rp
  have HO : Hid _ := ho
  have HQ : Hid _ := rq
  have HT : Hid _ := ht
  clear rp rq ho ht
  have i0 : 0 ≤ l / 4194304 ∧ l / 4194304 < 1024 := by omega
  have cd : 0 ≤ c - c % 4096 ∧ c - c % 4096 ≤ 4294963200 := by omega
  have i1 : 0 ≤ l / 4096 % 1024 ∧ l / 4096 % 1024 < 1024 := by omega
  have od : 0 ≤ o - o % 4096 ∧ o - o % 4096 ≤ 4294963200 := by omega
  obtain ⟨X, hX⟩ : ∃ X, w.heap.size = X := ⟨_, rfl⟩
  have HX : Hid (w.heap.size = X) := hX
  have k0 : Kp noB w ((w.alloc (.cells #[.bool true, .bool false, .bool wp] 37)).alloc (.cells #[.int .u32 0, .int .u32 0, .int .u32 0, .bool false, .bool false] 45)) := (Kp.alloc _ _ _).trans (Kp.alloc _ _ _)
  have rB : RowB ((w.alloc (.cells #[.bool true, .bool false, .bool wp] 37)).alloc (.cells #[.int .u32 0, .int .u32 0, .int .u32 0, .bool false, .bool false] 45)) X true false wp := by
    have e0 := (MapKept.heap_alloc w (.cells #[.bool true, .bool false, .bool wp] 37)).1
    rw [hX] at e0
    exact (Below.heap_alloc _ _ _ (by simp; omega)).trans e0
  have rK : RowK ((w.alloc (.cells #[.bool true, .bool false, .bool wp] 37)).alloc (.cells #[.int .u32 0, .int .u32 0, .int .u32 0, .bool false, .bool false] 45)) (X + 1) 0 0 0 false false := by
    have e0 := (MapKept.heap_alloc (w.alloc (.cells #[.bool true, .bool false, .bool wp] 37)) (.cells #[.int .u32 0, .int .u32 0, .int .u32 0, .bool false, .bool false] 45)).1
    have e1 : (w.alloc (.cells #[.bool true, .bool false, .bool wp] 37)).heap.size = X + 1 := by simp [hX]
    rw [e1] at e0
    exact e0
  have hR : ∀ k, R.has k → k < X := fun k hk => by rw [← hX]; exact h.lt hk
  have h0 : RefAt ((w.alloc (.cells #[.bool true, .bool false, .bool wp] 37)).alloc (.cells #[.int .u32 0, .int .u32 0, .int .u32 0, .bool false, .bool false] 45)) R M := h.kp k0 (fun _ _ f => f)
  have nR : Hid (∀ k, R.has k → k < X) := hR
  clear hX h hR
  go_enter Try.func13, Try.ntmps13
  go_wp2_with fail
  refine (HP.out _ h0).mono ?_; rintro e w1 ⟨rfl, k1⟩
  replace rB := rB.kp k1 (fun f => f)
  replace rK := rK.kp k1 (fun f => f)
  replace h0 := h0.kp k1 (fun _ _ f => f)
  replace k0 := k0.trans k1
  clear k1
  rw [HX.out]
  go_wp2_with fail
  refine (HO.out _).mono ?_; rintro e w' ⟨rfl, hw⟩; replace hw := hw.symm; subst hw
  go_wp2_with fail
  refine (HQ.out _ h0).mono ?_; rintro e w2 ⟨rfl, k1⟩
  replace rB := rB.kp k1 (fun f => f)
  replace rK := rK.kp k1 (fun f => f)
  replace h0 := h0.kp k1 (fun _ _ f => f)
  replace k0 := k0.trans k1
  clear k1
  go_wp2_with fail
  refine (HT.out _).mono ?_; rintro e w' ⟨rfl, hw⟩; replace hw := hw.symm; subst hw
  have d0 := rK.c0; have d1 := rK.c1; have d2 := rK.c2; have d3 := rK.c3; have d4 := rK.c4
  have f0 := rK.fz 0; have f1 := rK.fz 1; have f2 := rK.fz 2; have f3 := rK.fz 3; have f4 := rK.fz 4
  replace k0 := kp_no (S := R.has) k0
  go_wp2
  have z0 := rK.s0 0
  have z1 := z0.s1 0
  have z2 := z1.s2 0
  have z3 := z2.s3 false
  have z4 := z3.s4 false
  refine bodyPost_ret (v := .tuple #[.agg #[.int .u32 0, .int .u32 0, .int .u32 0, .bool false, .bool false], .int .i64 2]) ?_ rfl ⟨rfl, ?_, ?_⟩
  · simp [results, Try.results13, go_sem, z0.c0, z1.c1, z2.c2, z3.c3, z4.c4]
  · exact h0.kp (Kp.five_in _ (X + 1) _ _ _ _ _) (fun j hj e => by have := nR.out j hj; omega)
  · exact k0.five (by have := HX.out; omega) _ _ _ _ _

set_option maxRecDepth 100000 in
set_option maxHeartbeats 2000000 in
theorem rfind_no2_tt (w : World) (R : Rf) (M M1 M2 : Mem) (c l p q o t fr : Int) (wp h2 o2 t2 o4 t4 : Bool) (h : RefAt w R M) (F : FL R M M1 M2 c l p q o t fr true false o2 t2 o4 t4 true) :
    Calls Try.prog 13 #[.pointer (some ⟨R.r, 0, none⟩), .int .u32 c, .int .u32 l, .agg #[.bool true, .bool true, .bool wp]] w fun e w' => e = .returned (.tuple #[.agg #[.int .u32 0, .int .u32 0, .int .u32 0, .bool false, .bool false], .int .i64 6]) ∧ RefAt w' R M ∧ Kp R.has w w' := by
  obtain ⟨c0, c1, l0, l1, p0, p1, q0, q1, o0, o1, t0, t1, ep, eq, ef, rp, rq, ho, ht, ho1, ht1, ho2, ht2, mk1, mk2r, mk2w⟩ := F
  clear mk1 mk2r mk2w ho1 ht1 ho2 ht2
  have HP : Hid _ := rp
  have HO : Hid _ := ho
  have HQ : Hid _ := rq
  have HT : Hid _ := ht
  clear rp rq ho ht
  have i0 : 0 ≤ l / 4194304 ∧ l / 4194304 < 1024 := by omega
  have cd : 0 ≤ c - c % 4096 ∧ c - c % 4096 ≤ 4294963200 := by omega
  have i1 : 0 ≤ l / 4096 % 1024 ∧ l / 4096 % 1024 < 1024 := by omega
  have od : 0 ≤ o - o % 4096 ∧ o - o % 4096 ≤ 4294963200 := by omega
  obtain ⟨X, hX⟩ : ∃ X, w.heap.size = X := ⟨_, rfl⟩
  have HX : Hid (w.heap.size = X) := hX
  have k0 : Kp noB w ((w.alloc (.cells #[.bool true, .bool true, .bool wp] 37)).alloc (.cells #[.int .u32 0, .int .u32 0, .int .u32 0, .bool false, .bool false] 45)) := (Kp.alloc _ _ _).trans (Kp.alloc _ _ _)
  have rB : RowB ((w.alloc (.cells #[.bool true, .bool true, .bool wp] 37)).alloc (.cells #[.int .u32 0, .int .u32 0, .int .u32 0, .bool false, .bool false] 45)) X true true wp := by
    have e0 := (MapKept.heap_alloc w (.cells #[.bool true, .bool true, .bool wp] 37)).1
    rw [hX] at e0
    exact (Below.heap_alloc _ _ _ (by simp; omega)).trans e0
  have rK : RowK ((w.alloc (.cells #[.bool true, .bool true, .bool wp] 37)).alloc (.cells #[.int .u32 0, .int .u32 0, .int .u32 0, .bool false, .bool false] 45)) (X + 1) 0 0 0 false false := by
    have e0 := (MapKept.heap_alloc (w.alloc (.cells #[.bool true, .bool true, .bool wp] 37)) (.cells #[.int .u32 0, .int .u32 0, .int .u32 0, .bool false, .bool false] 45)).1
    have e1 : (w.alloc (.cells #[.bool true, .bool true, .bool wp] 37)).heap.size = X + 1 := by simp [hX]
    rw [e1] at e0
    exact e0
  have hR : ∀ k, R.has k → k < X := fun k hk => by rw [← hX]; exact h.lt hk
  have h0 : RefAt ((w.alloc (.cells #[.bool true, .bool true, .bool wp] 37)).alloc (.cells #[.int .u32 0, .int .u32 0, .int .u32 0, .bool false, .bool false] 45)) R M := h.kp k0 (fun _ _ f => f)
  have nR : Hid (∀ k, R.has k → k < X) := hR
  clear hX h hR
  go_enter Try.func13, Try.ntmps13
  go_wp2_with fail
  refine (HP.out _ h0).mono ?_; rintro e w1 ⟨rfl, k1⟩
  replace rB := rB.kp k1 (fun f => f)
  replace rK := rK.kp k1 (fun f => f)
  replace h0 := h0.kp k1 (fun _ _ f => f)
  replace k0 := k0.trans k1
  clear k1
  rw [HX.out]
  go_wp2_with fail
  refine (HO.out _).mono ?_; rintro e w' ⟨rfl, hw⟩; replace hw := hw.symm; subst hw
  go_wp2_with fail
  refine (HQ.out _ h0).mono ?_; rintro e w2 ⟨rfl, k1⟩
  replace rB := rB.kp k1 (fun f => f)
  replace rK := rK.kp k1 (fun f => f)
  replace h0 := h0.kp k1 (fun _ _ f => f)
  replace k0 := k0.trans k1
  clear k1
  go_wp2_with fail
  refine (HT.out _).mono ?_; rintro e w' ⟨rfl, hw⟩; replace hw := hw.symm; subst hw
  have d0 := rK.c0; have d1 := rK.c1; have d2 := rK.c2; have d3 := rK.c3; have d4 := rK.c4
  have f0 := rK.fz 0; have f1 := rK.fz 1; have f2 := rK.fz 2; have f3 := rK.fz 3; have f4 := rK.fz 4
  replace k0 := kp_no (S := R.has) k0
  go_wp2
  have z0 := rK.s0 0
  have z1 := z0.s1 0
  have z2 := z1.s2 0
  have z3 := z2.s3 false
  have z4 := z3.s4 false
  refine bodyPost_ret (v := .tuple #[.agg #[.int .u32 0, .int .u32 0, .int .u32 0, .bool false, .bool false], .int .i64 6]) ?_ rfl ⟨rfl, ?_, ?_⟩
  · simp [results, Try.results13, go_sem, z0.c0, z1.c1, z2.c2, z3.c3, z4.c4]
  · exact h0.kp (Kp.five_in _ (X + 1) _ _ _ _ _) (fun j hj e => by have := nR.out j hj; omega)
  · exact k0.five (by have := HX.out; omega) _ _ _ _ _

end Go.Proofs.Ytljlcejnadmgkaa
