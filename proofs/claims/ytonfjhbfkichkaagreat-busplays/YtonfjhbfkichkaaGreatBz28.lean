/- The bus and its devices: RtIn. -/
import Derived.Test.YtonfjhbfkichkaaGreatBz20
namespace Go.Proofs.YtonfjhbfkichkaaGreat.Pt
open Go.ChangeShapes Go.WideShapes Go.ChangeAt Go.RowKit
set_option linter.unusedVariables false
set_option maxRecDepth 20000
theorem w8 (n : Int) : IntKind.u8.wrap n = n % 256 := by simp [IntKind.wrap, IntKind.bits, IntKind.signed]
set_option maxRecDepth 20000 in
set_option maxHeartbeats 1000000 in
theorem rinh3u_k (i : Nat) (hi : i < 3) (w : World) (R : Nat) (g : Nat → RC) (r : RC) (h : RAt w R g) (hr : g i = r) (now : Int) (l0 : 1 ≤ r.len) (l1 : r.len ≤ 65536) (A V9 : Int) (hA : r.val now = A) (hV : r.value = V9) (b0 : 0 ≤ V9) (b1 : V9 < 65536) (hh : r.held = true) (hw : r.how = 3) (hu : r.upper = true) : Calls Tryz.prog 131 #[.pointer (some ⟨R, 0, none⟩), .int .i64 i, .int .u64 now] w fun e w' => e = .returned (.tuple #[.int .u8 (V9 / 256), .int .i64 0]) ∧ RAt w' R (updR g i ⟨r.mode, r.how, r.len, r.began, r.st, r.wants, r.fst, false, false, r.value⟩) ∧ Kp (isB R) w w' := by
 obtain ⟨T, nI, Z, fs, ps, V⟩ := vlC
 obtain ⟨vl, vs, va, vb⟩ := V.ops
 have v1 := V.agg
 have v2 := V.size
 have v3 := V.zero
 have v4 := V.under
 have v5 := V.map
 have v6 := V.zs
 have vG := V.getNew
 have vN := V.new
 have cs : ∀ r : RC, (chV r).size = nI := fun r => by rw [V.s]; rfl
 have L := V.getR h i (i * 10) hi (by omega)
 obtain ⟨hi0, hi1, hi2, hi3, hi4⟩ := cnt3 hi
 rw [hr] at L
 have lR := h.lt
 have HR : Hid (RAt w R g) := h
 have HV : Hid (VlC T nI Z fs ps) := V
 have HC : Hid (∀ w, _) := fun w => rval_ok w r now l0 l1
 rw [hA] at HC
 clear h V
 go_enter Tryz.func131, Tryz.ntmps131
 simp only [vl, vs, va]
 clear vl vs va vb
 go_wp2_with fail
 have h1 : Hid (RAt (w.alloc (.cells (chV r) T)) R g) := HR.out.kept (Kp.alloc noB _ _) id
 have h2 : Hid (KAt (w.alloc (.cells (chV r) T)) w.heap.size r) := HV.out.at _ w
 have k1 : Hid (Kp noB w (w.alloc (.cells (chV r) T))) := Kp.alloc _ _ _
 clear vG vN L
 generalize w.alloc (.cells (chV r) T) = w0 at h1 h2 k1 ⊢
 refine Calls.mono (HC.out _) ?_; rintro e w2 ⟨rfl, g2⟩
 have h3 := h1.out.kept g2 id
 have h4 := h2.out.kept g2 id
 have k4 := k1.out.trans g2
 clear h1 h2 k1 g2
 obtain ⟨q, hq⟩ : ∃ q, q = w.heap.size := ⟨_, rfl⟩
 have nq : ¬ R = q := by omega
 have lq : w.heap.size ≤ q := by omega
 rw [← hq] at h4 ⊢
 clear hq
 have c1 := h4.c1
 have c7 := h4.c7
 have c8 := h4.c8
 have c9 := h4.c9
 have z7 := h4.fz 7
 have z8 := h4.fz 8
 rw [hh] at c8
 rw [hu] at c7
 rw [hV] at c9
 rw [hw] at c1
 skip
 have e1 : (V9).tmod 256 = V9 % 256 := Int.tmod_eq_emod_of_nonneg b0
 have e2 : (V9).tdiv 256 = V9 / 256 := Int.tdiv_eq_ediv_of_nonneg b0
 have e3 : IntKind.u8.wrap (V9 % 256) = V9 % 256 := by rw [w8]; omega
 have e4 : IntKind.u8.wrap (V9 / 256) = V9 / 256 := by rw [w8]; omega
 have h2 : Hid (KAt ((w2.setCell ⟨q, 8, none⟩ (.bool false)).setCell ⟨q, 7, none⟩ (.bool false)) q ⟨r.mode, r.how, r.len, r.began, r.st, r.wants, r.fst, false, false, r.value⟩) := ((h4.set 8 _ ⟨r.mode, r.how, r.len, r.began, r.st, r.wants, r.fst, r.upper, false, r.value⟩ rfl).set 7 _ ⟨r.mode, r.how, r.len, r.began, r.st, r.wants, r.fst, false, false, r.value⟩ rfl)
 have h1 : Hid (RAt ((w2.setCell ⟨q, 8, none⟩ (.bool false)).setCell ⟨q, 7, none⟩ (.bool false)) R g) := h3.kept ((kpB q _ _ _).trans (kpB q _ _ _)) nq
 have k1 : Hid (Kp noB w ((w2.setCell ⟨q, 8, none⟩ (.bool false)).setCell ⟨q, 7, none⟩ (.bool false))) := ((k4.new lq _ _).new lq _ _)
 have HBd : Hid (0 ≤ V9 ∧ V9 < 65536) := ⟨b0, b1⟩
 clear h3 h4 k4 b0 b1 hA hV hh hu hw
 go_wp2
 clear c1 c7 c8 c9 z7 z8
 generalize ((w2.setCell ⟨q, 8, none⟩ (.bool false)).setCell ⟨q, 7, none⟩ (.bool false)) = w1 at h1 h2 k1 ⊢
 have L1 := HV.out.get h2.out
 have L2 := HV.out.get (h2.out.kept (Kp.refl noB w1).drew id)
 have S1 := put_R h1.out i (i * 10) hi (by omega) ⟨r.mode, r.how, r.len, r.began, r.st, r.wants, r.fst, false, false, r.value⟩
 have S2 := put_R h1.out.drew i (i * 10) hi (by omega) ⟨r.mode, r.how, r.len, r.began, r.st, r.wants, r.fst, false, false, r.value⟩
 have E2 : Hid (RAt (w1.drew.setRow R (rowR (updR g i ⟨r.mode, r.how, r.len, r.began, r.st, r.wants, r.fst, false, false, r.value⟩))) R (updR g i ⟨r.mode, r.how, r.len, r.began, r.st, r.wants, r.fst, false, false, r.value⟩)) := h1.out.drew.put i _
 have K2 : Hid (Kp (isB R) w (w1.drew.setRow R (rowR (updR g i ⟨r.mode, r.how, r.len, r.began, r.st, r.wants, r.fst, false, false, r.value⟩)))) := (k1.out.drew.any).trans (Kp.setRow (S := isB R) _ rfl _)
 go_region
 all_goals
  go_wp2
  go_ret2
  exact ⟨ret_two (by first | rfl | (simp only [e1, e2, e3, e4]; done) | (have := HBd.out; rw [w64]; omega) | (have := HBd.out; omega)) rfl, E2.out, K2.out⟩
set_option maxRecDepth 20000 in
set_option maxHeartbeats 1000000 in
theorem rinh3l_k (i : Nat) (hi : i < 3) (w : World) (R : Nat) (g : Nat → RC) (r : RC) (h : RAt w R g) (hr : g i = r) (now : Int) (l0 : 1 ≤ r.len) (l1 : r.len ≤ 65536) (A V9 : Int) (hA : r.val now = A) (hV : r.value = V9) (b0 : 0 ≤ V9) (b1 : V9 < 65536) (hh : r.held = true) (hw : r.how = 3) (hu : r.upper = false) : Calls Tryz.prog 131 #[.pointer (some ⟨R, 0, none⟩), .int .i64 i, .int .u64 now] w fun e w' => e = .returned (.tuple #[.int .u8 (V9 % 256), .int .i64 0]) ∧ RAt w' R (updR g i ⟨r.mode, r.how, r.len, r.began, r.st, r.wants, r.fst, true, r.held, r.value⟩) ∧ Kp (isB R) w w' := by
 obtain ⟨T, nI, Z, fs, ps, V⟩ := vlC
 obtain ⟨vl, vs, va, vb⟩ := V.ops
 have v1 := V.agg
 have v2 := V.size
 have v3 := V.zero
 have v4 := V.under
 have v5 := V.map
 have v6 := V.zs
 have vG := V.getNew
 have vN := V.new
 have cs : ∀ r : RC, (chV r).size = nI := fun r => by rw [V.s]; rfl
 have L := V.getR h i (i * 10) hi (by omega)
 obtain ⟨hi0, hi1, hi2, hi3, hi4⟩ := cnt3 hi
 rw [hr] at L
 have lR := h.lt
 have HR : Hid (RAt w R g) := h
 have HV : Hid (VlC T nI Z fs ps) := V
 have HC : Hid (∀ w, _) := fun w => rval_ok w r now l0 l1
 rw [hA] at HC
 clear h V
 go_enter Tryz.func131, Tryz.ntmps131
 simp only [vl, vs, va]
 clear vl vs va vb
 go_wp2_with fail
 have h1 : Hid (RAt (w.alloc (.cells (chV r) T)) R g) := HR.out.kept (Kp.alloc noB _ _) id
 have h2 : Hid (KAt (w.alloc (.cells (chV r) T)) w.heap.size r) := HV.out.at _ w
 have k1 : Hid (Kp noB w (w.alloc (.cells (chV r) T))) := Kp.alloc _ _ _
 clear vG vN L
 generalize w.alloc (.cells (chV r) T) = w0 at h1 h2 k1 ⊢
 refine Calls.mono (HC.out _) ?_; rintro e w2 ⟨rfl, g2⟩
 have h3 := h1.out.kept g2 id
 have h4 := h2.out.kept g2 id
 have k4 := k1.out.trans g2
 clear h1 h2 k1 g2
 obtain ⟨q, hq⟩ : ∃ q, q = w.heap.size := ⟨_, rfl⟩
 have nq : ¬ R = q := by omega
 have lq : w.heap.size ≤ q := by omega
 rw [← hq] at h4 ⊢
 clear hq
 have c1 := h4.c1
 have c7 := h4.c7
 have c8 := h4.c8
 have c9 := h4.c9
 have z7 := h4.fz 7
 have z8 := h4.fz 8
 rw [hh] at c8
 rw [hu] at c7
 rw [hV] at c9
 rw [hw] at c1
 skip
 have e1 : (V9).tmod 256 = V9 % 256 := Int.tmod_eq_emod_of_nonneg b0
 have e2 : (V9).tdiv 256 = V9 / 256 := Int.tdiv_eq_ediv_of_nonneg b0
 have e3 : IntKind.u8.wrap (V9 % 256) = V9 % 256 := by rw [w8]; omega
 have e4 : IntKind.u8.wrap (V9 / 256) = V9 / 256 := by rw [w8]; omega
 have h2 : Hid (KAt (w2.setCell ⟨q, 7, none⟩ (.bool true)) q ⟨r.mode, r.how, r.len, r.began, r.st, r.wants, r.fst, true, r.held, r.value⟩) := (h4.set 7 _ ⟨r.mode, r.how, r.len, r.began, r.st, r.wants, r.fst, true, r.held, r.value⟩ rfl)
 have h1 : Hid (RAt (w2.setCell ⟨q, 7, none⟩ (.bool true)) R g) := h3.kept (kpB q _ _ _) nq
 have k1 : Hid (Kp noB w (w2.setCell ⟨q, 7, none⟩ (.bool true))) := (k4.new lq _ _)
 have HBd : Hid (0 ≤ V9 ∧ V9 < 65536) := ⟨b0, b1⟩
 clear h3 h4 k4 b0 b1 hA hV hh hu hw
 go_wp2
 clear c1 c7 c8 c9 z7 z8
 generalize (w2.setCell ⟨q, 7, none⟩ (.bool true)) = w1 at h1 h2 k1 ⊢
 have L1 := HV.out.get h2.out
 have L2 := HV.out.get (h2.out.kept (Kp.refl noB w1).drew id)
 have S1 := put_R h1.out i (i * 10) hi (by omega) ⟨r.mode, r.how, r.len, r.began, r.st, r.wants, r.fst, true, r.held, r.value⟩
 have S2 := put_R h1.out.drew i (i * 10) hi (by omega) ⟨r.mode, r.how, r.len, r.began, r.st, r.wants, r.fst, true, r.held, r.value⟩
 have E2 : Hid (RAt (w1.drew.setRow R (rowR (updR g i ⟨r.mode, r.how, r.len, r.began, r.st, r.wants, r.fst, true, r.held, r.value⟩))) R (updR g i ⟨r.mode, r.how, r.len, r.began, r.st, r.wants, r.fst, true, r.held, r.value⟩)) := h1.out.drew.put i _
 have K2 : Hid (Kp (isB R) w (w1.drew.setRow R (rowR (updR g i ⟨r.mode, r.how, r.len, r.began, r.st, r.wants, r.fst, true, r.held, r.value⟩)))) := (k1.out.drew.any).trans (Kp.setRow (S := isB R) _ rfl _)
 go_region
 all_goals
  go_wp2
  go_ret2
  exact ⟨ret_two (by first | rfl | (simp only [e1, e2, e3, e4]; done) | (have := HBd.out; rw [w64]; omega) | (have := HBd.out; omega)) rfl, E2.out, K2.out⟩
set_option maxRecDepth 20000 in
set_option maxHeartbeats 1000000 in
theorem rinhxu_k (i : Nat) (hi : i < 3) (w : World) (R : Nat) (g : Nat → RC) (r : RC) (h : RAt w R g) (hr : g i = r) (now : Int) (l0 : 1 ≤ r.len) (l1 : r.len ≤ 65536) (A V9 : Int) (hA : r.val now = A) (hV : r.value = V9) (b0 : 0 ≤ V9) (b1 : V9 < 65536) (hh : r.held = true) (hw : ¬ r.how = 3) (hu : r.upper = true) : Calls Tryz.prog 131 #[.pointer (some ⟨R, 0, none⟩), .int .i64 i, .int .u64 now] w fun e w' => e = .returned (.tuple #[.int .u8 (V9 / 256), .int .i64 0]) ∧ RAt w' R (updR g i ⟨r.mode, r.how, r.len, r.began, r.st, r.wants, r.fst, r.upper, false, r.value⟩) ∧ Kp (isB R) w w' := by
 obtain ⟨T, nI, Z, fs, ps, V⟩ := vlC
 obtain ⟨vl, vs, va, vb⟩ := V.ops
 have v1 := V.agg
 have v2 := V.size
 have v3 := V.zero
 have v4 := V.under
 have v5 := V.map
 have v6 := V.zs
 have vG := V.getNew
 have vN := V.new
 have cs : ∀ r : RC, (chV r).size = nI := fun r => by rw [V.s]; rfl
 have L := V.getR h i (i * 10) hi (by omega)
 obtain ⟨hi0, hi1, hi2, hi3, hi4⟩ := cnt3 hi
 rw [hr] at L
 have lR := h.lt
 have HR : Hid (RAt w R g) := h
 have HV : Hid (VlC T nI Z fs ps) := V
 have HC : Hid (∀ w, _) := fun w => rval_ok w r now l0 l1
 rw [hA] at HC
 clear h V
 go_enter Tryz.func131, Tryz.ntmps131
 simp only [vl, vs, va]
 clear vl vs va vb
 go_wp2_with fail
 have h1 : Hid (RAt (w.alloc (.cells (chV r) T)) R g) := HR.out.kept (Kp.alloc noB _ _) id
 have h2 : Hid (KAt (w.alloc (.cells (chV r) T)) w.heap.size r) := HV.out.at _ w
 have k1 : Hid (Kp noB w (w.alloc (.cells (chV r) T))) := Kp.alloc _ _ _
 clear vG vN L
 generalize w.alloc (.cells (chV r) T) = w0 at h1 h2 k1 ⊢
 refine Calls.mono (HC.out _) ?_; rintro e w2 ⟨rfl, g2⟩
 have h3 := h1.out.kept g2 id
 have h4 := h2.out.kept g2 id
 have k4 := k1.out.trans g2
 clear h1 h2 k1 g2
 obtain ⟨q, hq⟩ : ∃ q, q = w.heap.size := ⟨_, rfl⟩
 have nq : ¬ R = q := by omega
 have lq : w.heap.size ≤ q := by omega
 rw [← hq] at h4 ⊢
 clear hq
 have c1 := h4.c1
 have c7 := h4.c7
 have c8 := h4.c8
 have c9 := h4.c9
 have z7 := h4.fz 7
 have z8 := h4.fz 8
 rw [hh] at c8
 rw [hu] at c7
 rw [hV] at c9
 have hw1 : (r.how != 3) = true := by simp [hw]
 have hw2 : (r.how == 3) = false := by simp [hw]
 have e1 : (V9).tmod 256 = V9 % 256 := Int.tmod_eq_emod_of_nonneg b0
 have e2 : (V9).tdiv 256 = V9 / 256 := Int.tdiv_eq_ediv_of_nonneg b0
 have e3 : IntKind.u8.wrap (V9 % 256) = V9 % 256 := by rw [w8]; omega
 have e4 : IntKind.u8.wrap (V9 / 256) = V9 / 256 := by rw [w8]; omega
 have h2 : Hid (KAt (w2.setCell ⟨q, 8, none⟩ (.bool false)) q ⟨r.mode, r.how, r.len, r.began, r.st, r.wants, r.fst, r.upper, false, r.value⟩) := (h4.set 8 _ ⟨r.mode, r.how, r.len, r.began, r.st, r.wants, r.fst, r.upper, false, r.value⟩ rfl)
 have h1 : Hid (RAt (w2.setCell ⟨q, 8, none⟩ (.bool false)) R g) := h3.kept (kpB q _ _ _) nq
 have k1 : Hid (Kp noB w (w2.setCell ⟨q, 8, none⟩ (.bool false))) := (k4.new lq _ _)
 have HBd : Hid (0 ≤ V9 ∧ V9 < 65536) := ⟨b0, b1⟩
 clear h3 h4 k4 b0 b1 hA hV hh hu hw
 go_wp2
 clear c1 c7 c8 c9 z7 z8
 generalize (w2.setCell ⟨q, 8, none⟩ (.bool false)) = w1 at h1 h2 k1 ⊢
 have L1 := HV.out.get h2.out
 have L2 := HV.out.get (h2.out.kept (Kp.refl noB w1).drew id)
 have S1 := put_R h1.out i (i * 10) hi (by omega) ⟨r.mode, r.how, r.len, r.began, r.st, r.wants, r.fst, r.upper, false, r.value⟩
 have S2 := put_R h1.out.drew i (i * 10) hi (by omega) ⟨r.mode, r.how, r.len, r.began, r.st, r.wants, r.fst, r.upper, false, r.value⟩
 have E2 : Hid (RAt (w1.drew.setRow R (rowR (updR g i ⟨r.mode, r.how, r.len, r.began, r.st, r.wants, r.fst, r.upper, false, r.value⟩))) R (updR g i ⟨r.mode, r.how, r.len, r.began, r.st, r.wants, r.fst, r.upper, false, r.value⟩)) := h1.out.drew.put i _
 have K2 : Hid (Kp (isB R) w (w1.drew.setRow R (rowR (updR g i ⟨r.mode, r.how, r.len, r.began, r.st, r.wants, r.fst, r.upper, false, r.value⟩)))) := (k1.out.drew.any).trans (Kp.setRow (S := isB R) _ rfl _)
 go_region
 all_goals
  go_wp2
  go_ret2
  exact ⟨ret_two (by first | rfl | (simp only [e1, e2, e3, e4]; done) | (have := HBd.out; rw [w64]; omega) | (have := HBd.out; omega)) rfl, E2.out, K2.out⟩
set_option maxRecDepth 20000 in
set_option maxHeartbeats 1000000 in
theorem rinhxl_k (i : Nat) (hi : i < 3) (w : World) (R : Nat) (g : Nat → RC) (r : RC) (h : RAt w R g) (hr : g i = r) (now : Int) (l0 : 1 ≤ r.len) (l1 : r.len ≤ 65536) (A V9 : Int) (hA : r.val now = A) (hV : r.value = V9) (b0 : 0 ≤ V9) (b1 : V9 < 65536) (hh : r.held = true) (hw : ¬ r.how = 3) (hu : r.upper = false) : Calls Tryz.prog 131 #[.pointer (some ⟨R, 0, none⟩), .int .i64 i, .int .u64 now] w fun e w' => e = .returned (.tuple #[.int .u8 (V9 % 256), .int .i64 0]) ∧ RAt w' R (updR g i ⟨r.mode, r.how, r.len, r.began, r.st, r.wants, r.fst, r.upper, false, r.value⟩) ∧ Kp (isB R) w w' := by
 obtain ⟨T, nI, Z, fs, ps, V⟩ := vlC
 obtain ⟨vl, vs, va, vb⟩ := V.ops
 have v1 := V.agg
 have v2 := V.size
 have v3 := V.zero
 have v4 := V.under
 have v5 := V.map
 have v6 := V.zs
 have vG := V.getNew
 have vN := V.new
 have cs : ∀ r : RC, (chV r).size = nI := fun r => by rw [V.s]; rfl
 have L := V.getR h i (i * 10) hi (by omega)
 obtain ⟨hi0, hi1, hi2, hi3, hi4⟩ := cnt3 hi
 rw [hr] at L
 have lR := h.lt
 have HR : Hid (RAt w R g) := h
 have HV : Hid (VlC T nI Z fs ps) := V
 have HC : Hid (∀ w, _) := fun w => rval_ok w r now l0 l1
 rw [hA] at HC
 clear h V
 go_enter Tryz.func131, Tryz.ntmps131
 simp only [vl, vs, va]
 clear vl vs va vb
 go_wp2_with fail
 have h1 : Hid (RAt (w.alloc (.cells (chV r) T)) R g) := HR.out.kept (Kp.alloc noB _ _) id
 have h2 : Hid (KAt (w.alloc (.cells (chV r) T)) w.heap.size r) := HV.out.at _ w
 have k1 : Hid (Kp noB w (w.alloc (.cells (chV r) T))) := Kp.alloc _ _ _
 clear vG vN L
 generalize w.alloc (.cells (chV r) T) = w0 at h1 h2 k1 ⊢
 refine Calls.mono (HC.out _) ?_; rintro e w2 ⟨rfl, g2⟩
 have h3 := h1.out.kept g2 id
 have h4 := h2.out.kept g2 id
 have k4 := k1.out.trans g2
 clear h1 h2 k1 g2
 obtain ⟨q, hq⟩ : ∃ q, q = w.heap.size := ⟨_, rfl⟩
 have nq : ¬ R = q := by omega
 have lq : w.heap.size ≤ q := by omega
 rw [← hq] at h4 ⊢
 clear hq
 have c1 := h4.c1
 have c7 := h4.c7
 have c8 := h4.c8
 have c9 := h4.c9
 have z7 := h4.fz 7
 have z8 := h4.fz 8
 rw [hh] at c8
 rw [hu] at c7
 rw [hV] at c9
 have hw1 : (r.how != 3) = true := by simp [hw]
 have hw2 : (r.how == 3) = false := by simp [hw]
 have e1 : (V9).tmod 256 = V9 % 256 := Int.tmod_eq_emod_of_nonneg b0
 have e2 : (V9).tdiv 256 = V9 / 256 := Int.tdiv_eq_ediv_of_nonneg b0
 have e3 : IntKind.u8.wrap (V9 % 256) = V9 % 256 := by rw [w8]; omega
 have e4 : IntKind.u8.wrap (V9 / 256) = V9 / 256 := by rw [w8]; omega
 have h2 : Hid (KAt (w2.setCell ⟨q, 8, none⟩ (.bool false)) q ⟨r.mode, r.how, r.len, r.began, r.st, r.wants, r.fst, r.upper, false, r.value⟩) := (h4.set 8 _ ⟨r.mode, r.how, r.len, r.began, r.st, r.wants, r.fst, r.upper, false, r.value⟩ rfl)
 have h1 : Hid (RAt (w2.setCell ⟨q, 8, none⟩ (.bool false)) R g) := h3.kept (kpB q _ _ _) nq
 have k1 : Hid (Kp noB w (w2.setCell ⟨q, 8, none⟩ (.bool false))) := (k4.new lq _ _)
 have HBd : Hid (0 ≤ V9 ∧ V9 < 65536) := ⟨b0, b1⟩
 clear h3 h4 k4 b0 b1 hA hV hh hu hw
 go_wp2
 clear c1 c7 c8 c9 z7 z8
 generalize (w2.setCell ⟨q, 8, none⟩ (.bool false)) = w1 at h1 h2 k1 ⊢
 have L1 := HV.out.get h2.out
 have L2 := HV.out.get (h2.out.kept (Kp.refl noB w1).drew id)
 have S1 := put_R h1.out i (i * 10) hi (by omega) ⟨r.mode, r.how, r.len, r.began, r.st, r.wants, r.fst, r.upper, false, r.value⟩
 have S2 := put_R h1.out.drew i (i * 10) hi (by omega) ⟨r.mode, r.how, r.len, r.began, r.st, r.wants, r.fst, r.upper, false, r.value⟩
 have E2 : Hid (RAt (w1.drew.setRow R (rowR (updR g i ⟨r.mode, r.how, r.len, r.began, r.st, r.wants, r.fst, r.upper, false, r.value⟩))) R (updR g i ⟨r.mode, r.how, r.len, r.began, r.st, r.wants, r.fst, r.upper, false, r.value⟩)) := h1.out.drew.put i _
 have K2 : Hid (Kp (isB R) w (w1.drew.setRow R (rowR (updR g i ⟨r.mode, r.how, r.len, r.began, r.st, r.wants, r.fst, r.upper, false, r.value⟩)))) := (k1.out.drew.any).trans (Kp.setRow (S := isB R) _ rfl _)
 go_region
 all_goals
  go_wp2
  go_ret2
  exact ⟨ret_two (by first | rfl | (simp only [e1, e2, e3, e4]; done) | (have := HBd.out; rw [w64]; omega) | (have := HBd.out; omega)) rfl, E2.out, K2.out⟩
set_option maxRecDepth 20000 in
set_option maxHeartbeats 1000000 in
theorem rinn3u_k (i : Nat) (hi : i < 3) (w : World) (R : Nat) (g : Nat → RC) (r : RC) (h : RAt w R g) (hr : g i = r) (now : Int) (l0 : 1 ≤ r.len) (l1 : r.len ≤ 65536) (A V9 : Int) (hA : r.val now = A) (hV : r.value = V9) (b0 : 0 ≤ A) (b1 : A < 65536) (hh : r.held = false) (hw : r.how = 3) (hu : r.upper = true) : Calls Tryz.prog 131 #[.pointer (some ⟨R, 0, none⟩), .int .i64 i, .int .u64 now] w fun e w' => e = .returned (.tuple #[.int .u8 (A / 256), .int .i64 0]) ∧ RAt w' R (updR g i ⟨r.mode, r.how, r.len, r.began, r.st, r.wants, r.fst, false, false, r.value⟩) ∧ Kp (isB R) w w' := by
 obtain ⟨T, nI, Z, fs, ps, V⟩ := vlC
 obtain ⟨vl, vs, va, vb⟩ := V.ops
 have v1 := V.agg
 have v2 := V.size
 have v3 := V.zero
 have v4 := V.under
 have v5 := V.map
 have v6 := V.zs
 have vG := V.getNew
 have vN := V.new
 have cs : ∀ r : RC, (chV r).size = nI := fun r => by rw [V.s]; rfl
 have L := V.getR h i (i * 10) hi (by omega)
 obtain ⟨hi0, hi1, hi2, hi3, hi4⟩ := cnt3 hi
 rw [hr] at L
 have lR := h.lt
 have HR : Hid (RAt w R g) := h
 have HV : Hid (VlC T nI Z fs ps) := V
 have HC : Hid (∀ w, _) := fun w => rval_ok w r now l0 l1
 rw [hA] at HC
 clear h V
 go_enter Tryz.func131, Tryz.ntmps131
 simp only [vl, vs, va]
 clear vl vs va vb
 go_wp2_with fail
 have h1 : Hid (RAt (w.alloc (.cells (chV r) T)) R g) := HR.out.kept (Kp.alloc noB _ _) id
 have h2 : Hid (KAt (w.alloc (.cells (chV r) T)) w.heap.size r) := HV.out.at _ w
 have k1 : Hid (Kp noB w (w.alloc (.cells (chV r) T))) := Kp.alloc _ _ _
 clear vG vN L
 generalize w.alloc (.cells (chV r) T) = w0 at h1 h2 k1 ⊢
 refine Calls.mono (HC.out _) ?_; rintro e w2 ⟨rfl, g2⟩
 have h3 := h1.out.kept g2 id
 have h4 := h2.out.kept g2 id
 have k4 := k1.out.trans g2
 clear h1 h2 k1 g2
 obtain ⟨q, hq⟩ : ∃ q, q = w.heap.size := ⟨_, rfl⟩
 have nq : ¬ R = q := by omega
 have lq : w.heap.size ≤ q := by omega
 rw [← hq] at h4 ⊢
 clear hq
 have c1 := h4.c1
 have c7 := h4.c7
 have c8 := h4.c8
 have c9 := h4.c9
 have z7 := h4.fz 7
 have z8 := h4.fz 8
 rw [hh] at c8
 rw [hu] at c7
 rw [hV] at c9
 rw [hw] at c1
 skip
 have e1 : (A).tmod 256 = A % 256 := Int.tmod_eq_emod_of_nonneg b0
 have e2 : (A).tdiv 256 = A / 256 := Int.tdiv_eq_ediv_of_nonneg b0
 have e3 : IntKind.u8.wrap (A % 256) = A % 256 := by rw [w8]; omega
 have e4 : IntKind.u8.wrap (A / 256) = A / 256 := by rw [w8]; omega
 have h2 : Hid (KAt ((w2.setCell ⟨q, 8, none⟩ (.bool false)).setCell ⟨q, 7, none⟩ (.bool false)) q ⟨r.mode, r.how, r.len, r.began, r.st, r.wants, r.fst, false, false, r.value⟩) := ((h4.set 8 _ ⟨r.mode, r.how, r.len, r.began, r.st, r.wants, r.fst, r.upper, false, r.value⟩ rfl).set 7 _ ⟨r.mode, r.how, r.len, r.began, r.st, r.wants, r.fst, false, false, r.value⟩ rfl)
 have h1 : Hid (RAt ((w2.setCell ⟨q, 8, none⟩ (.bool false)).setCell ⟨q, 7, none⟩ (.bool false)) R g) := h3.kept ((kpB q _ _ _).trans (kpB q _ _ _)) nq
 have k1 : Hid (Kp noB w ((w2.setCell ⟨q, 8, none⟩ (.bool false)).setCell ⟨q, 7, none⟩ (.bool false))) := ((k4.new lq _ _).new lq _ _)
 have HBd : Hid (0 ≤ A ∧ A < 65536) := ⟨b0, b1⟩
 clear h3 h4 k4 b0 b1 hA hV hh hu hw
 go_wp2
 clear c1 c7 c8 c9 z7 z8
 generalize ((w2.setCell ⟨q, 8, none⟩ (.bool false)).setCell ⟨q, 7, none⟩ (.bool false)) = w1 at h1 h2 k1 ⊢
 have L1 := HV.out.get h2.out
 have L2 := HV.out.get (h2.out.kept (Kp.refl noB w1).drew id)
 have S1 := put_R h1.out i (i * 10) hi (by omega) ⟨r.mode, r.how, r.len, r.began, r.st, r.wants, r.fst, false, false, r.value⟩
 have S2 := put_R h1.out.drew i (i * 10) hi (by omega) ⟨r.mode, r.how, r.len, r.began, r.st, r.wants, r.fst, false, false, r.value⟩
 have E2 : Hid (RAt (w1.drew.setRow R (rowR (updR g i ⟨r.mode, r.how, r.len, r.began, r.st, r.wants, r.fst, false, false, r.value⟩))) R (updR g i ⟨r.mode, r.how, r.len, r.began, r.st, r.wants, r.fst, false, false, r.value⟩)) := h1.out.drew.put i _
 have K2 : Hid (Kp (isB R) w (w1.drew.setRow R (rowR (updR g i ⟨r.mode, r.how, r.len, r.began, r.st, r.wants, r.fst, false, false, r.value⟩)))) := (k1.out.drew.any).trans (Kp.setRow (S := isB R) _ rfl _)
 go_region
 all_goals
  go_wp2
  go_ret2
  exact ⟨ret_two (by first | rfl | (simp only [e1, e2, e3, e4]; done) | (have := HBd.out; rw [w64]; omega) | (have := HBd.out; omega)) rfl, E2.out, K2.out⟩
set_option maxRecDepth 20000 in
set_option maxHeartbeats 1000000 in
theorem rinn3l_k (i : Nat) (hi : i < 3) (w : World) (R : Nat) (g : Nat → RC) (r : RC) (h : RAt w R g) (hr : g i = r) (now : Int) (l0 : 1 ≤ r.len) (l1 : r.len ≤ 65536) (A V9 : Int) (hA : r.val now = A) (hV : r.value = V9) (b0 : 0 ≤ A) (b1 : A < 65536) (hh : r.held = false) (hw : r.how = 3) (hu : r.upper = false) : Calls Tryz.prog 131 #[.pointer (some ⟨R, 0, none⟩), .int .i64 i, .int .u64 now] w fun e w' => e = .returned (.tuple #[.int .u8 (A % 256), .int .i64 0]) ∧ RAt w' R (updR g i ⟨r.mode, r.how, r.len, r.began, r.st, r.wants, r.fst, true, r.held, r.value⟩) ∧ Kp (isB R) w w' := by
 obtain ⟨T, nI, Z, fs, ps, V⟩ := vlC
 obtain ⟨vl, vs, va, vb⟩ := V.ops
 have v1 := V.agg
 have v2 := V.size
 have v3 := V.zero
 have v4 := V.under
 have v5 := V.map
 have v6 := V.zs
 have vG := V.getNew
 have vN := V.new
 have cs : ∀ r : RC, (chV r).size = nI := fun r => by rw [V.s]; rfl
 have L := V.getR h i (i * 10) hi (by omega)
 obtain ⟨hi0, hi1, hi2, hi3, hi4⟩ := cnt3 hi
 rw [hr] at L
 have lR := h.lt
 have HR : Hid (RAt w R g) := h
 have HV : Hid (VlC T nI Z fs ps) := V
 have HC : Hid (∀ w, _) := fun w => rval_ok w r now l0 l1
 rw [hA] at HC
 clear h V
 go_enter Tryz.func131, Tryz.ntmps131
 simp only [vl, vs, va]
 clear vl vs va vb
 go_wp2_with fail
 have h1 : Hid (RAt (w.alloc (.cells (chV r) T)) R g) := HR.out.kept (Kp.alloc noB _ _) id
 have h2 : Hid (KAt (w.alloc (.cells (chV r) T)) w.heap.size r) := HV.out.at _ w
 have k1 : Hid (Kp noB w (w.alloc (.cells (chV r) T))) := Kp.alloc _ _ _
 clear vG vN L
 generalize w.alloc (.cells (chV r) T) = w0 at h1 h2 k1 ⊢
 refine Calls.mono (HC.out _) ?_; rintro e w2 ⟨rfl, g2⟩
 have h3 := h1.out.kept g2 id
 have h4 := h2.out.kept g2 id
 have k4 := k1.out.trans g2
 clear h1 h2 k1 g2
 obtain ⟨q, hq⟩ : ∃ q, q = w.heap.size := ⟨_, rfl⟩
 have nq : ¬ R = q := by omega
 have lq : w.heap.size ≤ q := by omega
 rw [← hq] at h4 ⊢
 clear hq
 have c1 := h4.c1
 have c7 := h4.c7
 have c8 := h4.c8
 have c9 := h4.c9
 have z7 := h4.fz 7
 have z8 := h4.fz 8
 rw [hh] at c8
 rw [hu] at c7
 rw [hV] at c9
 rw [hw] at c1
 skip
 have e1 : (A).tmod 256 = A % 256 := Int.tmod_eq_emod_of_nonneg b0
 have e2 : (A).tdiv 256 = A / 256 := Int.tdiv_eq_ediv_of_nonneg b0
 have e3 : IntKind.u8.wrap (A % 256) = A % 256 := by rw [w8]; omega
 have e4 : IntKind.u8.wrap (A / 256) = A / 256 := by rw [w8]; omega
 have h2 : Hid (KAt (w2.setCell ⟨q, 7, none⟩ (.bool true)) q ⟨r.mode, r.how, r.len, r.began, r.st, r.wants, r.fst, true, r.held, r.value⟩) := (h4.set 7 _ ⟨r.mode, r.how, r.len, r.began, r.st, r.wants, r.fst, true, r.held, r.value⟩ rfl)
 have h1 : Hid (RAt (w2.setCell ⟨q, 7, none⟩ (.bool true)) R g) := h3.kept (kpB q _ _ _) nq
 have k1 : Hid (Kp noB w (w2.setCell ⟨q, 7, none⟩ (.bool true))) := (k4.new lq _ _)
 have HBd : Hid (0 ≤ A ∧ A < 65536) := ⟨b0, b1⟩
 clear h3 h4 k4 b0 b1 hA hV hh hu hw
 go_wp2
 clear c1 c7 c8 c9 z7 z8
 generalize (w2.setCell ⟨q, 7, none⟩ (.bool true)) = w1 at h1 h2 k1 ⊢
 have L1 := HV.out.get h2.out
 have L2 := HV.out.get (h2.out.kept (Kp.refl noB w1).drew id)
 have S1 := put_R h1.out i (i * 10) hi (by omega) ⟨r.mode, r.how, r.len, r.began, r.st, r.wants, r.fst, true, r.held, r.value⟩
 have S2 := put_R h1.out.drew i (i * 10) hi (by omega) ⟨r.mode, r.how, r.len, r.began, r.st, r.wants, r.fst, true, r.held, r.value⟩
 have E2 : Hid (RAt (w1.drew.setRow R (rowR (updR g i ⟨r.mode, r.how, r.len, r.began, r.st, r.wants, r.fst, true, r.held, r.value⟩))) R (updR g i ⟨r.mode, r.how, r.len, r.began, r.st, r.wants, r.fst, true, r.held, r.value⟩)) := h1.out.drew.put i _
 have K2 : Hid (Kp (isB R) w (w1.drew.setRow R (rowR (updR g i ⟨r.mode, r.how, r.len, r.began, r.st, r.wants, r.fst, true, r.held, r.value⟩)))) := (k1.out.drew.any).trans (Kp.setRow (S := isB R) _ rfl _)
 go_region
 all_goals
  go_wp2
  go_ret2
  exact ⟨ret_two (by first | rfl | (simp only [e1, e2, e3, e4]; done) | (have := HBd.out; rw [w64]; omega) | (have := HBd.out; omega)) rfl, E2.out, K2.out⟩
set_option maxRecDepth 20000 in
set_option maxHeartbeats 1000000 in
theorem rinnxu_k (i : Nat) (hi : i < 3) (w : World) (R : Nat) (g : Nat → RC) (r : RC) (h : RAt w R g) (hr : g i = r) (now : Int) (l0 : 1 ≤ r.len) (l1 : r.len ≤ 65536) (A V9 : Int) (hA : r.val now = A) (hV : r.value = V9) (b0 : 0 ≤ A) (b1 : A < 65536) (hh : r.held = false) (hw : ¬ r.how = 3) (hu : r.upper = true) : Calls Tryz.prog 131 #[.pointer (some ⟨R, 0, none⟩), .int .i64 i, .int .u64 now] w fun e w' => e = .returned (.tuple #[.int .u8 (A / 256), .int .i64 0]) ∧ RAt w' R (updR g i ⟨r.mode, r.how, r.len, r.began, r.st, r.wants, r.fst, r.upper, false, r.value⟩) ∧ Kp (isB R) w w' := by
 obtain ⟨T, nI, Z, fs, ps, V⟩ := vlC
 obtain ⟨vl, vs, va, vb⟩ := V.ops
 have v1 := V.agg
 have v2 := V.size
 have v3 := V.zero
 have v4 := V.under
 have v5 := V.map
 have v6 := V.zs
 have vG := V.getNew
 have vN := V.new
 have cs : ∀ r : RC, (chV r).size = nI := fun r => by rw [V.s]; rfl
 have L := V.getR h i (i * 10) hi (by omega)
 obtain ⟨hi0, hi1, hi2, hi3, hi4⟩ := cnt3 hi
 rw [hr] at L
 have lR := h.lt
 have HR : Hid (RAt w R g) := h
 have HV : Hid (VlC T nI Z fs ps) := V
 have HC : Hid (∀ w, _) := fun w => rval_ok w r now l0 l1
 rw [hA] at HC
 clear h V
 go_enter Tryz.func131, Tryz.ntmps131
 simp only [vl, vs, va]
 clear vl vs va vb
 go_wp2_with fail
 have h1 : Hid (RAt (w.alloc (.cells (chV r) T)) R g) := HR.out.kept (Kp.alloc noB _ _) id
 have h2 : Hid (KAt (w.alloc (.cells (chV r) T)) w.heap.size r) := HV.out.at _ w
 have k1 : Hid (Kp noB w (w.alloc (.cells (chV r) T))) := Kp.alloc _ _ _
 clear vG vN L
 generalize w.alloc (.cells (chV r) T) = w0 at h1 h2 k1 ⊢
 refine Calls.mono (HC.out _) ?_; rintro e w2 ⟨rfl, g2⟩
 have h3 := h1.out.kept g2 id
 have h4 := h2.out.kept g2 id
 have k4 := k1.out.trans g2
 clear h1 h2 k1 g2
 obtain ⟨q, hq⟩ : ∃ q, q = w.heap.size := ⟨_, rfl⟩
 have nq : ¬ R = q := by omega
 have lq : w.heap.size ≤ q := by omega
 rw [← hq] at h4 ⊢
 clear hq
 have c1 := h4.c1
 have c7 := h4.c7
 have c8 := h4.c8
 have c9 := h4.c9
 have z7 := h4.fz 7
 have z8 := h4.fz 8
 rw [hh] at c8
 rw [hu] at c7
 rw [hV] at c9
 have hw1 : (r.how != 3) = true := by simp [hw]
 have hw2 : (r.how == 3) = false := by simp [hw]
 have e1 : (A).tmod 256 = A % 256 := Int.tmod_eq_emod_of_nonneg b0
 have e2 : (A).tdiv 256 = A / 256 := Int.tdiv_eq_ediv_of_nonneg b0
 have e3 : IntKind.u8.wrap (A % 256) = A % 256 := by rw [w8]; omega
 have e4 : IntKind.u8.wrap (A / 256) = A / 256 := by rw [w8]; omega
 have h2 : Hid (KAt (w2.setCell ⟨q, 8, none⟩ (.bool false)) q ⟨r.mode, r.how, r.len, r.began, r.st, r.wants, r.fst, r.upper, false, r.value⟩) := (h4.set 8 _ ⟨r.mode, r.how, r.len, r.began, r.st, r.wants, r.fst, r.upper, false, r.value⟩ rfl)
 have h1 : Hid (RAt (w2.setCell ⟨q, 8, none⟩ (.bool false)) R g) := h3.kept (kpB q _ _ _) nq
 have k1 : Hid (Kp noB w (w2.setCell ⟨q, 8, none⟩ (.bool false))) := (k4.new lq _ _)
 have HBd : Hid (0 ≤ A ∧ A < 65536) := ⟨b0, b1⟩
 clear h3 h4 k4 b0 b1 hA hV hh hu hw
 go_wp2
 clear c1 c7 c8 c9 z7 z8
 generalize (w2.setCell ⟨q, 8, none⟩ (.bool false)) = w1 at h1 h2 k1 ⊢
 have L1 := HV.out.get h2.out
 have L2 := HV.out.get (h2.out.kept (Kp.refl noB w1).drew id)
 have S1 := put_R h1.out i (i * 10) hi (by omega) ⟨r.mode, r.how, r.len, r.began, r.st, r.wants, r.fst, r.upper, false, r.value⟩
 have S2 := put_R h1.out.drew i (i * 10) hi (by omega) ⟨r.mode, r.how, r.len, r.began, r.st, r.wants, r.fst, r.upper, false, r.value⟩
 have E2 : Hid (RAt (w1.drew.setRow R (rowR (updR g i ⟨r.mode, r.how, r.len, r.began, r.st, r.wants, r.fst, r.upper, false, r.value⟩))) R (updR g i ⟨r.mode, r.how, r.len, r.began, r.st, r.wants, r.fst, r.upper, false, r.value⟩)) := h1.out.drew.put i _
 have K2 : Hid (Kp (isB R) w (w1.drew.setRow R (rowR (updR g i ⟨r.mode, r.how, r.len, r.began, r.st, r.wants, r.fst, r.upper, false, r.value⟩)))) := (k1.out.drew.any).trans (Kp.setRow (S := isB R) _ rfl _)
 go_region
 all_goals
  go_wp2
  go_ret2
  exact ⟨ret_two (by first | rfl | (simp only [e1, e2, e3, e4]; done) | (have := HBd.out; rw [w64]; omega) | (have := HBd.out; omega)) rfl, E2.out, K2.out⟩
set_option maxRecDepth 20000 in
set_option maxHeartbeats 1000000 in
theorem rinnxl_k (i : Nat) (hi : i < 3) (w : World) (R : Nat) (g : Nat → RC) (r : RC) (h : RAt w R g) (hr : g i = r) (now : Int) (l0 : 1 ≤ r.len) (l1 : r.len ≤ 65536) (A V9 : Int) (hA : r.val now = A) (hV : r.value = V9) (b0 : 0 ≤ A) (b1 : A < 65536) (hh : r.held = false) (hw : ¬ r.how = 3) (hu : r.upper = false) : Calls Tryz.prog 131 #[.pointer (some ⟨R, 0, none⟩), .int .i64 i, .int .u64 now] w fun e w' => e = .returned (.tuple #[.int .u8 (A % 256), .int .i64 0]) ∧ RAt w' R (updR g i ⟨r.mode, r.how, r.len, r.began, r.st, r.wants, r.fst, r.upper, false, r.value⟩) ∧ Kp (isB R) w w' := by
 obtain ⟨T, nI, Z, fs, ps, V⟩ := vlC
 obtain ⟨vl, vs, va, vb⟩ := V.ops
 have v1 := V.agg
 have v2 := V.size
 have v3 := V.zero
 have v4 := V.under
 have v5 := V.map
 have v6 := V.zs
 have vG := V.getNew
 have vN := V.new
 have cs : ∀ r : RC, (chV r).size = nI := fun r => by rw [V.s]; rfl
 have L := V.getR h i (i * 10) hi (by omega)
 obtain ⟨hi0, hi1, hi2, hi3, hi4⟩ := cnt3 hi
 rw [hr] at L
 have lR := h.lt
 have HR : Hid (RAt w R g) := h
 have HV : Hid (VlC T nI Z fs ps) := V
 have HC : Hid (∀ w, _) := fun w => rval_ok w r now l0 l1
 rw [hA] at HC
 clear h V
 go_enter Tryz.func131, Tryz.ntmps131
 simp only [vl, vs, va]
 clear vl vs va vb
 go_wp2_with fail
 have h1 : Hid (RAt (w.alloc (.cells (chV r) T)) R g) := HR.out.kept (Kp.alloc noB _ _) id
 have h2 : Hid (KAt (w.alloc (.cells (chV r) T)) w.heap.size r) := HV.out.at _ w
 have k1 : Hid (Kp noB w (w.alloc (.cells (chV r) T))) := Kp.alloc _ _ _
 clear vG vN L
 generalize w.alloc (.cells (chV r) T) = w0 at h1 h2 k1 ⊢
 refine Calls.mono (HC.out _) ?_; rintro e w2 ⟨rfl, g2⟩
 have h3 := h1.out.kept g2 id
 have h4 := h2.out.kept g2 id
 have k4 := k1.out.trans g2
 clear h1 h2 k1 g2
 obtain ⟨q, hq⟩ : ∃ q, q = w.heap.size := ⟨_, rfl⟩
 have nq : ¬ R = q := by omega
 have lq : w.heap.size ≤ q := by omega
 rw [← hq] at h4 ⊢
 clear hq
 have c1 := h4.c1
 have c7 := h4.c7
 have c8 := h4.c8
 have c9 := h4.c9
 have z7 := h4.fz 7
 have z8 := h4.fz 8
 rw [hh] at c8
 rw [hu] at c7
 rw [hV] at c9
 have hw1 : (r.how != 3) = true := by simp [hw]
 have hw2 : (r.how == 3) = false := by simp [hw]
 have e1 : (A).tmod 256 = A % 256 := Int.tmod_eq_emod_of_nonneg b0
 have e2 : (A).tdiv 256 = A / 256 := Int.tdiv_eq_ediv_of_nonneg b0
 have e3 : IntKind.u8.wrap (A % 256) = A % 256 := by rw [w8]; omega
 have e4 : IntKind.u8.wrap (A / 256) = A / 256 := by rw [w8]; omega
 have h2 : Hid (KAt (w2.setCell ⟨q, 8, none⟩ (.bool false)) q ⟨r.mode, r.how, r.len, r.began, r.st, r.wants, r.fst, r.upper, false, r.value⟩) := (h4.set 8 _ ⟨r.mode, r.how, r.len, r.began, r.st, r.wants, r.fst, r.upper, false, r.value⟩ rfl)
 have h1 : Hid (RAt (w2.setCell ⟨q, 8, none⟩ (.bool false)) R g) := h3.kept (kpB q _ _ _) nq
 have k1 : Hid (Kp noB w (w2.setCell ⟨q, 8, none⟩ (.bool false))) := (k4.new lq _ _)
 have HBd : Hid (0 ≤ A ∧ A < 65536) := ⟨b0, b1⟩
 clear h3 h4 k4 b0 b1 hA hV hh hu hw
 go_wp2
 clear c1 c7 c8 c9 z7 z8
 generalize (w2.setCell ⟨q, 8, none⟩ (.bool false)) = w1 at h1 h2 k1 ⊢
 have L1 := HV.out.get h2.out
 have L2 := HV.out.get (h2.out.kept (Kp.refl noB w1).drew id)
 have S1 := put_R h1.out i (i * 10) hi (by omega) ⟨r.mode, r.how, r.len, r.began, r.st, r.wants, r.fst, r.upper, false, r.value⟩
 have S2 := put_R h1.out.drew i (i * 10) hi (by omega) ⟨r.mode, r.how, r.len, r.began, r.st, r.wants, r.fst, r.upper, false, r.value⟩
 have E2 : Hid (RAt (w1.drew.setRow R (rowR (updR g i ⟨r.mode, r.how, r.len, r.began, r.st, r.wants, r.fst, r.upper, false, r.value⟩))) R (updR g i ⟨r.mode, r.how, r.len, r.began, r.st, r.wants, r.fst, r.upper, false, r.value⟩)) := h1.out.drew.put i _
 have K2 : Hid (Kp (isB R) w (w1.drew.setRow R (rowR (updR g i ⟨r.mode, r.how, r.len, r.began, r.st, r.wants, r.fst, r.upper, false, r.value⟩)))) := (k1.out.drew.any).trans (Kp.setRow (S := isB R) _ rfl _)
 go_region
 all_goals
  go_wp2
  go_ret2
  exact ⟨ret_two (by first | rfl | (simp only [e1, e2, e3, e4]; done) | (have := HBd.out; rw [w64]; omega) | (have := HBd.out; omega)) rfl, E2.out, K2.out⟩
end Go.Proofs.YtonfjhbfkichkaaGreat.Pt
