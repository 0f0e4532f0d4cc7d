/- The bus and its devices: RtCmd. -/
import Derived.Test.YtonfjhbfkichkaaGreatBz20
namespace Go.Proofs.YtonfjhbfkichkaaGreat.Pt
open Go.ChangeShapes Go.WideShapes Go.ChangeAt Go.RowKit
set_option linter.unusedVariables false
set_option maxRecDepth 20000
set_option maxRecDepth 20000 in
set_option maxHeartbeats 1000000 in
theorem rcmdT_k (i : Nat) (hi : i < 3) (w : World) (R : Nat) (g : Nat → RC) (r : RC) (h : RAt w R g) (hr : g i = r) (v now : Int) (v0 : 0 ≤ v) (v1 : v < 256) (hn : v / 64 = i) (hb : v / 16 % 4 = 0) (hh : r.held = true) : Calls Tryz.prog 160 #[.pointer (some ⟨R, 0, none⟩), .int .u8 v, .int .u64 now] w fun e w' => e = .returned (.tuple #[]) ∧ RAt w' R (updR g i r) ∧ Kp (isB R) w w' := by
 obtain ⟨T, nI, Z, fs, ps, V⟩ := vlC
 obtain ⟨vl, vs, va, vb⟩ := V.ops
 have v1 := V.agg
 have v2 := V.size
 have v3 := V.zero
 have v4 := V.under
 have v5 := V.map
 have v6 := V.zs
 have vG := V.getNew
 have vN := V.new
 have cs : ∀ r : RC, (chV r).size = nI := fun r => by rw [V.s]; rfl
 have L := V.getR h i (i * 10) hi (by omega)
 obtain ⟨hi0, hi1, hi2, hi3, hi4⟩ := cnt3 hi
 rw [hr] at L
 have lR := h.lt
 have HR : Hid (RAt w R g) := h
 have HV : Hid (VlC T nI Z fs ps) := V
 have d1 : v.tdiv 64 = i := by rw [Int.tdiv_eq_ediv_of_nonneg v0]; exact hn
 have d2 : v.tdiv 16 = v / 16 := Int.tdiv_eq_ediv_of_nonneg v0
 have d3 : (v / 16).tmod 4 = v / 16 % 4 := Int.tmod_eq_emod_of_nonneg (by omega)
 rw [hb] at d3
 have q8 : (chV r)[8]? = some (.bool true) := by rw [← hh]; rfl
 clear hh
 clear h V
 go_enter Tryz.func160, Tryz.ntmps160
 simp only [vl, vs, va]
 clear vl vs va vb
 go_wp2
 have h1 : Hid (RAt (w.alloc (.cells (chV (r : RC)) T)) R g) := HR.out.kept (Kp.alloc noB _ _) id
 have h2 : Hid (KAt (w.alloc (.cells (chV (r : RC)) T)) w.heap.size r) := HV.out.at _ w
 have k1 : Hid (Kp noB w (w.alloc (.cells (chV (r : RC)) T))) := Kp.alloc _ _ _
 clear vG vN L
 generalize w.alloc (.cells (chV (r : RC)) T) = w1 at h1 h2 k1 ⊢
 have L1 := HV.out.get h2.out
 have L2 := HV.out.get (h2.out.kept (Kp.refl noB w1).drew id)
 have S1 := put_R h1.out i (i * 10) hi (by omega) r
 have S2 := put_R h1.out.drew i (i * 10) hi (by omega) r
 have E2 : Hid (RAt (w1.drew.setRow R (rowR (updR g i r))) R (updR g i r)) := h1.out.drew.put i _
 have K2 : Hid (Kp (isB R) w (w1.drew.setRow R (rowR (updR g i r)))) := (k1.out.drew.any).trans (Kp.setRow (S := isB R) _ rfl _)
 go_region
 all_goals
  go_wp2
  refine bodyPost_ret (results_none rfl _ _ _) rfl ?_
  exact ⟨rfl, E2.out, K2.out⟩
set_option maxRecDepth 20000 in
set_option maxHeartbeats 1000000 in
theorem rcmdH_k (i : Nat) (hi : i < 3) (w : World) (R : Nat) (g : Nat → RC) (r : RC) (h : RAt w R g) (hr : g i = r) (v now : Int) (v0 : 0 ≤ v) (v1 : v < 256) (hn : v / 64 = i) (l0 : 1 ≤ r.len) (l1 : r.len ≤ 65536) (hb : v / 16 % 4 = 0) (hh : r.held = false) (V9 : Int) (hV9 : r.val now = V9) : Calls Tryz.prog 160 #[.pointer (some ⟨R, 0, none⟩), .int .u8 v, .int .u64 now] w fun e w' => e = .returned (.tuple #[]) ∧ RAt w' R (updR g i ⟨r.mode, r.how, r.len, r.began, r.st, r.wants, r.fst, r.upper, true, V9⟩) ∧ Kp (isB R) w w' := by
 obtain ⟨T, nI, Z, fs, ps, V⟩ := vlC
 obtain ⟨vl, vs, va, vb⟩ := V.ops
 have v1 := V.agg
 have v2 := V.size
 have v3 := V.zero
 have v4 := V.under
 have v5 := V.map
 have v6 := V.zs
 have vG := V.getNew
 have vN := V.new
 have cs : ∀ r : RC, (chV r).size = nI := fun r => by rw [V.s]; rfl
 have L := V.getR h i (i * 10) hi (by omega)
 obtain ⟨hi0, hi1, hi2, hi3, hi4⟩ := cnt3 hi
 rw [hr] at L
 have lR := h.lt
 have HR : Hid (RAt w R g) := h
 have HV : Hid (VlC T nI Z fs ps) := V
 have d1 : v.tdiv 64 = i := by rw [Int.tdiv_eq_ediv_of_nonneg v0]; exact hn
 have d2 : v.tdiv 16 = v / 16 := Int.tdiv_eq_ediv_of_nonneg v0
 have d3 : (v / 16).tmod 4 = v / 16 % 4 := Int.tmod_eq_emod_of_nonneg (by omega)
 rw [hb] at d3
 have q8 : (chV r)[8]? = some (.bool false) := by rw [← hh]; rfl
 clear hh
 have HC : Hid (∀ w, _) := fun w => rval_ok w r now l0 l1
 rw [hV9] at HC
 clear h V
 go_enter Tryz.func160, Tryz.ntmps160
 simp only [vl, vs, va]
 clear vl vs va vb
 go_wp2_with fail
 have h1 : Hid (RAt (w.alloc (.cells (chV r) T)) R g) := HR.out.kept (Kp.alloc noB _ _) id
 have h2 : Hid (KAt (w.alloc (.cells (chV r) T)) w.heap.size r) := HV.out.at _ w
 have k1 : Hid (Kp noB w (w.alloc (.cells (chV r) T))) := Kp.alloc _ _ _
 clear vG vN L q8
 generalize w.alloc (.cells (chV r) T) = w0 at h1 h2 k1 ⊢
 refine Calls.mono (HC.out _) ?_; rintro e w2 ⟨rfl, g2⟩
 have h3 := h1.out.kept g2 id
 have h4 := h2.out.kept g2 id
 have k4 := k1.out.trans g2
 clear h1 h2 k1 g2
 obtain ⟨q, hq⟩ : ∃ q, q = w.heap.size := ⟨_, rfl⟩
 have nq : ¬ R = q := by omega
 have lq : w.heap.size ≤ q := by omega
 rw [← hq] at h4 ⊢
 clear hq
 have c8 := h4.c8
 have c9 := h4.c9
 have z8 := h4.fz 8
 have z9 := h4.fz 9
 have h2 : Hid (KAt ((w2.setCell ⟨q, 9, none⟩ (.int .u64 V9)).setCell ⟨q, 8, none⟩ (.bool true)) q ⟨r.mode, r.how, r.len, r.began, r.st, r.wants, r.fst, r.upper, true, V9⟩) := (h4.set 9 _ ⟨r.mode, r.how, r.len, r.began, r.st, r.wants, r.fst, r.upper, r.held, V9⟩ rfl).set 8 _ _ rfl
 have h1 : Hid (RAt ((w2.setCell ⟨q, 9, none⟩ (.int .u64 V9)).setCell ⟨q, 8, none⟩ (.bool true)) R g) := h3.kept ((kpB q w2 _ _).trans (kpB q _ _ _)) nq
 have k1 : Hid (Kp noB w ((w2.setCell ⟨q, 9, none⟩ (.int .u64 V9)).setCell ⟨q, 8, none⟩ (.bool true))) := (k4.new lq _ _).new lq _ _
 clear h3 h4 k4
 go_wp2
 clear c8 c9 z8 z9
 generalize (w2.setCell ⟨q, 9, none⟩ (.int .u64 V9)).setCell ⟨q, 8, none⟩ (.bool true) = w1 at h1 h2 k1 ⊢
 have L1 := HV.out.get h2.out
 have L2 := HV.out.get (h2.out.kept (Kp.refl noB w1).drew id)
 have S1 := put_R h1.out i (i * 10) hi (by omega) ⟨r.mode, r.how, r.len, r.began, r.st, r.wants, r.fst, r.upper, true, V9⟩
 have S2 := put_R h1.out.drew i (i * 10) hi (by omega) ⟨r.mode, r.how, r.len, r.began, r.st, r.wants, r.fst, r.upper, true, V9⟩
 have E2 : Hid (RAt (w1.drew.setRow R (rowR (updR g i ⟨r.mode, r.how, r.len, r.began, r.st, r.wants, r.fst, r.upper, true, V9⟩))) R (updR g i ⟨r.mode, r.how, r.len, r.began, r.st, r.wants, r.fst, r.upper, true, V9⟩)) := h1.out.drew.put i _
 have K2 : Hid (Kp (isB R) w (w1.drew.setRow R (rowR (updR g i ⟨r.mode, r.how, r.len, r.began, r.st, r.wants, r.fst, r.upper, true, V9⟩)))) := (k1.out.drew.any).trans (Kp.setRow (S := isB R) _ rfl _)
 go_region
 all_goals
  go_wp2
  refine bodyPost_ret (results_none rfl _ _ _) rfl ?_
  exact ⟨rfl, E2.out, K2.out⟩
set_option maxRecDepth 20000 in
set_option maxHeartbeats 1000000 in
theorem rcmdSl_k (i : Nat) (hi : i < 3) (w : World) (R : Nat) (g : Nat → RC) (r : RC) (h : RAt w R g) (hr : g i = r) (v now : Int) (v0 : 0 ≤ v) (v1 : v < 256) (hn : v / 64 = i) (b m : Int) (hb : v / 16 % 4 = b) (hb0 : ¬ b = 0) (hm : v / 2 % 8 = m) (hg : ¬ 5 < m) : Calls Tryz.prog 160 #[.pointer (some ⟨R, 0, none⟩), .int .u8 v, .int .u64 now] w fun e w' => e = .returned (.tuple #[]) ∧ RAt w' R (updR g i ⟨m, b, r.len, r.began, true, false, r.fst, (b == 2), false, r.value⟩) ∧ Kp (isB R) w w' := by
 obtain ⟨T, nI, Z, fs, ps, V⟩ := vlC
 obtain ⟨vl, vs, va, vb⟩ := V.ops
 have v1 := V.agg
 have v2 := V.size
 have v3 := V.zero
 have v4 := V.under
 have v5 := V.map
 have v6 := V.zs
 have vG := V.getNew
 have vN := V.new
 have cs : ∀ r : RC, (chV r).size = nI := fun r => by rw [V.s]; rfl
 have L := V.getR h i (i * 10) hi (by omega)
 obtain ⟨hi0, hi1, hi2, hi3, hi4⟩ := cnt3 hi
 rw [hr] at L
 have lR := h.lt
 have HR : Hid (RAt w R g) := h
 have HV : Hid (VlC T nI Z fs ps) := V
 have d1 : v.tdiv 64 = i := by rw [Int.tdiv_eq_ediv_of_nonneg v0]; exact hn
 have d2 : v.tdiv 16 = v / 16 := Int.tdiv_eq_ediv_of_nonneg v0
 have d3 : (v / 16).tmod 4 = v / 16 % 4 := Int.tmod_eq_emod_of_nonneg (by omega)
 rw [hb] at d3
 have d4 : v.tdiv 2 = v / 2 := Int.tdiv_eq_ediv_of_nonneg v0
 have d5 : (v / 2).tmod 8 = m := by rw [Int.tmod_eq_emod_of_nonneg (by omega)]; exact hm
 have bz : (b == 0) = false := by simp [hb0]
 have gd : decide (5 < m) = false := by simp; omega
 have m0 : 0 ≤ m := by omega
 have m1 : m < 8 := by omega
 clear hb0 hg
 have q0 : ∀ r : RC, (chV r)[0]? = some (.int .i64 r.mode) := fun r => rfl
 have q1 : ∀ r : RC, (chV r)[1]? = some (.int .i64 r.how) := fun r => rfl
 have q4 : ∀ r : RC, (chV r)[4]? = some (.bool r.st) := fun r => rfl
 have q5 : ∀ r : RC, (chV r)[5]? = some (.bool r.wants) := fun r => rfl
 have q7 : ∀ r : RC, (chV r)[7]? = some (.bool r.upper) := fun r => rfl
 have q8 : ∀ r : RC, (chV r)[8]? = some (.bool r.held) := fun r => rfl
 have s0 : ∀ (r : RC) (x : Int), (chV r).setIfInBounds 0 (.int .i64 x) = chV { r with mode := x } := fun r x => rfl
 have s1 : ∀ (r : RC) (x : Int), (chV r).setIfInBounds 1 (.int .i64 x) = chV { r with how := x } := fun r x => rfl
 have s4 : ∀ (r : RC) (x : Bool), (chV r).setIfInBounds 4 (.bool x) = chV { r with st := x } := fun r x => rfl
 have s5 : ∀ (r : RC) (x : Bool), (chV r).setIfInBounds 5 (.bool x) = chV { r with wants := x } := fun r x => rfl
 have s7 : ∀ (r : RC) (x : Bool), (chV r).setIfInBounds 7 (.bool x) = chV { r with upper := x } := fun r x => rfl
 have s8 : ∀ (r : RC) (x : Bool), (chV r).setIfInBounds 8 (.bool x) = chV { r with held := x } := fun r x => rfl
 clear h V
 go_enter Tryz.func160, Tryz.ntmps160
 simp only [vl, vs, va]
 clear vl vs va vb
 go_wp2
 have h1 : Hid (RAt (w.alloc (.cells (chV (⟨m, b, r.len, r.began, true, false, r.fst, (b == 2), false, r.value⟩ : RC)) T)) R g) := HR.out.kept (Kp.alloc noB _ _) id
 have h2 : Hid (KAt (w.alloc (.cells (chV (⟨m, b, r.len, r.began, true, false, r.fst, (b == 2), false, r.value⟩ : RC)) T)) w.heap.size ⟨m, b, r.len, r.began, true, false, r.fst, (b == 2), false, r.value⟩) := HV.out.at _ w
 have k1 : Hid (Kp noB w (w.alloc (.cells (chV (⟨m, b, r.len, r.began, true, false, r.fst, (b == 2), false, r.value⟩ : RC)) T))) := Kp.alloc _ _ _
 clear vG vN L
 generalize w.alloc (.cells (chV (⟨m, b, r.len, r.began, true, false, r.fst, (b == 2), false, r.value⟩ : RC)) T) = w1 at h1 h2 k1 ⊢
 have L1 := HV.out.get h2.out
 have L2 := HV.out.get (h2.out.kept (Kp.refl noB w1).drew id)
 have S1 := put_R h1.out i (i * 10) hi (by omega) ⟨m, b, r.len, r.began, true, false, r.fst, (b == 2), false, r.value⟩
 have S2 := put_R h1.out.drew i (i * 10) hi (by omega) ⟨m, b, r.len, r.began, true, false, r.fst, (b == 2), false, r.value⟩
 have E2 : Hid (RAt (w1.drew.setRow R (rowR (updR g i ⟨m, b, r.len, r.began, true, false, r.fst, (b == 2), false, r.value⟩))) R (updR g i ⟨m, b, r.len, r.began, true, false, r.fst, (b == 2), false, r.value⟩)) := h1.out.drew.put i _
 have K2 : Hid (Kp (isB R) w (w1.drew.setRow R (rowR (updR g i ⟨m, b, r.len, r.began, true, false, r.fst, (b == 2), false, r.value⟩)))) := (k1.out.drew.any).trans (Kp.setRow (S := isB R) _ rfl _)
 go_region
 all_goals
  go_wp2
  go_end0
  exact ⟨rfl, E2.out, K2.out⟩
set_option maxRecDepth 20000 in
set_option maxHeartbeats 1000000 in
theorem rcmdSg_k (i : Nat) (hi : i < 3) (w : World) (R : Nat) (g : Nat → RC) (r : RC) (h : RAt w R g) (hr : g i = r) (v now : Int) (v0 : 0 ≤ v) (v1 : v < 256) (hn : v / 64 = i) (b m : Int) (hb : v / 16 % 4 = b) (hb0 : ¬ b = 0) (hm : v / 2 % 8 = m) (hg : 5 < m) : Calls Tryz.prog 160 #[.pointer (some ⟨R, 0, none⟩), .int .u8 v, .int .u64 now] w fun e w' => e = .returned (.tuple #[]) ∧ RAt w' R (updR g i ⟨(m - 4), b, r.len, r.began, true, false, r.fst, (b == 2), false, r.value⟩) ∧ Kp (isB R) w w' := by
 obtain ⟨T, nI, Z, fs, ps, V⟩ := vlC
 obtain ⟨vl, vs, va, vb⟩ := V.ops
 have v1 := V.agg
 have v2 := V.size
 have v3 := V.zero
 have v4 := V.under
 have v5 := V.map
 have v6 := V.zs
 have vG := V.getNew
 have vN := V.new
 have cs : ∀ r : RC, (chV r).size = nI := fun r => by rw [V.s]; rfl
 have L := V.getR h i (i * 10) hi (by omega)
 obtain ⟨hi0, hi1, hi2, hi3, hi4⟩ := cnt3 hi
 rw [hr] at L
 have lR := h.lt
 have HR : Hid (RAt w R g) := h
 have HV : Hid (VlC T nI Z fs ps) := V
 have d1 : v.tdiv 64 = i := by rw [Int.tdiv_eq_ediv_of_nonneg v0]; exact hn
 have d2 : v.tdiv 16 = v / 16 := Int.tdiv_eq_ediv_of_nonneg v0
 have d3 : (v / 16).tmod 4 = v / 16 % 4 := Int.tmod_eq_emod_of_nonneg (by omega)
 rw [hb] at d3
 have d4 : v.tdiv 2 = v / 2 := Int.tdiv_eq_ediv_of_nonneg v0
 have d5 : (v / 2).tmod 8 = m := by rw [Int.tmod_eq_emod_of_nonneg (by omega)]; exact hm
 have bz : (b == 0) = false := by simp [hb0]
 have gd : decide (5 < m) = true := by simp; omega
 have m0 : 0 ≤ m := by omega
 have m1 : m < 8 := by omega
 clear hb0 hg
 have q0 : ∀ r : RC, (chV r)[0]? = some (.int .i64 r.mode) := fun r => rfl
 have q1 : ∀ r : RC, (chV r)[1]? = some (.int .i64 r.how) := fun r => rfl
 have q4 : ∀ r : RC, (chV r)[4]? = some (.bool r.st) := fun r => rfl
 have q5 : ∀ r : RC, (chV r)[5]? = some (.bool r.wants) := fun r => rfl
 have q7 : ∀ r : RC, (chV r)[7]? = some (.bool r.upper) := fun r => rfl
 have q8 : ∀ r : RC, (chV r)[8]? = some (.bool r.held) := fun r => rfl
 have s0 : ∀ (r : RC) (x : Int), (chV r).setIfInBounds 0 (.int .i64 x) = chV { r with mode := x } := fun r x => rfl
 have s1 : ∀ (r : RC) (x : Int), (chV r).setIfInBounds 1 (.int .i64 x) = chV { r with how := x } := fun r x => rfl
 have s4 : ∀ (r : RC) (x : Bool), (chV r).setIfInBounds 4 (.bool x) = chV { r with st := x } := fun r x => rfl
 have s5 : ∀ (r : RC) (x : Bool), (chV r).setIfInBounds 5 (.bool x) = chV { r with wants := x } := fun r x => rfl
 have s7 : ∀ (r : RC) (x : Bool), (chV r).setIfInBounds 7 (.bool x) = chV { r with upper := x } := fun r x => rfl
 have s8 : ∀ (r : RC) (x : Bool), (chV r).setIfInBounds 8 (.bool x) = chV { r with held := x } := fun r x => rfl
 clear h V
 go_enter Tryz.func160, Tryz.ntmps160
 simp only [vl, vs, va]
 clear vl vs va vb
 go_wp2
 have h1 : Hid (RAt (w.alloc (.cells (chV (⟨(m - 4), b, r.len, r.began, true, false, r.fst, (b == 2), false, r.value⟩ : RC)) T)) R g) := HR.out.kept (Kp.alloc noB _ _) id
 have h2 : Hid (KAt (w.alloc (.cells (chV (⟨(m - 4), b, r.len, r.began, true, false, r.fst, (b == 2), false, r.value⟩ : RC)) T)) w.heap.size ⟨(m - 4), b, r.len, r.began, true, false, r.fst, (b == 2), false, r.value⟩) := HV.out.at _ w
 have k1 : Hid (Kp noB w (w.alloc (.cells (chV (⟨(m - 4), b, r.len, r.began, true, false, r.fst, (b == 2), false, r.value⟩ : RC)) T))) := Kp.alloc _ _ _
 clear vG vN L
 generalize w.alloc (.cells (chV (⟨(m - 4), b, r.len, r.began, true, false, r.fst, (b == 2), false, r.value⟩ : RC)) T) = w1 at h1 h2 k1 ⊢
 have L1 := HV.out.get h2.out
 have L2 := HV.out.get (h2.out.kept (Kp.refl noB w1).drew id)
 have S1 := put_R h1.out i (i * 10) hi (by omega) ⟨(m - 4), b, r.len, r.began, true, false, r.fst, (b == 2), false, r.value⟩
 have S2 := put_R h1.out.drew i (i * 10) hi (by omega) ⟨(m - 4), b, r.len, r.began, true, false, r.fst, (b == 2), false, r.value⟩
 have E2 : Hid (RAt (w1.drew.setRow R (rowR (updR g i ⟨(m - 4), b, r.len, r.began, true, false, r.fst, (b == 2), false, r.value⟩))) R (updR g i ⟨(m - 4), b, r.len, r.began, true, false, r.fst, (b == 2), false, r.value⟩)) := h1.out.drew.put i _
 have K2 : Hid (Kp (isB R) w (w1.drew.setRow R (rowR (updR g i ⟨(m - 4), b, r.len, r.began, true, false, r.fst, (b == 2), false, r.value⟩)))) := (k1.out.drew.any).trans (Kp.setRow (S := isB R) _ rfl _)
 go_region
 all_goals
  go_wp2
  go_end0
  exact ⟨rfl, E2.out, K2.out⟩
end Go.Proofs.YtonfjhbfkichkaaGreat.Pt
