/- The bus and its devices: RtOut. -/
import Derived.Test.YtonfjhbfkichkaaGreatBz20
namespace Go.Proofs.YtonfjhbfkichkaaGreat.Pt
open Go.ChangeShapes Go.WideShapes Go.ChangeAt Go.RowKit
set_option linter.unusedVariables false
set_option maxRecDepth 20000
set_option maxRecDepth 20000 in
set_option maxHeartbeats 1000000 in
theorem routF_k (i : Nat) (hi : i < 3) (w : World) (R : Nat) (g : Nat → RC) (r : RC) (h : RAt w R g) (hr : g i = r) (v now : Int) (v0 : 0 ≤ v) (v1 : v < 256) (hh : r.how = 3) (hw : r.wants = false) : Calls Tryz.prog 127 #[.pointer (some ⟨R, 0, none⟩), .int .i64 i, .int .u8 v, .int .u64 now] w fun e w' => e = .returned (.int .i64 0) ∧ RAt w' R (updR g i ⟨r.mode, r.how, r.len, r.began, r.st, true, v, r.upper, r.held, r.value⟩) ∧ Kp (isB R) w w' := by
 obtain ⟨T, nI, Z, fs, ps, V⟩ := vlC
 obtain ⟨vl, vs, va, vb⟩ := V.ops
 have v1 := V.agg
 have v2 := V.size
 have v3 := V.zero
 have v4 := V.under
 have v5 := V.map
 have v6 := V.zs
 have vG := V.getNew
 have vN := V.new
 have cs : ∀ r : RC, (chV r).size = nI := fun r => by rw [V.s]; rfl
 have L := V.getR h i (i * 10) hi (by omega)
 obtain ⟨hi0, hi1, hi2, hi3, hi4⟩ := cnt3 hi
 rw [hr] at L
 have lR := h.lt
 have HR : Hid (RAt w R g) := h
 have HV : Hid (VlC T nI Z fs ps) := V
 have q1 : (chV r)[1]? = some (.int .i64 3) := by rw [← hh]; rfl
 have q5 : (chV r)[5]? = some (.bool false) := by rw [← hw]; rfl
 clear hh hw
 have s5 : ∀ (r : RC) (x : Bool), (chV r).setIfInBounds 5 (.bool x) = chV { r with wants := x } := fun r x => rfl
 have s6 : ∀ (r : RC) (x : Int), (chV r).setIfInBounds 6 (.int .u8 x) = chV { r with fst := x } := fun r x => rfl
 clear h V
 go_enter Tryz.func127, Tryz.ntmps127
 simp only [vl, vs, va]
 clear vl vs va vb
 go_wp2
 have h1 : Hid (RAt (w.alloc (.cells (chV (⟨r.mode, r.how, r.len, r.began, r.st, true, v, r.upper, r.held, r.value⟩ : RC)) T)) R g) := HR.out.kept (Kp.alloc noB _ _) id
 have h2 : Hid (KAt (w.alloc (.cells (chV (⟨r.mode, r.how, r.len, r.began, r.st, true, v, r.upper, r.held, r.value⟩ : RC)) T)) w.heap.size ⟨r.mode, r.how, r.len, r.began, r.st, true, v, r.upper, r.held, r.value⟩) := HV.out.at _ w
 have k1 : Hid (Kp noB w (w.alloc (.cells (chV (⟨r.mode, r.how, r.len, r.began, r.st, true, v, r.upper, r.held, r.value⟩ : RC)) T))) := Kp.alloc _ _ _
 clear vG vN L
 generalize w.alloc (.cells (chV (⟨r.mode, r.how, r.len, r.began, r.st, true, v, r.upper, r.held, r.value⟩ : RC)) T) = w1 at h1 h2 k1 ⊢
 have L1 := HV.out.get h2.out
 have L2 := HV.out.get (h2.out.kept (Kp.refl noB w1).drew id)
 have S1 := put_R h1.out i (i * 10) hi (by omega) ⟨r.mode, r.how, r.len, r.began, r.st, true, v, r.upper, r.held, r.value⟩
 have S2 := put_R h1.out.drew i (i * 10) hi (by omega) ⟨r.mode, r.how, r.len, r.began, r.st, true, v, r.upper, r.held, r.value⟩
 have E2 : Hid (RAt (w1.drew.setRow R (rowR (updR g i ⟨r.mode, r.how, r.len, r.began, r.st, true, v, r.upper, r.held, r.value⟩))) R (updR g i ⟨r.mode, r.how, r.len, r.began, r.st, true, v, r.upper, r.held, r.value⟩)) := h1.out.drew.put i _
 have K2 : Hid (Kp (isB R) w (w1.drew.setRow R (rowR (updR g i ⟨r.mode, r.how, r.len, r.began, r.st, true, v, r.upper, r.held, r.value⟩)))) := (k1.out.drew.any).trans (Kp.setRow (S := isB R) _ rfl _)
 go_region
 all_goals
  go_wp2
  go_ret
  exact ⟨rfl, E2.out, K2.out⟩
set_option maxRecDepth 20000 in
set_option maxHeartbeats 1000000 in
theorem rout1z_k (i : Nat) (hi : i < 3) (w : World) (R : Nat) (g : Nat → RC) (r : RC) (h : RAt w R g) (hr : g i = r) (v now : Int) (v0 : 0 ≤ v) (v1 : v < 256) (hh : r.how = 1) (hz : v = 0) : Calls Tryz.prog 127 #[.pointer (some ⟨R, 0, none⟩), .int .i64 i, .int .u8 v, .int .u64 now] w fun e w' => e = .returned (.int .i64 0) ∧ RAt w' R (updR g i ⟨r.mode, r.how, 65536, now, false, false, r.fst, r.upper, r.held, r.value⟩) ∧ Kp (isB R) w w' := by
 obtain ⟨T, nI, Z, fs, ps, V⟩ := vlC
 obtain ⟨vl, vs, va, vb⟩ := V.ops
 have v1 := V.agg
 have v2 := V.size
 have v3 := V.zero
 have v4 := V.under
 have v5 := V.map
 have v6 := V.zs
 have vG := V.getNew
 have vN := V.new
 have cs : ∀ r : RC, (chV r).size = nI := fun r => by rw [V.s]; rfl
 have L := V.getR h i (i * 10) hi (by omega)
 obtain ⟨hi0, hi1, hi2, hi3, hi4⟩ := cnt3 hi
 rw [hr] at L
 have lR := h.lt
 have HR : Hid (RAt w R g) := h
 have HV : Hid (VlC T nI Z fs ps) := V
 have q1 : ∀ r : RC, (chV r)[1]? = some (.int .i64 r.how) := fun r => rfl
 subst hz
 have h3 : (r.how == 3) = false := by simp [hh]
 have h2' : (r.how == 2) = false := by simp [hh]
 clear hh
 have s2 : ∀ (r : RC) (x : Int), (chV r).setIfInBounds 2 (.int .u64 x) = chV { r with len := x } := fun r x => rfl
 have s3 : ∀ (r : RC) (x : Int), (chV r).setIfInBounds 3 (.int .u64 x) = chV { r with began := x } := fun r x => rfl
 have s4 : ∀ (r : RC) (x : Bool), (chV r).setIfInBounds 4 (.bool x) = chV { r with st := x } := fun r x => rfl
 have s5 : ∀ (r : RC) (x : Bool), (chV r).setIfInBounds 5 (.bool x) = chV { r with wants := x } := fun r x => rfl
 clear h V
 go_enter Tryz.func127, Tryz.ntmps127
 simp only [vl, vs, va]
 clear vl vs va vb
 go_wp2
 have h1 : Hid (RAt (w.alloc (.cells (chV (⟨r.mode, r.how, 65536, now, false, false, r.fst, r.upper, r.held, r.value⟩ : RC)) T)) R g) := HR.out.kept (Kp.alloc noB _ _) id
 have h2 : Hid (KAt (w.alloc (.cells (chV (⟨r.mode, r.how, 65536, now, false, false, r.fst, r.upper, r.held, r.value⟩ : RC)) T)) w.heap.size ⟨r.mode, r.how, 65536, now, false, false, r.fst, r.upper, r.held, r.value⟩) := HV.out.at _ w
 have k1 : Hid (Kp noB w (w.alloc (.cells (chV (⟨r.mode, r.how, 65536, now, false, false, r.fst, r.upper, r.held, r.value⟩ : RC)) T))) := Kp.alloc _ _ _
 clear vG vN L
 generalize w.alloc (.cells (chV (⟨r.mode, r.how, 65536, now, false, false, r.fst, r.upper, r.held, r.value⟩ : RC)) T) = w1 at h1 h2 k1 ⊢
 have L1 := HV.out.get h2.out
 have L2 := HV.out.get (h2.out.kept (Kp.refl noB w1).drew id)
 have S1 := put_R h1.out i (i * 10) hi (by omega) ⟨r.mode, r.how, 65536, now, false, false, r.fst, r.upper, r.held, r.value⟩
 have S2 := put_R h1.out.drew i (i * 10) hi (by omega) ⟨r.mode, r.how, 65536, now, false, false, r.fst, r.upper, r.held, r.value⟩
 have E2 : Hid (RAt (w1.drew.setRow R (rowR (updR g i ⟨r.mode, r.how, 65536, now, false, false, r.fst, r.upper, r.held, r.value⟩))) R (updR g i ⟨r.mode, r.how, 65536, now, false, false, r.fst, r.upper, r.held, r.value⟩)) := h1.out.drew.put i _
 have K2 : Hid (Kp (isB R) w (w1.drew.setRow R (rowR (updR g i ⟨r.mode, r.how, 65536, now, false, false, r.fst, r.upper, r.held, r.value⟩)))) := (k1.out.drew.any).trans (Kp.setRow (S := isB R) _ rfl _)
 go_region
 all_goals
  go_wp2
  go_ret
  exact ⟨rfl, E2.out, K2.out⟩
set_option maxRecDepth 20000 in
set_option maxHeartbeats 1000000 in
theorem rout1n_k (i : Nat) (hi : i < 3) (w : World) (R : Nat) (g : Nat → RC) (r : RC) (h : RAt w R g) (hr : g i = r) (v now : Int) (v0 : 0 ≤ v) (v1 : v < 256) (hh : r.how = 1) (hz : ¬ v = 0) : Calls Tryz.prog 127 #[.pointer (some ⟨R, 0, none⟩), .int .i64 i, .int .u8 v, .int .u64 now] w fun e w' => e = .returned (.int .i64 0) ∧ RAt w' R (updR g i ⟨r.mode, r.how, v, now, false, false, r.fst, r.upper, r.held, r.value⟩) ∧ Kp (isB R) w w' := by
 obtain ⟨T, nI, Z, fs, ps, V⟩ := vlC
 obtain ⟨vl, vs, va, vb⟩ := V.ops
 have v1 := V.agg
 have v2 := V.size
 have v3 := V.zero
 have v4 := V.under
 have v5 := V.map
 have v6 := V.zs
 have vG := V.getNew
 have vN := V.new
 have cs : ∀ r : RC, (chV r).size = nI := fun r => by rw [V.s]; rfl
 have L := V.getR h i (i * 10) hi (by omega)
 obtain ⟨hi0, hi1, hi2, hi3, hi4⟩ := cnt3 hi
 rw [hr] at L
 have lR := h.lt
 have HR : Hid (RAt w R g) := h
 have HV : Hid (VlC T nI Z fs ps) := V
 have q1 : ∀ r : RC, (chV r)[1]? = some (.int .i64 r.how) := fun r => rfl
 have zz : (v == 0) = false := by simp; omega
 have h3 : (r.how == 3) = false := by simp [hh]
 have h2' : (r.how == 2) = false := by simp [hh]
 clear hh
 have s2 : ∀ (r : RC) (x : Int), (chV r).setIfInBounds 2 (.int .u64 x) = chV { r with len := x } := fun r x => rfl
 have s3 : ∀ (r : RC) (x : Int), (chV r).setIfInBounds 3 (.int .u64 x) = chV { r with began := x } := fun r x => rfl
 have s4 : ∀ (r : RC) (x : Bool), (chV r).setIfInBounds 4 (.bool x) = chV { r with st := x } := fun r x => rfl
 have s5 : ∀ (r : RC) (x : Bool), (chV r).setIfInBounds 5 (.bool x) = chV { r with wants := x } := fun r x => rfl
 clear h V
 go_enter Tryz.func127, Tryz.ntmps127
 simp only [vl, vs, va]
 clear vl vs va vb
 go_wp2
 have h1 : Hid (RAt (w.alloc (.cells (chV (⟨r.mode, r.how, v, now, false, false, r.fst, r.upper, r.held, r.value⟩ : RC)) T)) R g) := HR.out.kept (Kp.alloc noB _ _) id
 have h2 : Hid (KAt (w.alloc (.cells (chV (⟨r.mode, r.how, v, now, false, false, r.fst, r.upper, r.held, r.value⟩ : RC)) T)) w.heap.size ⟨r.mode, r.how, v, now, false, false, r.fst, r.upper, r.held, r.value⟩) := HV.out.at _ w
 have k1 : Hid (Kp noB w (w.alloc (.cells (chV (⟨r.mode, r.how, v, now, false, false, r.fst, r.upper, r.held, r.value⟩ : RC)) T))) := Kp.alloc _ _ _
 clear vG vN L
 generalize w.alloc (.cells (chV (⟨r.mode, r.how, v, now, false, false, r.fst, r.upper, r.held, r.value⟩ : RC)) T) = w1 at h1 h2 k1 ⊢
 have L1 := HV.out.get h2.out
 have L2 := HV.out.get (h2.out.kept (Kp.refl noB w1).drew id)
 have S1 := put_R h1.out i (i * 10) hi (by omega) ⟨r.mode, r.how, v, now, false, false, r.fst, r.upper, r.held, r.value⟩
 have S2 := put_R h1.out.drew i (i * 10) hi (by omega) ⟨r.mode, r.how, v, now, false, false, r.fst, r.upper, r.held, r.value⟩
 have E2 : Hid (RAt (w1.drew.setRow R (rowR (updR g i ⟨r.mode, r.how, v, now, false, false, r.fst, r.upper, r.held, r.value⟩))) R (updR g i ⟨r.mode, r.how, v, now, false, false, r.fst, r.upper, r.held, r.value⟩)) := h1.out.drew.put i _
 have K2 : Hid (Kp (isB R) w (w1.drew.setRow R (rowR (updR g i ⟨r.mode, r.how, v, now, false, false, r.fst, r.upper, r.held, r.value⟩)))) := (k1.out.drew.any).trans (Kp.setRow (S := isB R) _ rfl _)
 go_region
 all_goals
  go_wp2
  go_ret
  exact ⟨rfl, E2.out, K2.out⟩
set_option maxRecDepth 20000 in
set_option maxHeartbeats 1000000 in
theorem rout2z_k (i : Nat) (hi : i < 3) (w : World) (R : Nat) (g : Nat → RC) (r : RC) (h : RAt w R g) (hr : g i = r) (v now : Int) (v0 : 0 ≤ v) (v1 : v < 256) (hh : r.how = 2) (hz : (v * 256) = 0) : Calls Tryz.prog 127 #[.pointer (some ⟨R, 0, none⟩), .int .i64 i, .int .u8 v, .int .u64 now] w fun e w' => e = .returned (.int .i64 0) ∧ RAt w' R (updR g i ⟨r.mode, r.how, 65536, now, false, false, r.fst, r.upper, r.held, r.value⟩) ∧ Kp (isB R) w w' := by
 obtain ⟨T, nI, Z, fs, ps, V⟩ := vlC
 obtain ⟨vl, vs, va, vb⟩ := V.ops
 have v1 := V.agg
 have v2 := V.size
 have v3 := V.zero
 have v4 := V.under
 have v5 := V.map
 have v6 := V.zs
 have vG := V.getNew
 have vN := V.new
 have cs : ∀ r : RC, (chV r).size = nI := fun r => by rw [V.s]; rfl
 have L := V.getR h i (i * 10) hi (by omega)
 obtain ⟨hi0, hi1, hi2, hi3, hi4⟩ := cnt3 hi
 rw [hr] at L
 have lR := h.lt
 have HR : Hid (RAt w R g) := h
 have HV : Hid (VlC T nI Z fs ps) := V
 have q1 : ∀ r : RC, (chV r)[1]? = some (.int .i64 r.how) := fun r => rfl
 have zz : (v * 256) = 0 := hz
 obtain rfl : v = 0 := by omega
 have h3 : (r.how == 3) = false := by simp [hh]
 have h2' : (r.how == 2) = true := by simp [hh]
 clear hh
 have s2 : ∀ (r : RC) (x : Int), (chV r).setIfInBounds 2 (.int .u64 x) = chV { r with len := x } := fun r x => rfl
 have s3 : ∀ (r : RC) (x : Int), (chV r).setIfInBounds 3 (.int .u64 x) = chV { r with began := x } := fun r x => rfl
 have s4 : ∀ (r : RC) (x : Bool), (chV r).setIfInBounds 4 (.bool x) = chV { r with st := x } := fun r x => rfl
 have s5 : ∀ (r : RC) (x : Bool), (chV r).setIfInBounds 5 (.bool x) = chV { r with wants := x } := fun r x => rfl
 clear h V
 go_enter Tryz.func127, Tryz.ntmps127
 simp only [vl, vs, va]
 clear vl vs va vb
 go_wp2
 have h1 : Hid (RAt (w.alloc (.cells (chV (⟨r.mode, r.how, 65536, now, false, false, r.fst, r.upper, r.held, r.value⟩ : RC)) T)) R g) := HR.out.kept (Kp.alloc noB _ _) id
 have h2 : Hid (KAt (w.alloc (.cells (chV (⟨r.mode, r.how, 65536, now, false, false, r.fst, r.upper, r.held, r.value⟩ : RC)) T)) w.heap.size ⟨r.mode, r.how, 65536, now, false, false, r.fst, r.upper, r.held, r.value⟩) := HV.out.at _ w
 have k1 : Hid (Kp noB w (w.alloc (.cells (chV (⟨r.mode, r.how, 65536, now, false, false, r.fst, r.upper, r.held, r.value⟩ : RC)) T))) := Kp.alloc _ _ _
 clear vG vN L
 generalize w.alloc (.cells (chV (⟨r.mode, r.how, 65536, now, false, false, r.fst, r.upper, r.held, r.value⟩ : RC)) T) = w1 at h1 h2 k1 ⊢
 have L1 := HV.out.get h2.out
 have L2 := HV.out.get (h2.out.kept (Kp.refl noB w1).drew id)
 have S1 := put_R h1.out i (i * 10) hi (by omega) ⟨r.mode, r.how, 65536, now, false, false, r.fst, r.upper, r.held, r.value⟩
 have S2 := put_R h1.out.drew i (i * 10) hi (by omega) ⟨r.mode, r.how, 65536, now, false, false, r.fst, r.upper, r.held, r.value⟩
 have E2 : Hid (RAt (w1.drew.setRow R (rowR (updR g i ⟨r.mode, r.how, 65536, now, false, false, r.fst, r.upper, r.held, r.value⟩))) R (updR g i ⟨r.mode, r.how, 65536, now, false, false, r.fst, r.upper, r.held, r.value⟩)) := h1.out.drew.put i _
 have K2 : Hid (Kp (isB R) w (w1.drew.setRow R (rowR (updR g i ⟨r.mode, r.how, 65536, now, false, false, r.fst, r.upper, r.held, r.value⟩)))) := (k1.out.drew.any).trans (Kp.setRow (S := isB R) _ rfl _)
 go_region
 all_goals
  go_wp2
  go_ret
  exact ⟨rfl, E2.out, K2.out⟩
set_option maxRecDepth 20000 in
set_option maxHeartbeats 1000000 in
theorem rout2n_k (i : Nat) (hi : i < 3) (w : World) (R : Nat) (g : Nat → RC) (r : RC) (h : RAt w R g) (hr : g i = r) (v now : Int) (v0 : 0 ≤ v) (v1 : v < 256) (hh : r.how = 2) (hz : ¬ (v * 256) = 0) : Calls Tryz.prog 127 #[.pointer (some ⟨R, 0, none⟩), .int .i64 i, .int .u8 v, .int .u64 now] w fun e w' => e = .returned (.int .i64 0) ∧ RAt w' R (updR g i ⟨r.mode, r.how, (v * 256), now, false, false, r.fst, r.upper, r.held, r.value⟩) ∧ Kp (isB R) w w' := by
 obtain ⟨T, nI, Z, fs, ps, V⟩ := vlC
 obtain ⟨vl, vs, va, vb⟩ := V.ops
 have v1 := V.agg
 have v2 := V.size
 have v3 := V.zero
 have v4 := V.under
 have v5 := V.map
 have v6 := V.zs
 have vG := V.getNew
 have vN := V.new
 have cs : ∀ r : RC, (chV r).size = nI := fun r => by rw [V.s]; rfl
 have L := V.getR h i (i * 10) hi (by omega)
 obtain ⟨hi0, hi1, hi2, hi3, hi4⟩ := cnt3 hi
 rw [hr] at L
 have lR := h.lt
 have HR : Hid (RAt w R g) := h
 have HV : Hid (VlC T nI Z fs ps) := V
 have q1 : ∀ r : RC, (chV r)[1]? = some (.int .i64 r.how) := fun r => rfl
 have zz : ((v * 256) == 0) = false := by simp; omega
 have h3 : (r.how == 3) = false := by simp [hh]
 have h2' : (r.how == 2) = true := by simp [hh]
 clear hh
 have s2 : ∀ (r : RC) (x : Int), (chV r).setIfInBounds 2 (.int .u64 x) = chV { r with len := x } := fun r x => rfl
 have s3 : ∀ (r : RC) (x : Int), (chV r).setIfInBounds 3 (.int .u64 x) = chV { r with began := x } := fun r x => rfl
 have s4 : ∀ (r : RC) (x : Bool), (chV r).setIfInBounds 4 (.bool x) = chV { r with st := x } := fun r x => rfl
 have s5 : ∀ (r : RC) (x : Bool), (chV r).setIfInBounds 5 (.bool x) = chV { r with wants := x } := fun r x => rfl
 clear h V
 go_enter Tryz.func127, Tryz.ntmps127
 simp only [vl, vs, va]
 clear vl vs va vb
 go_wp2
 have h1 : Hid (RAt (w.alloc (.cells (chV (⟨r.mode, r.how, (v * 256), now, false, false, r.fst, r.upper, r.held, r.value⟩ : RC)) T)) R g) := HR.out.kept (Kp.alloc noB _ _) id
 have h2 : Hid (KAt (w.alloc (.cells (chV (⟨r.mode, r.how, (v * 256), now, false, false, r.fst, r.upper, r.held, r.value⟩ : RC)) T)) w.heap.size ⟨r.mode, r.how, (v * 256), now, false, false, r.fst, r.upper, r.held, r.value⟩) := HV.out.at _ w
 have k1 : Hid (Kp noB w (w.alloc (.cells (chV (⟨r.mode, r.how, (v * 256), now, false, false, r.fst, r.upper, r.held, r.value⟩ : RC)) T))) := Kp.alloc _ _ _
 clear vG vN L
 generalize w.alloc (.cells (chV (⟨r.mode, r.how, (v * 256), now, false, false, r.fst, r.upper, r.held, r.value⟩ : RC)) T) = w1 at h1 h2 k1 ⊢
 have L1 := HV.out.get h2.out
 have L2 := HV.out.get (h2.out.kept (Kp.refl noB w1).drew id)
 have S1 := put_R h1.out i (i * 10) hi (by omega) ⟨r.mode, r.how, (v * 256), now, false, false, r.fst, r.upper, r.held, r.value⟩
 have S2 := put_R h1.out.drew i (i * 10) hi (by omega) ⟨r.mode, r.how, (v * 256), now, false, false, r.fst, r.upper, r.held, r.value⟩
 have E2 : Hid (RAt (w1.drew.setRow R (rowR (updR g i ⟨r.mode, r.how, (v * 256), now, false, false, r.fst, r.upper, r.held, r.value⟩))) R (updR g i ⟨r.mode, r.how, (v * 256), now, false, false, r.fst, r.upper, r.held, r.value⟩)) := h1.out.drew.put i _
 have K2 : Hid (Kp (isB R) w (w1.drew.setRow R (rowR (updR g i ⟨r.mode, r.how, (v * 256), now, false, false, r.fst, r.upper, r.held, r.value⟩)))) := (k1.out.drew.any).trans (Kp.setRow (S := isB R) _ rfl _)
 go_region
 all_goals
  go_wp2
  go_ret
  exact ⟨rfl, E2.out, K2.out⟩
set_option maxRecDepth 20000 in
set_option maxHeartbeats 1000000 in
theorem rout3z_k (i : Nat) (hi : i < 3) (w : World) (R : Nat) (g : Nat → RC) (r : RC) (h : RAt w R g) (hr : g i = r) (v now : Int) (v0 : 0 ≤ v) (v1 : v < 256) (hh : r.how = 3) (hz : (v * 256 + r.fst) = 0) (hw : r.wants = true) (f0 : 0 ≤ r.fst) (f1 : r.fst < 256) : Calls Tryz.prog 127 #[.pointer (some ⟨R, 0, none⟩), .int .i64 i, .int .u8 v, .int .u64 now] w fun e w' => e = .returned (.int .i64 0) ∧ RAt w' R (updR g i ⟨r.mode, r.how, 65536, now, false, false, r.fst, r.upper, r.held, r.value⟩) ∧ Kp (isB R) w w' := by
 obtain ⟨T, nI, Z, fs, ps, V⟩ := vlC
 obtain ⟨vl, vs, va, vb⟩ := V.ops
 have v1 := V.agg
 have v2 := V.size
 have v3 := V.zero
 have v4 := V.under
 have v5 := V.map
 have v6 := V.zs
 have vG := V.getNew
 have vN := V.new
 have cs : ∀ r : RC, (chV r).size = nI := fun r => by rw [V.s]; rfl
 have L := V.getR h i (i * 10) hi (by omega)
 obtain ⟨hi0, hi1, hi2, hi3, hi4⟩ := cnt3 hi
 rw [hr] at L
 have lR := h.lt
 have HR : Hid (RAt w R g) := h
 have HV : Hid (VlC T nI Z fs ps) := V
 have q1 : ∀ r : RC, (chV r)[1]? = some (.int .i64 r.how) := fun r => rfl
 have q5 : (chV r)[5]? = some (.bool true) := by rw [← hw]; rfl
 have q6 : ∀ r : RC, (chV r)[6]? = some (.int .u8 r.fst) := fun r => rfl
 have zz : (v * 256 + r.fst) = 0 := hz
 obtain rfl : v = 0 := by omega
 have ff : r.fst = 0 := by omega
 have h3 : (r.how == 3) = true := by simp [hh]
 have h2' : (r.how == 2) = false := by simp [hh]
 clear hh hw
 have HFF : Hid (r.fst = 0) := ff
 have q6b : (chV r)[6]? = some (.int .u8 0) := by rw [← ff]; rfl
 clear ff zz f0 f1 hz q6
 have s2 : ∀ (r : RC) (x : Int), (chV r).setIfInBounds 2 (.int .u64 x) = chV { r with len := x } := fun r x => rfl
 have s3 : ∀ (r : RC) (x : Int), (chV r).setIfInBounds 3 (.int .u64 x) = chV { r with began := x } := fun r x => rfl
 have s4 : ∀ (r : RC) (x : Bool), (chV r).setIfInBounds 4 (.bool x) = chV { r with st := x } := fun r x => rfl
 have s5 : ∀ (r : RC) (x : Bool), (chV r).setIfInBounds 5 (.bool x) = chV { r with wants := x } := fun r x => rfl
 clear h V
 go_enter Tryz.func127, Tryz.ntmps127
 simp only [vl, vs, va]
 clear vl vs va vb
 go_wp2
 have h1 : Hid (RAt (w.alloc (.cells (chV (⟨r.mode, r.how, 65536, now, false, false, r.fst, r.upper, r.held, r.value⟩ : RC)) T)) R g) := HR.out.kept (Kp.alloc noB _ _) id
 have h2 : Hid (KAt (w.alloc (.cells (chV (⟨r.mode, r.how, 65536, now, false, false, r.fst, r.upper, r.held, r.value⟩ : RC)) T)) w.heap.size ⟨r.mode, r.how, 65536, now, false, false, r.fst, r.upper, r.held, r.value⟩) := HV.out.at _ w
 have k1 : Hid (Kp noB w (w.alloc (.cells (chV (⟨r.mode, r.how, 65536, now, false, false, r.fst, r.upper, r.held, r.value⟩ : RC)) T))) := Kp.alloc _ _ _
 clear vG vN L
 generalize w.alloc (.cells (chV (⟨r.mode, r.how, 65536, now, false, false, r.fst, r.upper, r.held, r.value⟩ : RC)) T) = w1 at h1 h2 k1 ⊢
 have L1 := HV.out.get h2.out
 have L2 := HV.out.get (h2.out.kept (Kp.refl noB w1).drew id)
 have S1 := put_R h1.out i (i * 10) hi (by omega) ⟨r.mode, r.how, 65536, now, false, false, r.fst, r.upper, r.held, r.value⟩
 have S2 := put_R h1.out.drew i (i * 10) hi (by omega) ⟨r.mode, r.how, 65536, now, false, false, r.fst, r.upper, r.held, r.value⟩
 have E2 : Hid (RAt (w1.drew.setRow R (rowR (updR g i ⟨r.mode, r.how, 65536, now, false, false, r.fst, r.upper, r.held, r.value⟩))) R (updR g i ⟨r.mode, r.how, 65536, now, false, false, r.fst, r.upper, r.held, r.value⟩)) := h1.out.drew.put i _
 have K2 : Hid (Kp (isB R) w (w1.drew.setRow R (rowR (updR g i ⟨r.mode, r.how, 65536, now, false, false, r.fst, r.upper, r.held, r.value⟩)))) := (k1.out.drew.any).trans (Kp.setRow (S := isB R) _ rfl _)
 go_region
 all_goals
  go_wp2
  go_ret
  exact ⟨rfl, E2.out, K2.out⟩
set_option maxRecDepth 20000 in
set_option maxHeartbeats 1000000 in
theorem rout3n_k (i : Nat) (hi : i < 3) (w : World) (R : Nat) (g : Nat → RC) (r : RC) (h : RAt w R g) (hr : g i = r) (v now : Int) (v0 : 0 ≤ v) (v1 : v < 256) (hh : r.how = 3) (hz : ¬ (v * 256 + r.fst) = 0) (hw : r.wants = true) (f0 : 0 ≤ r.fst) (f1 : r.fst < 256) : Calls Tryz.prog 127 #[.pointer (some ⟨R, 0, none⟩), .int .i64 i, .int .u8 v, .int .u64 now] w fun e w' => e = .returned (.int .i64 0) ∧ RAt w' R (updR g i ⟨r.mode, r.how, (v * 256 + r.fst), now, false, false, r.fst, r.upper, r.held, r.value⟩) ∧ Kp (isB R) w w' := by
 obtain ⟨T, nI, Z, fs, ps, V⟩ := vlC
 obtain ⟨vl, vs, va, vb⟩ := V.ops
 have v1 := V.agg
 have v2 := V.size
 have v3 := V.zero
 have v4 := V.under
 have v5 := V.map
 have v6 := V.zs
 have vG := V.getNew
 have vN := V.new
 have cs : ∀ r : RC, (chV r).size = nI := fun r => by rw [V.s]; rfl
 have L := V.getR h i (i * 10) hi (by omega)
 obtain ⟨hi0, hi1, hi2, hi3, hi4⟩ := cnt3 hi
 rw [hr] at L
 have lR := h.lt
 have HR : Hid (RAt w R g) := h
 have HV : Hid (VlC T nI Z fs ps) := V
 have q1 : ∀ r : RC, (chV r)[1]? = some (.int .i64 r.how) := fun r => rfl
 have q5 : (chV r)[5]? = some (.bool true) := by rw [← hw]; rfl
 have q6 : ∀ r : RC, (chV r)[6]? = some (.int .u8 r.fst) := fun r => rfl
 have zz : ((v * 256 + r.fst) == 0) = false := by simp; omega
 have h3 : (r.how == 3) = true := by simp [hh]
 have h2' : (r.how == 2) = false := by simp [hh]
 clear hh hw
 have s2 : ∀ (r : RC) (x : Int), (chV r).setIfInBounds 2 (.int .u64 x) = chV { r with len := x } := fun r x => rfl
 have s3 : ∀ (r : RC) (x : Int), (chV r).setIfInBounds 3 (.int .u64 x) = chV { r with began := x } := fun r x => rfl
 have s4 : ∀ (r : RC) (x : Bool), (chV r).setIfInBounds 4 (.bool x) = chV { r with st := x } := fun r x => rfl
 have s5 : ∀ (r : RC) (x : Bool), (chV r).setIfInBounds 5 (.bool x) = chV { r with wants := x } := fun r x => rfl
 clear h V
 go_enter Tryz.func127, Tryz.ntmps127
 simp only [vl, vs, va]
 clear vl vs va vb
 go_wp2
 have h1 : Hid (RAt (w.alloc (.cells (chV (⟨r.mode, r.how, (v * 256 + r.fst), now, false, false, r.fst, r.upper, r.held, r.value⟩ : RC)) T)) R g) := HR.out.kept (Kp.alloc noB _ _) id
 have h2 : Hid (KAt (w.alloc (.cells (chV (⟨r.mode, r.how, (v * 256 + r.fst), now, false, false, r.fst, r.upper, r.held, r.value⟩ : RC)) T)) w.heap.size ⟨r.mode, r.how, (v * 256 + r.fst), now, false, false, r.fst, r.upper, r.held, r.value⟩) := HV.out.at _ w
 have k1 : Hid (Kp noB w (w.alloc (.cells (chV (⟨r.mode, r.how, (v * 256 + r.fst), now, false, false, r.fst, r.upper, r.held, r.value⟩ : RC)) T))) := Kp.alloc _ _ _
 clear vG vN L
 generalize w.alloc (.cells (chV (⟨r.mode, r.how, (v * 256 + r.fst), now, false, false, r.fst, r.upper, r.held, r.value⟩ : RC)) T) = w1 at h1 h2 k1 ⊢
 have L1 := HV.out.get h2.out
 have L2 := HV.out.get (h2.out.kept (Kp.refl noB w1).drew id)
 have S1 := put_R h1.out i (i * 10) hi (by omega) ⟨r.mode, r.how, (v * 256 + r.fst), now, false, false, r.fst, r.upper, r.held, r.value⟩
 have S2 := put_R h1.out.drew i (i * 10) hi (by omega) ⟨r.mode, r.how, (v * 256 + r.fst), now, false, false, r.fst, r.upper, r.held, r.value⟩
 have E2 : Hid (RAt (w1.drew.setRow R (rowR (updR g i ⟨r.mode, r.how, (v * 256 + r.fst), now, false, false, r.fst, r.upper, r.held, r.value⟩))) R (updR g i ⟨r.mode, r.how, (v * 256 + r.fst), now, false, false, r.fst, r.upper, r.held, r.value⟩)) := h1.out.drew.put i _
 have K2 : Hid (Kp (isB R) w (w1.drew.setRow R (rowR (updR g i ⟨r.mode, r.how, (v * 256 + r.fst), now, false, false, r.fst, r.upper, r.held, r.value⟩)))) := (k1.out.drew.any).trans (Kp.setRow (S := isB R) _ rfl _)
 go_region
 all_goals
  go_wp2
  go_ret
  exact ⟨rfl, E2.out, K2.out⟩
end Go.Proofs.YtonfjhbfkichkaaGreat.Pt
