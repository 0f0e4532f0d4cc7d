/- The document's reader, and the code's (RfPorts). -/
import Derived.Test.YtbfccfhjgopnbaaGreatDr09
set_option linter.unusedSimpArgs false
namespace Go.Proofs.YtbfccfhjgopnbaaGreat
open Go.ChangeShapes Go.WideShapes Go.ChangeAt Go.RowKit
set_option linter.unusedVariables false
set_option linter.unusedSimpArgs false
set_option maxHeartbeats 4000000
set_option maxRecDepth 20000
theorem set9_kp (W : World) (q : Nat) (v0 v1 v2 v3 v4 v5 v6 v7 v8 : Value) : Kp (fun j => j = q) W (((((((((W.setCell ⟨q, 0, none⟩ v0).setCell ⟨q, 1, none⟩ v1).setCell ⟨q, 2, none⟩ v2).setCell ⟨q, 3, none⟩ v3).setCell ⟨q, 4, none⟩ v4).setCell ⟨q, 5, none⟩ v5).setCell ⟨q, 6, none⟩ v6).setCell ⟨q, 7, none⟩ v7).setCell ⟨q, 8, none⟩ v8) := by
  have k : ∀ (A : World) (i : Nat) (v : Value), Kp (fun j => j = q) A (A.setCell ⟨q, i, none⟩ v) := fun A i v => Kp.setCell (S := fun j => j = q) A (p := ⟨q, i, none⟩) rfl v
  have k0 := k W 0 v0
  have k1 := k0.trans (k _ 1 v1)
  have k2 := k1.trans (k _ 2 v2)
  have k3 := k2.trans (k _ 3 v3)
  have k4 := k3.trans (k _ 4 v4)
  have k5 := k4.trans (k _ 5 v5)
  have k6 := k5.trans (k _ 6 v6)
  have k7 := k6.trans (k _ 7 v7)
  exact k7.trans (k _ 8 v8)
theorem set9_heap {W : World} {q : Nat} {o : Opd} {t : TypeId} (h : W.heap[q]? = some (.cells o.vals t (0, 0))) (v0 v1 v2 v3 v4 v5 v6 v7 v8 : Value) : (((((((((W.setCell ⟨q, 0, none⟩ v0).setCell ⟨q, 1, none⟩ v1).setCell ⟨q, 2, none⟩ v2).setCell ⟨q, 3, none⟩ v3).setCell ⟨q, 4, none⟩ v4).setCell ⟨q, 5, none⟩ v5).setCell ⟨q, 6, none⟩ v6).setCell ⟨q, 7, none⟩ v7).setCell ⟨q, 8, none⟩ v8).heap[q]? = some (.cells #[v0, v1, v2, v3, v4, v5, v6, v7, v8] t (0, 0)) := by
  have h0 := heap_set (k := 0) (v := v0) h
  have h1 := heap_set (k := 1) (v := v1) h0
  have h2 := heap_set (k := 2) (v := v2) h1
  have h3 := heap_set (k := 3) (v := v3) h2
  have h4 := heap_set (k := 4) (v := v4) h3
  have h5 := heap_set (k := 5) (v := v5) h4
  have h6 := heap_set (k := 6) (v := v6) h5
  have h7 := heap_set (k := 7) (v := v7) h6
  have h8 := heap_set (k := 8) (v := v8) h7
  have e : (((((((((o.vals.setIfInBounds 0 v0).setIfInBounds 1 v1).setIfInBounds 2 v2).setIfInBounds 3 v3).setIfInBounds 4 v4).setIfInBounds 5 v5).setIfInBounds 6 v6).setIfInBounds 7 v7).setIfInBounds 8 v8) = #[v0, v1, v2, v3, v4, v5, v6, v7, v8] := by
    simp [Opd.vals]
  rw [e] at h8
  exact h8
theorem RsQ.other {T : TypeId} {X : Cx} {w wr wn : World} {ρ q : Nat} {σ : Sg} {f : Int × Int × Int} {c : Int} (h : RsQ T X w ρ σ f c wr) (kk : Kp (fun b => b = q) wr wn) (hq : w.heap.size ≤ q) (hn : q ≠ ρ) : RsQ T X w ρ σ f c wn := by
  have hr := h.lt
  refine ⟨h.st.other kk (by omega), heap_kept h.rs kk (by show ¬ ρ = q; omega), ?_, h.lt⟩
  exact ⟨kk.os.trans h.kp.os, kk.tape.trans h.kp.tape, kk.output.trans h.kp.output, Nat.le_trans h.kp.size kk.size, fun i hi hs => (kk.block i (Nat.lt_of_lt_of_le hi h.kp.size) (by show ¬ i = q; omega)).trans (h.kp.block i hi hs)⟩
theorem ports_228 (w : World) (X : Cx) (σ : Sg) (f : Int × Int × Int) (h : RSt X w σ f 228) :
    Calls Tryz.prog 28 #[.pointer (some ⟨X.S, 0, none⟩)] w fun e w' => e = .returned (.agg (insV { Ins.zero with op := 37, size := szM 228 σ, a := regO 0 (szM 228 σ), b := numO (bytesM X 1 σ).1 })) ∧ RDn X w (bytesM X 1 σ).2 f 228 w' := by
  obtain ⟨T, nI, fsI, psI, hv, Hv, ⟨vl, vs, vb, va, vx⟩, v1, v2, v3, v4, v5, v6, p0, p1, p2, p3, p4, p5, p6, p7, sz, ne⟩ := vlP
  have hr := RsQ.start (T := T) h
  have hS := h.ltS
  have cS := rsize_ok _ X σ f 228 hr.st (by decide)
  obtain ⟨s, hs⟩ : ∃ s, s = (szM 228 σ) := ⟨_, rfl⟩
  rw [← hs] at cS ⊢
  have HR : Hid _ := hr
  have HN : Hid (∀ W, RSt X W σ f 228 → Calls Tryz.prog 211 #[.pointer (some ⟨X.S, 0, none⟩), .int .i64 1] W fun e w' => e = .returned (.int .u32 (bytesM X 1 σ).1) ∧ RDn X W (bytesM X 1 σ).2 f 228 w') := fun W hW => num_okR W X σ f 228 hW 1 (by decide)
  obtain ⟨n, σ3, hB⟩ : ∃ n σ3, bytesM X 1 σ = (n, σ3) := ⟨_, _, rfl⟩
  rw [hB] at HN ⊢
  simp only at HN ⊢
  clear hB
  clear h hv hs
  go_enter Tryz.func28, Tryz.ntmps28
  try simp only [vl, vs, va, vb, vx]
  clear vl vs va vb vx
  obtain ⟨u0, u1, u2, u3, u4, u5, u6, u7, u8, u9, u10, u11, u12, u13, u14, u15, u16, u17, u18, u19, u20⟩ := ups21
  go_wp2_with fail
  refine cS.mono ?_; rintro e wn ⟨rfl, rfl⟩
  clear cS
  go_wp2_with fail
  refine (reg_lit _ 0 s).mono ?_; rintro e w1 ⟨rfl, k1⟩
  have hr1 := HR.out.no k1
  have bA := (MapKept.heap_alloc w1 (.cells #[.int .i64 1, .int .i64 0, .int .i64 s, .int .i64 0, .int .i64 0, .int .i64 0, .int .i64 0, .int .u32 0, .int .u32 0] 26)).1
  have hr2 := hr1.no (Kp.alloc noB w1 (.cells #[.int .i64 1, .int .i64 0, .int .i64 s, .int .i64 0, .int .i64 0, .int .i64 0, .int .i64 0, .int .u32 0, .int .u32 0] 26))
  have hq1 : w.heap.size < w1.heap.size := heap_lt hr1.rs
  obtain ⟨q1, hq⟩ : ∃ q, q = w1.heap.size := ⟨_, rfl⟩
  rw [← hq] at bA hq1
  have HQ1 : Hid (w1.heap.size = q1) := hq.symm
  have HR2 : Hid _ := hr2
  clear hr1 hr2 k1 hq HR
  go_wp2_with fail
  refine (reg_lit _ 2 2).mono ?_; rintro e w2 ⟨rfl, k2⟩
  rw [HQ1.out]
  have hr3 := HR2.out.no k2
  replace bA := heap_kept bA k2 id
  have hq2 : q1 < w2.heap.size := heap_lt bA
  have bP := (MapKept.heap_alloc w2 (.cells #[.int .i64 1, .int .i64 2, .int .i64 2, .int .i64 0, .int .i64 0, .int .i64 0, .int .i64 0, .int .u32 0, .int .u32 0] 26)).1
  have kP := Kp.alloc noB w2 (.cells #[.int .i64 1, .int .i64 2, .int .i64 2, .int .i64 0, .int .i64 0, .int .i64 0, .int .i64 0, .int .u32 0, .int .u32 0] 26)
  have hr4 := hr3.no kP
  replace bA := heap_kept bA kP id
  obtain ⟨q2, hq⟩ : ∃ q, q = w2.heap.size := ⟨_, rfl⟩
  rw [← hq] at bP hq2
  have HQ2 : Hid (w2.heap.size = q2) := hq.symm
  have HR4 : Hid _ := hr4
  have c9 := hr4.st.c9
  clear hr3 hr4 k2 hq HR2 kP
  go_wp2_with fail
  refine (HN.out _ HR4.out.st).mono ?_; rintro e w3 ⟨rfl, hd3⟩
  rw [HQ2.out]
  have hr5 := HR4.out.call hd3
  replace bA := heap_kept bA hd3.2 (by show ¬ q1 = X.S; omega)
  replace bP := heap_kept bP hd3.2 (by show ¬ q2 = X.S; omega)
  have HR5 : Hid _ := hr5
  clear hr5 hd3 HN HR4 c9
  go_wp2_with fail
  refine (imm_lit _ n).mono ?_; rintro e w4 ⟨rfl, k4⟩
  have hr6 := HR5.out.no k4
  replace bA := heap_kept bA k4 id
  replace bP := heap_kept bP k4 id
  obtain ⟨z0, z1, z2, z3, z4, z5, z6, z7, z8⟩ := res_cells (o := regO 2 2) bP
  have y0 : w4.frozen? ⟨q2, 0, none⟩ = false := by simp [World.frozen?, bP]
  have y1 : w4.frozen? ⟨q2, 1, none⟩ = false := by simp [World.frozen?, bP]
  have y2 : w4.frozen? ⟨q2, 2, none⟩ = false := by simp [World.frozen?, bP]
  have y3 : w4.frozen? ⟨q2, 3, none⟩ = false := by simp [World.frozen?, bP]
  have y4 : w4.frozen? ⟨q2, 4, none⟩ = false := by simp [World.frozen?, bP]
  have y5 : w4.frozen? ⟨q2, 5, none⟩ = false := by simp [World.frozen?, bP]
  have y6 : w4.frozen? ⟨q2, 6, none⟩ = false := by simp [World.frozen?, bP]
  have y7 : w4.frozen? ⟨q2, 7, none⟩ = false := by simp [World.frozen?, bP]
  have y8 : w4.frozen? ⟨q2, 8, none⟩ = false := by simp [World.frozen?, bP]
  simp only [regO, numO, Opd.zero] at z0 z1 z2 z3 z4 z5 z6 z7 z8
  have HR6 : Hid _ := hr6
  clear hr6 k4 HR5
  have HBA : Hid _ := bA
  have HBP : Hid _ := bP
  clear bA bP
  go_upto_region 6 with fail
  have kk := set9_kp w4 q2 (.int .i64 3) (.int .i64 0) (.int .i64 0) (.int .i64 0) (.int .i64 0) (.int .i64 0) (.int .i64 0) (.int .u32 0) (.int .u32 n)
  have bP := set9_heap (o := regO 2 2) HBP.out (.int .i64 3) (.int .i64 0) (.int .i64 0) (.int .i64 0) (.int .i64 0) (.int .i64 0) (.int .i64 0) (.int .u32 0) (.int .u32 n)
  have bA := heap_kept HBA.out kk (by show ¬ q1 = q2; omega)
  have hr7 := HR6.out.other kk (by omega) (by omega)
  clear z0 z1 z2 z3 z4 z5 z6 z7 z8 y0 y1 y2 y3 y4 y5 y6 y7 y8 kk HBA HBP HR6
  obtain ⟨w5, hgen⟩ : ∃ W, W = (((((((((w4.setCell ⟨q2, 0, none⟩ (.int .i64 3)).setCell ⟨q2, 1, none⟩ (.int .i64 0)).setCell ⟨q2, 2, none⟩ (.int .i64 0)).setCell ⟨q2, 3, none⟩ (.int .i64 0)).setCell ⟨q2, 4, none⟩ (.int .i64 0)).setCell ⟨q2, 5, none⟩ (.int .i64 0)).setCell ⟨q2, 6, none⟩ (.int .i64 0)).setCell ⟨q2, 7, none⟩ (.int .u32 0)).setCell ⟨q2, 8, none⟩ (.int .u32 n)) := ⟨_, rfl⟩
  rw [← hgen] at bP bA hr7 ⊢
  clear hgen
  obtain ⟨x0, x1, x2, x3, x4, x5, x6, x7, x8⟩ := res_cells (o := regO 0 s) bA
  simp only [regO, numO, Opd.zero] at x0 x1 x2 x3 x4 x5 x6 x7 x8
  obtain ⟨z0, z1, z2, z3, z4, z5, z6, z7, z8⟩ := res_cells (o := numO n) bP
  simp only [regO, numO, Opd.zero] at z0 z1 z2 z3 z4 z5 z6 z7 z8
  have c9 := hr7.st.c9
  have pt := hr7.put Hv.out
  have HR7 : Hid _ := hr7
  clear hr7 bA bP
  go_wp2
  exact bodyPost_ret (v := _) (res1 rfl _ _ w.heap.size _ rfl (HR7.out.got Hv.out _)) rfl ⟨rfl, HR7.out.fin _⟩
theorem ports_229 (w : World) (X : Cx) (σ : Sg) (f : Int × Int × Int) (h : RSt X w σ f 229) :
    Calls Tryz.prog 28 #[.pointer (some ⟨X.S, 0, none⟩)] w fun e w' => e = .returned (.agg (insV { Ins.zero with op := 37, size := szM 229 σ, a := regO 0 (szM 229 σ), b := numO (bytesM X 1 σ).1 })) ∧ RDn X w (bytesM X 1 σ).2 f 229 w' := by
  obtain ⟨T, nI, fsI, psI, hv, Hv, ⟨vl, vs, vb, va, vx⟩, v1, v2, v3, v4, v5, v6, p0, p1, p2, p3, p4, p5, p6, p7, sz, ne⟩ := vlP
  have hr := RsQ.start (T := T) h
  have hS := h.ltS
  have cS := rsize_ok _ X σ f 229 hr.st (by decide)
  obtain ⟨s, hs⟩ : ∃ s, s = (szM 229 σ) := ⟨_, rfl⟩
  rw [← hs] at cS ⊢
  have HR : Hid _ := hr
  have HN : Hid (∀ W, RSt X W σ f 229 → Calls Tryz.prog 211 #[.pointer (some ⟨X.S, 0, none⟩), .int .i64 1] W fun e w' => e = .returned (.int .u32 (bytesM X 1 σ).1) ∧ RDn X W (bytesM X 1 σ).2 f 229 w') := fun W hW => num_okR W X σ f 229 hW 1 (by decide)
  obtain ⟨n, σ3, hB⟩ : ∃ n σ3, bytesM X 1 σ = (n, σ3) := ⟨_, _, rfl⟩
  rw [hB] at HN ⊢
  simp only at HN ⊢
  clear hB
  clear h hv hs
  go_enter Tryz.func28, Tryz.ntmps28
  try simp only [vl, vs, va, vb, vx]
  clear vl vs va vb vx
  obtain ⟨u0, u1, u2, u3, u4, u5, u6, u7, u8, u9, u10, u11, u12, u13, u14, u15, u16, u17, u18, u19, u20⟩ := ups21
  go_wp2_with fail
  refine cS.mono ?_; rintro e wn ⟨rfl, rfl⟩
  clear cS
  go_wp2_with fail
  refine (reg_lit _ 0 s).mono ?_; rintro e w1 ⟨rfl, k1⟩
  have hr1 := HR.out.no k1
  have bA := (MapKept.heap_alloc w1 (.cells #[.int .i64 1, .int .i64 0, .int .i64 s, .int .i64 0, .int .i64 0, .int .i64 0, .int .i64 0, .int .u32 0, .int .u32 0] 26)).1
  have hr2 := hr1.no (Kp.alloc noB w1 (.cells #[.int .i64 1, .int .i64 0, .int .i64 s, .int .i64 0, .int .i64 0, .int .i64 0, .int .i64 0, .int .u32 0, .int .u32 0] 26))
  have hq1 : w.heap.size < w1.heap.size := heap_lt hr1.rs
  obtain ⟨q1, hq⟩ : ∃ q, q = w1.heap.size := ⟨_, rfl⟩
  rw [← hq] at bA hq1
  have HQ1 : Hid (w1.heap.size = q1) := hq.symm
  have HR2 : Hid _ := hr2
  clear hr1 hr2 k1 hq HR
  go_wp2_with fail
  refine (reg_lit _ 2 2).mono ?_; rintro e w2 ⟨rfl, k2⟩
  rw [HQ1.out]
  have hr3 := HR2.out.no k2
  replace bA := heap_kept bA k2 id
  have hq2 : q1 < w2.heap.size := heap_lt bA
  have bP := (MapKept.heap_alloc w2 (.cells #[.int .i64 1, .int .i64 2, .int .i64 2, .int .i64 0, .int .i64 0, .int .i64 0, .int .i64 0, .int .u32 0, .int .u32 0] 26)).1
  have kP := Kp.alloc noB w2 (.cells #[.int .i64 1, .int .i64 2, .int .i64 2, .int .i64 0, .int .i64 0, .int .i64 0, .int .i64 0, .int .u32 0, .int .u32 0] 26)
  have hr4 := hr3.no kP
  replace bA := heap_kept bA kP id
  obtain ⟨q2, hq⟩ : ∃ q, q = w2.heap.size := ⟨_, rfl⟩
  rw [← hq] at bP hq2
  have HQ2 : Hid (w2.heap.size = q2) := hq.symm
  have HR4 : Hid _ := hr4
  have c9 := hr4.st.c9
  clear hr3 hr4 k2 hq HR2 kP
  go_wp2_with fail
  refine (HN.out _ HR4.out.st).mono ?_; rintro e w3 ⟨rfl, hd3⟩
  rw [HQ2.out]
  have hr5 := HR4.out.call hd3
  replace bA := heap_kept bA hd3.2 (by show ¬ q1 = X.S; omega)
  replace bP := heap_kept bP hd3.2 (by show ¬ q2 = X.S; omega)
  have HR5 : Hid _ := hr5
  clear hr5 hd3 HN HR4 c9
  go_wp2_with fail
  refine (imm_lit _ n).mono ?_; rintro e w4 ⟨rfl, k4⟩
  have hr6 := HR5.out.no k4
  replace bA := heap_kept bA k4 id
  replace bP := heap_kept bP k4 id
  obtain ⟨z0, z1, z2, z3, z4, z5, z6, z7, z8⟩ := res_cells (o := regO 2 2) bP
  have y0 : w4.frozen? ⟨q2, 0, none⟩ = false := by simp [World.frozen?, bP]
  have y1 : w4.frozen? ⟨q2, 1, none⟩ = false := by simp [World.frozen?, bP]
  have y2 : w4.frozen? ⟨q2, 2, none⟩ = false := by simp [World.frozen?, bP]
  have y3 : w4.frozen? ⟨q2, 3, none⟩ = false := by simp [World.frozen?, bP]
  have y4 : w4.frozen? ⟨q2, 4, none⟩ = false := by simp [World.frozen?, bP]
  have y5 : w4.frozen? ⟨q2, 5, none⟩ = false := by simp [World.frozen?, bP]
  have y6 : w4.frozen? ⟨q2, 6, none⟩ = false := by simp [World.frozen?, bP]
  have y7 : w4.frozen? ⟨q2, 7, none⟩ = false := by simp [World.frozen?, bP]
  have y8 : w4.frozen? ⟨q2, 8, none⟩ = false := by simp [World.frozen?, bP]
  simp only [regO, numO, Opd.zero] at z0 z1 z2 z3 z4 z5 z6 z7 z8
  have HR6 : Hid _ := hr6
  clear hr6 k4 HR5
  have HBA : Hid _ := bA
  have HBP : Hid _ := bP
  clear bA bP
  go_upto_region 6 with fail
  have kk := set9_kp w4 q2 (.int .i64 3) (.int .i64 0) (.int .i64 0) (.int .i64 0) (.int .i64 0) (.int .i64 0) (.int .i64 0) (.int .u32 0) (.int .u32 n)
  have bP := set9_heap (o := regO 2 2) HBP.out (.int .i64 3) (.int .i64 0) (.int .i64 0) (.int .i64 0) (.int .i64 0) (.int .i64 0) (.int .i64 0) (.int .u32 0) (.int .u32 n)
  have bA := heap_kept HBA.out kk (by show ¬ q1 = q2; omega)
  have hr7 := HR6.out.other kk (by omega) (by omega)
  clear z0 z1 z2 z3 z4 z5 z6 z7 z8 y0 y1 y2 y3 y4 y5 y6 y7 y8 kk HBA HBP HR6
  obtain ⟨w5, hgen⟩ : ∃ W, W = (((((((((w4.setCell ⟨q2, 0, none⟩ (.int .i64 3)).setCell ⟨q2, 1, none⟩ (.int .i64 0)).setCell ⟨q2, 2, none⟩ (.int .i64 0)).setCell ⟨q2, 3, none⟩ (.int .i64 0)).setCell ⟨q2, 4, none⟩ (.int .i64 0)).setCell ⟨q2, 5, none⟩ (.int .i64 0)).setCell ⟨q2, 6, none⟩ (.int .i64 0)).setCell ⟨q2, 7, none⟩ (.int .u32 0)).setCell ⟨q2, 8, none⟩ (.int .u32 n)) := ⟨_, rfl⟩
  rw [← hgen] at bP bA hr7 ⊢
  clear hgen
  obtain ⟨x0, x1, x2, x3, x4, x5, x6, x7, x8⟩ := res_cells (o := regO 0 s) bA
  simp only [regO, numO, Opd.zero] at x0 x1 x2 x3 x4 x5 x6 x7 x8
  obtain ⟨z0, z1, z2, z3, z4, z5, z6, z7, z8⟩ := res_cells (o := numO n) bP
  simp only [regO, numO, Opd.zero] at z0 z1 z2 z3 z4 z5 z6 z7 z8
  have c9 := hr7.st.c9
  have pt := hr7.put Hv.out
  have HR7 : Hid _ := hr7
  clear hr7 bA bP
  go_wp2
  exact bodyPost_ret (v := _) (res1 rfl _ _ w.heap.size _ rfl (HR7.out.got Hv.out _)) rfl ⟨rfl, HR7.out.fin _⟩
theorem ports_230 (w : World) (X : Cx) (σ : Sg) (f : Int × Int × Int) (h : RSt X w σ f 230) :
    Calls Tryz.prog 28 #[.pointer (some ⟨X.S, 0, none⟩)] w fun e w' => e = .returned (.agg (insV { Ins.zero with op := 38, size := szM 230 σ, a := numO (bytesM X 1 σ).1, b := regO 0 (szM 230 σ) })) ∧ RDn X w (bytesM X 1 σ).2 f 230 w' := by
  obtain ⟨T, nI, fsI, psI, hv, Hv, ⟨vl, vs, vb, va, vx⟩, v1, v2, v3, v4, v5, v6, p0, p1, p2, p3, p4, p5, p6, p7, sz, ne⟩ := vlP
  have hr := RsQ.start (T := T) h
  have hS := h.ltS
  have cS := rsize_ok _ X σ f 230 hr.st (by decide)
  obtain ⟨s, hs⟩ : ∃ s, s = (szM 230 σ) := ⟨_, rfl⟩
  rw [← hs] at cS ⊢
  have HR : Hid _ := hr
  have HN : Hid (∀ W, RSt X W σ f 230 → Calls Tryz.prog 211 #[.pointer (some ⟨X.S, 0, none⟩), .int .i64 1] W fun e w' => e = .returned (.int .u32 (bytesM X 1 σ).1) ∧ RDn X W (bytesM X 1 σ).2 f 230 w') := fun W hW => num_okR W X σ f 230 hW 1 (by decide)
  obtain ⟨n, σ3, hB⟩ : ∃ n σ3, bytesM X 1 σ = (n, σ3) := ⟨_, _, rfl⟩
  rw [hB] at HN ⊢
  simp only at HN ⊢
  clear hB
  clear h hv hs
  go_enter Tryz.func28, Tryz.ntmps28
  try simp only [vl, vs, va, vb, vx]
  clear vl vs va vb vx
  obtain ⟨u0, u1, u2, u3, u4, u5, u6, u7, u8, u9, u10, u11, u12, u13, u14, u15, u16, u17, u18, u19, u20⟩ := ups21
  go_wp2_with fail
  refine cS.mono ?_; rintro e wn ⟨rfl, rfl⟩
  clear cS
  go_wp2_with fail
  refine (reg_lit _ 0 s).mono ?_; rintro e w1 ⟨rfl, k1⟩
  have hr1 := HR.out.no k1
  have bA := (MapKept.heap_alloc w1 (.cells #[.int .i64 1, .int .i64 0, .int .i64 s, .int .i64 0, .int .i64 0, .int .i64 0, .int .i64 0, .int .u32 0, .int .u32 0] 26)).1
  have hr2 := hr1.no (Kp.alloc noB w1 (.cells #[.int .i64 1, .int .i64 0, .int .i64 s, .int .i64 0, .int .i64 0, .int .i64 0, .int .i64 0, .int .u32 0, .int .u32 0] 26))
  have hq1 : w.heap.size < w1.heap.size := heap_lt hr1.rs
  obtain ⟨q1, hq⟩ : ∃ q, q = w1.heap.size := ⟨_, rfl⟩
  rw [← hq] at bA hq1
  have HQ1 : Hid (w1.heap.size = q1) := hq.symm
  have HR2 : Hid _ := hr2
  clear hr1 hr2 k1 hq HR
  go_wp2_with fail
  refine (reg_lit _ 2 2).mono ?_; rintro e w2 ⟨rfl, k2⟩
  rw [HQ1.out]
  have hr3 := HR2.out.no k2
  replace bA := heap_kept bA k2 id
  have hq2 : q1 < w2.heap.size := heap_lt bA
  have bP := (MapKept.heap_alloc w2 (.cells #[.int .i64 1, .int .i64 2, .int .i64 2, .int .i64 0, .int .i64 0, .int .i64 0, .int .i64 0, .int .u32 0, .int .u32 0] 26)).1
  have kP := Kp.alloc noB w2 (.cells #[.int .i64 1, .int .i64 2, .int .i64 2, .int .i64 0, .int .i64 0, .int .i64 0, .int .i64 0, .int .u32 0, .int .u32 0] 26)
  have hr4 := hr3.no kP
  replace bA := heap_kept bA kP id
  obtain ⟨q2, hq⟩ : ∃ q, q = w2.heap.size := ⟨_, rfl⟩
  rw [← hq] at bP hq2
  have HQ2 : Hid (w2.heap.size = q2) := hq.symm
  have HR4 : Hid _ := hr4
  have c9 := hr4.st.c9
  clear hr3 hr4 k2 hq HR2 kP
  go_wp2_with fail
  refine (HN.out _ HR4.out.st).mono ?_; rintro e w3 ⟨rfl, hd3⟩
  rw [HQ2.out]
  have hr5 := HR4.out.call hd3
  replace bA := heap_kept bA hd3.2 (by show ¬ q1 = X.S; omega)
  replace bP := heap_kept bP hd3.2 (by show ¬ q2 = X.S; omega)
  have HR5 : Hid _ := hr5
  clear hr5 hd3 HN HR4 c9
  go_wp2_with fail
  refine (imm_lit _ n).mono ?_; rintro e w4 ⟨rfl, k4⟩
  have hr6 := HR5.out.no k4
  replace bA := heap_kept bA k4 id
  replace bP := heap_kept bP k4 id
  obtain ⟨z0, z1, z2, z3, z4, z5, z6, z7, z8⟩ := res_cells (o := regO 2 2) bP
  have y0 : w4.frozen? ⟨q2, 0, none⟩ = false := by simp [World.frozen?, bP]
  have y1 : w4.frozen? ⟨q2, 1, none⟩ = false := by simp [World.frozen?, bP]
  have y2 : w4.frozen? ⟨q2, 2, none⟩ = false := by simp [World.frozen?, bP]
  have y3 : w4.frozen? ⟨q2, 3, none⟩ = false := by simp [World.frozen?, bP]
  have y4 : w4.frozen? ⟨q2, 4, none⟩ = false := by simp [World.frozen?, bP]
  have y5 : w4.frozen? ⟨q2, 5, none⟩ = false := by simp [World.frozen?, bP]
  have y6 : w4.frozen? ⟨q2, 6, none⟩ = false := by simp [World.frozen?, bP]
  have y7 : w4.frozen? ⟨q2, 7, none⟩ = false := by simp [World.frozen?, bP]
  have y8 : w4.frozen? ⟨q2, 8, none⟩ = false := by simp [World.frozen?, bP]
  simp only [regO, numO, Opd.zero] at z0 z1 z2 z3 z4 z5 z6 z7 z8
  have HR6 : Hid _ := hr6
  clear hr6 k4 HR5
  have HBA : Hid _ := bA
  have HBP : Hid _ := bP
  clear bA bP
  go_upto_region 6 with fail
  have kk := set9_kp w4 q2 (.int .i64 3) (.int .i64 0) (.int .i64 0) (.int .i64 0) (.int .i64 0) (.int .i64 0) (.int .i64 0) (.int .u32 0) (.int .u32 n)
  have bP := set9_heap (o := regO 2 2) HBP.out (.int .i64 3) (.int .i64 0) (.int .i64 0) (.int .i64 0) (.int .i64 0) (.int .i64 0) (.int .i64 0) (.int .u32 0) (.int .u32 n)
  have bA := heap_kept HBA.out kk (by show ¬ q1 = q2; omega)
  have hr7 := HR6.out.other kk (by omega) (by omega)
  clear z0 z1 z2 z3 z4 z5 z6 z7 z8 y0 y1 y2 y3 y4 y5 y6 y7 y8 kk HBA HBP HR6
  obtain ⟨w5, hgen⟩ : ∃ W, W = (((((((((w4.setCell ⟨q2, 0, none⟩ (.int .i64 3)).setCell ⟨q2, 1, none⟩ (.int .i64 0)).setCell ⟨q2, 2, none⟩ (.int .i64 0)).setCell ⟨q2, 3, none⟩ (.int .i64 0)).setCell ⟨q2, 4, none⟩ (.int .i64 0)).setCell ⟨q2, 5, none⟩ (.int .i64 0)).setCell ⟨q2, 6, none⟩ (.int .i64 0)).setCell ⟨q2, 7, none⟩ (.int .u32 0)).setCell ⟨q2, 8, none⟩ (.int .u32 n)) := ⟨_, rfl⟩
  rw [← hgen] at bP bA hr7 ⊢
  clear hgen
  obtain ⟨x0, x1, x2, x3, x4, x5, x6, x7, x8⟩ := res_cells (o := regO 0 s) bA
  simp only [regO, numO, Opd.zero] at x0 x1 x2 x3 x4 x5 x6 x7 x8
  obtain ⟨z0, z1, z2, z3, z4, z5, z6, z7, z8⟩ := res_cells (o := numO n) bP
  simp only [regO, numO, Opd.zero] at z0 z1 z2 z3 z4 z5 z6 z7 z8
  have c9 := hr7.st.c9
  have pt := hr7.put Hv.out
  have HR7 : Hid _ := hr7
  clear hr7 bA bP
  go_wp2
  exact bodyPost_ret (v := _) (res1 rfl _ _ w.heap.size _ rfl (HR7.out.got Hv.out _)) rfl ⟨rfl, HR7.out.fin _⟩
theorem ports_231 (w : World) (X : Cx) (σ : Sg) (f : Int × Int × Int) (h : RSt X w σ f 231) :
    Calls Tryz.prog 28 #[.pointer (some ⟨X.S, 0, none⟩)] w fun e w' => e = .returned (.agg (insV { Ins.zero with op := 38, size := szM 231 σ, a := numO (bytesM X 1 σ).1, b := regO 0 (szM 231 σ) })) ∧ RDn X w (bytesM X 1 σ).2 f 231 w' := by
  obtain ⟨T, nI, fsI, psI, hv, Hv, ⟨vl, vs, vb, va, vx⟩, v1, v2, v3, v4, v5, v6, p0, p1, p2, p3, p4, p5, p6, p7, sz, ne⟩ := vlP
  have hr := RsQ.start (T := T) h
  have hS := h.ltS
  have cS := rsize_ok _ X σ f 231 hr.st (by decide)
  obtain ⟨s, hs⟩ : ∃ s, s = (szM 231 σ) := ⟨_, rfl⟩
  rw [← hs] at cS ⊢
  have HR : Hid _ := hr
  have HN : Hid (∀ W, RSt X W σ f 231 → Calls Tryz.prog 211 #[.pointer (some ⟨X.S, 0, none⟩), .int .i64 1] W fun e w' => e = .returned (.int .u32 (bytesM X 1 σ).1) ∧ RDn X W (bytesM X 1 σ).2 f 231 w') := fun W hW => num_okR W X σ f 231 hW 1 (by decide)
  obtain ⟨n, σ3, hB⟩ : ∃ n σ3, bytesM X 1 σ = (n, σ3) := ⟨_, _, rfl⟩
  rw [hB] at HN ⊢
  simp only at HN ⊢
  clear hB
  clear h hv hs
  go_enter Tryz.func28, Tryz.ntmps28
  try simp only [vl, vs, va, vb, vx]
  clear vl vs va vb vx
  obtain ⟨u0, u1, u2, u3, u4, u5, u6, u7, u8, u9, u10, u11, u12, u13, u14, u15, u16, u17, u18, u19, u20⟩ := ups21
  go_wp2_with fail
  refine cS.mono ?_; rintro e wn ⟨rfl, rfl⟩
  clear cS
  go_wp2_with fail
  refine (reg_lit _ 0 s).mono ?_; rintro e w1 ⟨rfl, k1⟩
  have hr1 := HR.out.no k1
  have bA := (MapKept.heap_alloc w1 (.cells #[.int .i64 1, .int .i64 0, .int .i64 s, .int .i64 0, .int .i64 0, .int .i64 0, .int .i64 0, .int .u32 0, .int .u32 0] 26)).1
  have hr2 := hr1.no (Kp.alloc noB w1 (.cells #[.int .i64 1, .int .i64 0, .int .i64 s, .int .i64 0, .int .i64 0, .int .i64 0, .int .i64 0, .int .u32 0, .int .u32 0] 26))
  have hq1 : w.heap.size < w1.heap.size := heap_lt hr1.rs
  obtain ⟨q1, hq⟩ : ∃ q, q = w1.heap.size := ⟨_, rfl⟩
  rw [← hq] at bA hq1
  have HQ1 : Hid (w1.heap.size = q1) := hq.symm
  have HR2 : Hid _ := hr2
  clear hr1 hr2 k1 hq HR
  go_wp2_with fail
  refine (reg_lit _ 2 2).mono ?_; rintro e w2 ⟨rfl, k2⟩
  rw [HQ1.out]
  have hr3 := HR2.out.no k2
  replace bA := heap_kept bA k2 id
  have hq2 : q1 < w2.heap.size := heap_lt bA
  have bP := (MapKept.heap_alloc w2 (.cells #[.int .i64 1, .int .i64 2, .int .i64 2, .int .i64 0, .int .i64 0, .int .i64 0, .int .i64 0, .int .u32 0, .int .u32 0] 26)).1
  have kP := Kp.alloc noB w2 (.cells #[.int .i64 1, .int .i64 2, .int .i64 2, .int .i64 0, .int .i64 0, .int .i64 0, .int .i64 0, .int .u32 0, .int .u32 0] 26)
  have hr4 := hr3.no kP
  replace bA := heap_kept bA kP id
  obtain ⟨q2, hq⟩ : ∃ q, q = w2.heap.size := ⟨_, rfl⟩
  rw [← hq] at bP hq2
  have HQ2 : Hid (w2.heap.size = q2) := hq.symm
  have HR4 : Hid _ := hr4
  have c9 := hr4.st.c9
  clear hr3 hr4 k2 hq HR2 kP
  go_wp2_with fail
  refine (HN.out _ HR4.out.st).mono ?_; rintro e w3 ⟨rfl, hd3⟩
  rw [HQ2.out]
  have hr5 := HR4.out.call hd3
  replace bA := heap_kept bA hd3.2 (by show ¬ q1 = X.S; omega)
  replace bP := heap_kept bP hd3.2 (by show ¬ q2 = X.S; omega)
  have HR5 : Hid _ := hr5
  clear hr5 hd3 HN HR4 c9
  go_wp2_with fail
  refine (imm_lit _ n).mono ?_; rintro e w4 ⟨rfl, k4⟩
  have hr6 := HR5.out.no k4
  replace bA := heap_kept bA k4 id
  replace bP := heap_kept bP k4 id
  obtain ⟨z0, z1, z2, z3, z4, z5, z6, z7, z8⟩ := res_cells (o := regO 2 2) bP
  have y0 : w4.frozen? ⟨q2, 0, none⟩ = false := by simp [World.frozen?, bP]
  have y1 : w4.frozen? ⟨q2, 1, none⟩ = false := by simp [World.frozen?, bP]
  have y2 : w4.frozen? ⟨q2, 2, none⟩ = false := by simp [World.frozen?, bP]
  have y3 : w4.frozen? ⟨q2, 3, none⟩ = false := by simp [World.frozen?, bP]
  have y4 : w4.frozen? ⟨q2, 4, none⟩ = false := by simp [World.frozen?, bP]
  have y5 : w4.frozen? ⟨q2, 5, none⟩ = false := by simp [World.frozen?, bP]
  have y6 : w4.frozen? ⟨q2, 6, none⟩ = false := by simp [World.frozen?, bP]
  have y7 : w4.frozen? ⟨q2, 7, none⟩ = false := by simp [World.frozen?, bP]
  have y8 : w4.frozen? ⟨q2, 8, none⟩ = false := by simp [World.frozen?, bP]
  simp only [regO, numO, Opd.zero] at z0 z1 z2 z3 z4 z5 z6 z7 z8
  have HR6 : Hid _ := hr6
  clear hr6 k4 HR5
  have HBA : Hid _ := bA
  have HBP : Hid _ := bP
  clear bA bP
  go_upto_region 6 with fail
  have kk := set9_kp w4 q2 (.int .i64 3) (.int .i64 0) (.int .i64 0) (.int .i64 0) (.int .i64 0) (.int .i64 0) (.int .i64 0) (.int .u32 0) (.int .u32 n)
  have bP := set9_heap (o := regO 2 2) HBP.out (.int .i64 3) (.int .i64 0) (.int .i64 0) (.int .i64 0) (.int .i64 0) (.int .i64 0) (.int .i64 0) (.int .u32 0) (.int .u32 n)
  have bA := heap_kept HBA.out kk (by show ¬ q1 = q2; omega)
  have hr7 := HR6.out.other kk (by omega) (by omega)
  clear z0 z1 z2 z3 z4 z5 z6 z7 z8 y0 y1 y2 y3 y4 y5 y6 y7 y8 kk HBA HBP HR6
  obtain ⟨w5, hgen⟩ : ∃ W, W = (((((((((w4.setCell ⟨q2, 0, none⟩ (.int .i64 3)).setCell ⟨q2, 1, none⟩ (.int .i64 0)).setCell ⟨q2, 2, none⟩ (.int .i64 0)).setCell ⟨q2, 3, none⟩ (.int .i64 0)).setCell ⟨q2, 4, none⟩ (.int .i64 0)).setCell ⟨q2, 5, none⟩ (.int .i64 0)).setCell ⟨q2, 6, none⟩ (.int .i64 0)).setCell ⟨q2, 7, none⟩ (.int .u32 0)).setCell ⟨q2, 8, none⟩ (.int .u32 n)) := ⟨_, rfl⟩
  rw [← hgen] at bP bA hr7 ⊢
  clear hgen
  obtain ⟨x0, x1, x2, x3, x4, x5, x6, x7, x8⟩ := res_cells (o := regO 0 s) bA
  simp only [regO, numO, Opd.zero] at x0 x1 x2 x3 x4 x5 x6 x7 x8
  obtain ⟨z0, z1, z2, z3, z4, z5, z6, z7, z8⟩ := res_cells (o := numO n) bP
  simp only [regO, numO, Opd.zero] at z0 z1 z2 z3 z4 z5 z6 z7 z8
  have c9 := hr7.st.c9
  have pt := hr7.put Hv.out
  have HR7 : Hid _ := hr7
  clear hr7 bA bP
  go_wp2
  exact bodyPost_ret (v := _) (res1 rfl _ _ w.heap.size _ rfl (HR7.out.got Hv.out _)) rfl ⟨rfl, HR7.out.fin _⟩
theorem ports_236 (w : World) (X : Cx) (σ : Sg) (f : Int × Int × Int) (h : RSt X w σ f 236) :
    Calls Tryz.prog 28 #[.pointer (some ⟨X.S, 0, none⟩)] w fun e w' => e = .returned (.agg (insV { Ins.zero with op := 37, size := szM 236 σ, a := regO 0 (szM 236 σ), b := regO 2 2 })) ∧ RDn X w σ f 236 w' := by
  obtain ⟨T, nI, fsI, psI, hv, Hv, ⟨vl, vs, vb, va, vx⟩, v1, v2, v3, v4, v5, v6, p0, p1, p2, p3, p4, p5, p6, p7, sz, ne⟩ := vlP
  have hr := RsQ.start (T := T) h
  have hS := h.ltS
  have cS := rsize_ok _ X σ f 236 hr.st (by decide)
  obtain ⟨s, hs⟩ : ∃ s, s = (szM 236 σ) := ⟨_, rfl⟩
  rw [← hs] at cS ⊢
  have HR : Hid _ := hr
  clear h hv hs
  go_enter Tryz.func28, Tryz.ntmps28
  try simp only [vl, vs, va, vb, vx]
  clear vl vs va vb vx
  obtain ⟨u0, u1, u2, u3, u4, u5, u6, u7, u8, u9, u10, u11, u12, u13, u14, u15, u16, u17, u18, u19, u20⟩ := ups21
  go_wp2_with fail
  refine cS.mono ?_; rintro e wn ⟨rfl, rfl⟩
  clear cS
  go_wp2_with fail
  refine (reg_lit _ 0 s).mono ?_; rintro e w1 ⟨rfl, k1⟩
  have hr1 := HR.out.no k1
  have bA := (MapKept.heap_alloc w1 (.cells #[.int .i64 1, .int .i64 0, .int .i64 s, .int .i64 0, .int .i64 0, .int .i64 0, .int .i64 0, .int .u32 0, .int .u32 0] 26)).1
  have hr2 := hr1.no (Kp.alloc noB w1 (.cells #[.int .i64 1, .int .i64 0, .int .i64 s, .int .i64 0, .int .i64 0, .int .i64 0, .int .i64 0, .int .u32 0, .int .u32 0] 26))
  have hq1 : w.heap.size < w1.heap.size := heap_lt hr1.rs
  obtain ⟨q1, hq⟩ : ∃ q, q = w1.heap.size := ⟨_, rfl⟩
  rw [← hq] at bA hq1
  have HQ1 : Hid (w1.heap.size = q1) := hq.symm
  have HR2 : Hid _ := hr2
  clear hr1 hr2 k1 hq HR
  go_wp2_with fail
  refine (reg_lit _ 2 2).mono ?_; rintro e w2 ⟨rfl, k2⟩
  rw [HQ1.out]
  have hr3 := HR2.out.no k2
  replace bA := heap_kept bA k2 id
  have hq2 : q1 < w2.heap.size := heap_lt bA
  have bP := (MapKept.heap_alloc w2 (.cells #[.int .i64 1, .int .i64 2, .int .i64 2, .int .i64 0, .int .i64 0, .int .i64 0, .int .i64 0, .int .u32 0, .int .u32 0] 26)).1
  have kP := Kp.alloc noB w2 (.cells #[.int .i64 1, .int .i64 2, .int .i64 2, .int .i64 0, .int .i64 0, .int .i64 0, .int .i64 0, .int .u32 0, .int .u32 0] 26)
  have hr4 := hr3.no kP
  replace bA := heap_kept bA kP id
  obtain ⟨q2, hq⟩ : ∃ q, q = w2.heap.size := ⟨_, rfl⟩
  rw [← hq] at bP hq2
  have HQ2 : Hid (w2.heap.size = q2) := hq.symm
  have HR4 : Hid _ := hr4
  have c9 := hr4.st.c9
  clear hr3 hr4 k2 hq HR2 kP
  obtain ⟨x0, x1, x2, x3, x4, x5, x6, x7, x8⟩ := res_cells (o := regO 0 s) bA
  simp only [regO, numO, Opd.zero] at x0 x1 x2 x3 x4 x5 x6 x7 x8
  obtain ⟨z0, z1, z2, z3, z4, z5, z6, z7, z8⟩ := res_cells (o := regO 2 2) bP
  simp only [regO, numO, Opd.zero] at z0 z1 z2 z3 z4 z5 z6 z7 z8
  have pt := HR4.out.put Hv.out
  clear bA bP
  have e2 := HQ2.out
  rw [← e2] at z0 z1 z2 z3 z4 z5 z6 z7 z8
  clear e2
  go_wp2
  exact bodyPost_ret (v := _) (res1 rfl _ _ w.heap.size _ rfl (HR4.out.got Hv.out _)) rfl ⟨rfl, HR4.out.fin _⟩
theorem ports_237 (w : World) (X : Cx) (σ : Sg) (f : Int × Int × Int) (h : RSt X w σ f 237) :
    Calls Tryz.prog 28 #[.pointer (some ⟨X.S, 0, none⟩)] w fun e w' => e = .returned (.agg (insV { Ins.zero with op := 37, size := szM 237 σ, a := regO 0 (szM 237 σ), b := regO 2 2 })) ∧ RDn X w σ f 237 w' := by
  obtain ⟨T, nI, fsI, psI, hv, Hv, ⟨vl, vs, vb, va, vx⟩, v1, v2, v3, v4, v5, v6, p0, p1, p2, p3, p4, p5, p6, p7, sz, ne⟩ := vlP
  have hr := RsQ.start (T := T) h
  have hS := h.ltS
  have cS := rsize_ok _ X σ f 237 hr.st (by decide)
  obtain ⟨s, hs⟩ : ∃ s, s = (szM 237 σ) := ⟨_, rfl⟩
  rw [← hs] at cS ⊢
  have HR : Hid _ := hr
  clear h hv hs
  go_enter Tryz.func28, Tryz.ntmps28
  try simp only [vl, vs, va, vb, vx]
  clear vl vs va vb vx
  obtain ⟨u0, u1, u2, u3, u4, u5, u6, u7, u8, u9, u10, u11, u12, u13, u14, u15, u16, u17, u18, u19, u20⟩ := ups21
  go_wp2_with fail
  refine cS.mono ?_; rintro e wn ⟨rfl, rfl⟩
  clear cS
  go_wp2_with fail
  refine (reg_lit _ 0 s).mono ?_; rintro e w1 ⟨rfl, k1⟩
  have hr1 := HR.out.no k1
  have bA := (MapKept.heap_alloc w1 (.cells #[.int .i64 1, .int .i64 0, .int .i64 s, .int .i64 0, .int .i64 0, .int .i64 0, .int .i64 0, .int .u32 0, .int .u32 0] 26)).1
  have hr2 := hr1.no (Kp.alloc noB w1 (.cells #[.int .i64 1, .int .i64 0, .int .i64 s, .int .i64 0, .int .i64 0, .int .i64 0, .int .i64 0, .int .u32 0, .int .u32 0] 26))
  have hq1 : w.heap.size < w1.heap.size := heap_lt hr1.rs
  obtain ⟨q1, hq⟩ : ∃ q, q = w1.heap.size := ⟨_, rfl⟩
  rw [← hq] at bA hq1
  have HQ1 : Hid (w1.heap.size = q1) := hq.symm
  have HR2 : Hid _ := hr2
  clear hr1 hr2 k1 hq HR
  go_wp2_with fail
  refine (reg_lit _ 2 2).mono ?_; rintro e w2 ⟨rfl, k2⟩
  rw [HQ1.out]
  have hr3 := HR2.out.no k2
  replace bA := heap_kept bA k2 id
  have hq2 : q1 < w2.heap.size := heap_lt bA
  have bP := (MapKept.heap_alloc w2 (.cells #[.int .i64 1, .int .i64 2, .int .i64 2, .int .i64 0, .int .i64 0, .int .i64 0, .int .i64 0, .int .u32 0, .int .u32 0] 26)).1
  have kP := Kp.alloc noB w2 (.cells #[.int .i64 1, .int .i64 2, .int .i64 2, .int .i64 0, .int .i64 0, .int .i64 0, .int .i64 0, .int .u32 0, .int .u32 0] 26)
  have hr4 := hr3.no kP
  replace bA := heap_kept bA kP id
  obtain ⟨q2, hq⟩ : ∃ q, q = w2.heap.size := ⟨_, rfl⟩
  rw [← hq] at bP hq2
  have HQ2 : Hid (w2.heap.size = q2) := hq.symm
  have HR4 : Hid _ := hr4
  have c9 := hr4.st.c9
  clear hr3 hr4 k2 hq HR2 kP
  obtain ⟨x0, x1, x2, x3, x4, x5, x6, x7, x8⟩ := res_cells (o := regO 0 s) bA
  simp only [regO, numO, Opd.zero] at x0 x1 x2 x3 x4 x5 x6 x7 x8
  obtain ⟨z0, z1, z2, z3, z4, z5, z6, z7, z8⟩ := res_cells (o := regO 2 2) bP
  simp only [regO, numO, Opd.zero] at z0 z1 z2 z3 z4 z5 z6 z7 z8
  have pt := HR4.out.put Hv.out
  clear bA bP
  have e2 := HQ2.out
  rw [← e2] at z0 z1 z2 z3 z4 z5 z6 z7 z8
  clear e2
  go_wp2
  exact bodyPost_ret (v := _) (res1 rfl _ _ w.heap.size _ rfl (HR4.out.got Hv.out _)) rfl ⟨rfl, HR4.out.fin _⟩
theorem ports_238 (w : World) (X : Cx) (σ : Sg) (f : Int × Int × Int) (h : RSt X w σ f 238) :
    Calls Tryz.prog 28 #[.pointer (some ⟨X.S, 0, none⟩)] w fun e w' => e = .returned (.agg (insV { Ins.zero with op := 38, size := szM 238 σ, a := regO 2 2, b := regO 0 (szM 238 σ) })) ∧ RDn X w σ f 238 w' := by
  obtain ⟨T, nI, fsI, psI, hv, Hv, ⟨vl, vs, vb, va, vx⟩, v1, v2, v3, v4, v5, v6, p0, p1, p2, p3, p4, p5, p6, p7, sz, ne⟩ := vlP
  have hr := RsQ.start (T := T) h
  have hS := h.ltS
  have cS := rsize_ok _ X σ f 238 hr.st (by decide)
  obtain ⟨s, hs⟩ : ∃ s, s = (szM 238 σ) := ⟨_, rfl⟩
  rw [← hs] at cS ⊢
  have HR : Hid _ := hr
  clear h hv hs
  go_enter Tryz.func28, Tryz.ntmps28
  try simp only [vl, vs, va, vb, vx]
  clear vl vs va vb vx
  obtain ⟨u0, u1, u2, u3, u4, u5, u6, u7, u8, u9, u10, u11, u12, u13, u14, u15, u16, u17, u18, u19, u20⟩ := ups21
  go_wp2_with fail
  refine cS.mono ?_; rintro e wn ⟨rfl, rfl⟩
  clear cS
  go_wp2_with fail
  refine (reg_lit _ 0 s).mono ?_; rintro e w1 ⟨rfl, k1⟩
  have hr1 := HR.out.no k1
  have bA := (MapKept.heap_alloc w1 (.cells #[.int .i64 1, .int .i64 0, .int .i64 s, .int .i64 0, .int .i64 0, .int .i64 0, .int .i64 0, .int .u32 0, .int .u32 0] 26)).1
  have hr2 := hr1.no (Kp.alloc noB w1 (.cells #[.int .i64 1, .int .i64 0, .int .i64 s, .int .i64 0, .int .i64 0, .int .i64 0, .int .i64 0, .int .u32 0, .int .u32 0] 26))
  have hq1 : w.heap.size < w1.heap.size := heap_lt hr1.rs
  obtain ⟨q1, hq⟩ : ∃ q, q = w1.heap.size := ⟨_, rfl⟩
  rw [← hq] at bA hq1
  have HQ1 : Hid (w1.heap.size = q1) := hq.symm
  have HR2 : Hid _ := hr2
  clear hr1 hr2 k1 hq HR
  go_wp2_with fail
  refine (reg_lit _ 2 2).mono ?_; rintro e w2 ⟨rfl, k2⟩
  rw [HQ1.out]
  have hr3 := HR2.out.no k2
  replace bA := heap_kept bA k2 id
  have hq2 : q1 < w2.heap.size := heap_lt bA
  have bP := (MapKept.heap_alloc w2 (.cells #[.int .i64 1, .int .i64 2, .int .i64 2, .int .i64 0, .int .i64 0, .int .i64 0, .int .i64 0, .int .u32 0, .int .u32 0] 26)).1
  have kP := Kp.alloc noB w2 (.cells #[.int .i64 1, .int .i64 2, .int .i64 2, .int .i64 0, .int .i64 0, .int .i64 0, .int .i64 0, .int .u32 0, .int .u32 0] 26)
  have hr4 := hr3.no kP
  replace bA := heap_kept bA kP id
  obtain ⟨q2, hq⟩ : ∃ q, q = w2.heap.size := ⟨_, rfl⟩
  rw [← hq] at bP hq2
  have HQ2 : Hid (w2.heap.size = q2) := hq.symm
  have HR4 : Hid _ := hr4
  have c9 := hr4.st.c9
  clear hr3 hr4 k2 hq HR2 kP
  obtain ⟨x0, x1, x2, x3, x4, x5, x6, x7, x8⟩ := res_cells (o := regO 0 s) bA
  simp only [regO, numO, Opd.zero] at x0 x1 x2 x3 x4 x5 x6 x7 x8
  obtain ⟨z0, z1, z2, z3, z4, z5, z6, z7, z8⟩ := res_cells (o := regO 2 2) bP
  simp only [regO, numO, Opd.zero] at z0 z1 z2 z3 z4 z5 z6 z7 z8
  have pt := HR4.out.put Hv.out
  clear bA bP
  have e2 := HQ2.out
  rw [← e2] at z0 z1 z2 z3 z4 z5 z6 z7 z8
  clear e2
  go_wp2
  exact bodyPost_ret (v := _) (res1 rfl _ _ w.heap.size _ rfl (HR4.out.got Hv.out _)) rfl ⟨rfl, HR4.out.fin _⟩
theorem ports_239 (w : World) (X : Cx) (σ : Sg) (f : Int × Int × Int) (h : RSt X w σ f 239) :
    Calls Tryz.prog 28 #[.pointer (some ⟨X.S, 0, none⟩)] w fun e w' => e = .returned (.agg (insV { Ins.zero with op := 38, size := szM 239 σ, a := regO 2 2, b := regO 0 (szM 239 σ) })) ∧ RDn X w σ f 239 w' := by
  obtain ⟨T, nI, fsI, psI, hv, Hv, ⟨vl, vs, vb, va, vx⟩, v1, v2, v3, v4, v5, v6, p0, p1, p2, p3, p4, p5, p6, p7, sz, ne⟩ := vlP
  have hr := RsQ.start (T := T) h
  have hS := h.ltS
  have cS := rsize_ok _ X σ f 239 hr.st (by decide)
  obtain ⟨s, hs⟩ : ∃ s, s = (szM 239 σ) := ⟨_, rfl⟩
  rw [← hs] at cS ⊢
  have HR : Hid _ := hr
  clear h hv hs
  go_enter Tryz.func28, Tryz.ntmps28
  try simp only [vl, vs, va, vb, vx]
  clear vl vs va vb vx
  obtain ⟨u0, u1, u2, u3, u4, u5, u6, u7, u8, u9, u10, u11, u12, u13, u14, u15, u16, u17, u18, u19, u20⟩ := ups21
  go_wp2_with fail
  refine cS.mono ?_; rintro e wn ⟨rfl, rfl⟩
  clear cS
  go_wp2_with fail
  refine (reg_lit _ 0 s).mono ?_; rintro e w1 ⟨rfl, k1⟩
  have hr1 := HR.out.no k1
  have bA := (MapKept.heap_alloc w1 (.cells #[.int .i64 1, .int .i64 0, .int .i64 s, .int .i64 0, .int .i64 0, .int .i64 0, .int .i64 0, .int .u32 0, .int .u32 0] 26)).1
  have hr2 := hr1.no (Kp.alloc noB w1 (.cells #[.int .i64 1, .int .i64 0, .int .i64 s, .int .i64 0, .int .i64 0, .int .i64 0, .int .i64 0, .int .u32 0, .int .u32 0] 26))
  have hq1 : w.heap.size < w1.heap.size := heap_lt hr1.rs
  obtain ⟨q1, hq⟩ : ∃ q, q = w1.heap.size := ⟨_, rfl⟩
  rw [← hq] at bA hq1
  have HQ1 : Hid (w1.heap.size = q1) := hq.symm
  have HR2 : Hid _ := hr2
  clear hr1 hr2 k1 hq HR
  go_wp2_with fail
  refine (reg_lit _ 2 2).mono ?_; rintro e w2 ⟨rfl, k2⟩
  rw [HQ1.out]
  have hr3 := HR2.out.no k2
  replace bA := heap_kept bA k2 id
  have hq2 : q1 < w2.heap.size := heap_lt bA
  have bP := (MapKept.heap_alloc w2 (.cells #[.int .i64 1, .int .i64 2, .int .i64 2, .int .i64 0, .int .i64 0, .int .i64 0, .int .i64 0, .int .u32 0, .int .u32 0] 26)).1
  have kP := Kp.alloc noB w2 (.cells #[.int .i64 1, .int .i64 2, .int .i64 2, .int .i64 0, .int .i64 0, .int .i64 0, .int .i64 0, .int .u32 0, .int .u32 0] 26)
  have hr4 := hr3.no kP
  replace bA := heap_kept bA kP id
  obtain ⟨q2, hq⟩ : ∃ q, q = w2.heap.size := ⟨_, rfl⟩
  rw [← hq] at bP hq2
  have HQ2 : Hid (w2.heap.size = q2) := hq.symm
  have HR4 : Hid _ := hr4
  have c9 := hr4.st.c9
  clear hr3 hr4 k2 hq HR2 kP
  obtain ⟨x0, x1, x2, x3, x4, x5, x6, x7, x8⟩ := res_cells (o := regO 0 s) bA
  simp only [regO, numO, Opd.zero] at x0 x1 x2 x3 x4 x5 x6 x7 x8
  obtain ⟨z0, z1, z2, z3, z4, z5, z6, z7, z8⟩ := res_cells (o := regO 2 2) bP
  simp only [regO, numO, Opd.zero] at z0 z1 z2 z3 z4 z5 z6 z7 z8
  have pt := HR4.out.put Hv.out
  clear bA bP
  have e2 := HQ2.out
  rw [← e2] at z0 z1 z2 z3 z4 z5 z6 z7 z8
  clear e2
  go_wp2
  exact bodyPost_ret (v := _) (res1 rfl _ _ w.heap.size _ rfl (HR4.out.got Hv.out _)) rfl ⟨rfl, HR4.out.fin _⟩
end Go.Proofs.YtbfccfhjgopnbaaGreat
