/- The document's reader, and the code's (RfGrp2, RfEa). -/
import Derived.Test.YtbfccfhjgopnbaaGreatDr26
import Derived.Test.YtbfccfhjgopnbaaGreatDr12
import Derived.Test.YtbfccfhjgopnbaaGreatDr31
set_option linter.unusedSimpArgs false
namespace Go.Proofs.YtbfccfhjgopnbaaGreat
open Go.ChangeShapes Go.WideShapes Go.ChangeAt Go.RowKit
set_option linter.unusedVariables false
set_option linter.unusedSimpArgs false
set_option maxHeartbeats 4000000
set_option maxRecDepth 20000
theorem group_143_0 (w : World) (X : Cx) (σ : Sg) (f : Int × Int × Int) (h : RSt X w σ f 143) (hf : σ.fl = none) (hm : (modrm X σ).1.2.1 = 0) :
    Calls Tryz.prog 25 #[.pointer (some ⟨X.S, 0, none⟩)] w fun e w' => e = .returned (.agg (insV { Ins.zero with op := 13, size := σ.v, a := (pE X σ.v (modrm X σ).2).1 })) ∧ RDn X w (pE X σ.v (modrm X σ).2).2 (modrm X σ).1 143 w' := by
  obtain ⟨T, nI, fsI, psI, hv, Hv, ⟨vl, vs, vb, va, vx⟩, v1, v2, v3, v4, v5, v6, p0, p1, p2, p3, p4, p5, p6, p7, sz, ne⟩ := vlP
  have hr := RsQ.start (T := T) h
  have d9 := h.c9
  have hS := h.ltS
  have cM := rmodrm_ok _ X σ f 143 hr.st hf
  have hfl := rmodrm_fl h hf
  have hkm := (kept_modrm X σ).v
  generalize modrm X σ = Y at *
  obtain ⟨⟨m, k, r⟩, σ1⟩ := Y
  simp only at cM hfl hm hkm ⊢
  subst hm
  have HE : Hid (∀ W, RSt X W σ1 (m, 0, r) 143 → _) := fun W hW => e_lit W X σ1 (m, 0, r) 143 hW hfl.1 hfl.2.1 σ.v
  have hke := (kept_E X σ.v σ1).v
  obtain ⟨⟨o0, o1', o2', o3', o4, o5, o6', o7, o8⟩, σ2, hY⟩ : ∃ o σ2, pE X σ.v σ1 = (o, σ2) := ⟨_, _, rfl⟩
  rw [hY] at HE hke ⊢
  simp only at HE hke ⊢
  have HR : Hid _ := hr
  have HKM : Hid (σ1.v = σ.v) := hkm
  have HKE : Hid (σ2.v = σ.v) := hke.trans hkm
  clear h hv hfl hr hf hY hkm hke
  go_enter Tryz.func25, Tryz.ntmps25
  try simp only [vl, vs, va, vb, vx]
  clear vl vs va vb vx
  go_wp2_with fail
  refine cM.mono ?_; rintro e w1 ⟨rfl, hd1⟩
  have hr1 := HR.out.call hd1
  have c6 := hr1.st.c6
  have c7 := hr1.st.c7
  simp only at c6 c7
  have c4 := hr1.st.c4
  rw [HKM.out] at c4
  have hS1 := hr1.st.ltS
  have hqX : w.heap.size < w1.heap.size := heap_lt hr1.rs
  have hr2 := hr1.no (Kp.alloc noB w1 (.cells #[.int .i64 4, .int .i64 0, .int .i64 0, .int .i64 0, .int .i64 0, .int .i64 0, .int .i64 0, .int .u32 0, .int .u32 0] 26))
  have g4 := hr2.st.c4
  rw [HKM.out] at g4
  have g6 := hr2.st.c6
  have g7 := hr2.st.c7
  simp only at g6 g7
  have hS2 := hr2.st.ltS
  have HR2 : Hid _ := hr2
  have hXS : X.S < w.heap.size := hr2.lt.1
  clear cM hd1 hr1 HR d9 hS hr2
  obtain ⟨u0, u1, u2, u3, u4, u5, u6, u7, u8, u9, u10, u11, u12, u13, u14, u15, u16, u17, u18, u19, u20⟩ := ups21
  go_upto_region 43 with fail
  have hr3 := HR2.out.drew
  have HR3 : Hid _ := hr3
  have HS0 : Hid ((w1.alloc (.cells #[.int .i64 4, .int .i64 0, .int .i64 0, .int .i64 0, .int .i64 0, .int .i64 0, .int .i64 0, .int .u32 0, .int .u32 0] 26)).drew.cell? ⟨X.S, 4, none⟩ = some (.int .i64 σ.v)) := g4
  have HSR : Hid (∀ W, RSt X W σ2 (m, 0, r) 143 → (W.cell? ⟨X.S, 4, none⟩ = some (.int .i64 σ.v))) := fun W hW => by have := hW.c4; rw [HKE.out] at this; exact this
  clear hr3
  go_region_held3 (fun W => (W.cell? ⟨X.S, 4, none⟩ = some (.int .i64 σ.v)))
    (first | with_reducible exact HS0.out | with_reducible exact HSR.out _ st5 | exact HSR.out _ (st6 _))
    (first | (go_at_call 206; refine (HE.out _ HR3.out.st).mono ?_; rintro e w5 ⟨rfl, hd5⟩; have hr5 := RsQ.call HR3.out hd5; have pt5 := hr5.put Hv.out; have st5 : RSt X w5 σ2 (m, 0, r) 143 := hd5.1; have st6 := fun y => (hr5.fin y).1))
  all_goals
    go_wp2
    exact bodyPost_ret (v := _) (res1 rfl _ _ w.heap.size _ rfl (hr5.got Hv.out _)) rfl ⟨rfl, hr5.fin _⟩
theorem group_141 (w : World) (X : Cx) (σ : Sg) (f : Int × Int × Int) (h : RSt X w σ f 141) (hf : σ.fl = none) (hm : ¬ (modrm X σ).1.1 = 3) :
    Calls Tryz.prog 25 #[.pointer (some ⟨X.S, 0, none⟩)] w fun e w' => e = .returned (.agg (insV { Ins.zero with op := 11, size := σ.v, a := regO (modrm X σ).1.2.1 σ.v, b := (pE X σ.v (modrm X σ).2).1 })) ∧ RDn X w (pE X σ.v (modrm X σ).2).2 (modrm X σ).1 141 w' := by
  obtain ⟨T, nI, fsI, psI, hv, Hv, ⟨vl, vs, vb, va, vx⟩, v1, v2, v3, v4, v5, v6, p0, p1, p2, p3, p4, p5, p6, p7, sz, ne⟩ := vlP
  have hr := RsQ.start (T := T) h
  have d9 := h.c9
  have hS := h.ltS
  have cM := rmodrm_ok _ X σ f 141 hr.st hf
  have hfl := rmodrm_fl h hf
  have hkm := (kept_modrm X σ).v
  generalize modrm X σ = Y at *
  obtain ⟨⟨m, k, r⟩, σ1⟩ := Y
  simp only at cM hfl hm hkm ⊢
  have hmb : (m == 3) = false := by simpa using hm
  have HE : Hid (∀ W, RSt X W σ1 (m, k, r) 141 → _) := fun W hW => e_lit W X σ1 (m, k, r) 141 hW hfl.1 hfl.2.1 σ.v
  have hke := (kept_E X σ.v σ1).v
  obtain ⟨⟨o0, o1', o2', o3', o4, o5, o6', o7, o8⟩, σ2, hY⟩ : ∃ o σ2, pE X σ.v σ1 = (o, σ2) := ⟨_, _, rfl⟩
  rw [hY] at HE hke ⊢
  simp only at HE hke ⊢
  have HR : Hid _ := hr
  have HKM : Hid (σ1.v = σ.v) := hkm
  have HKE : Hid (σ2.v = σ.v) := hke.trans hkm
  clear h hv hfl hr hf hY hkm hke
  go_enter Tryz.func25, Tryz.ntmps25
  try simp only [vl, vs, va, vb, vx]
  clear vl vs va vb vx
  go_wp2_with fail
  refine cM.mono ?_; rintro e w1 ⟨rfl, hd1⟩
  have hr1 := HR.out.call hd1
  have c6 := hr1.st.c6
  have c7 := hr1.st.c7
  simp only at c6 c7
  have c4 := hr1.st.c4
  rw [HKM.out] at c4
  have hS1 := hr1.st.ltS
  have hqX : w.heap.size < w1.heap.size := heap_lt hr1.rs
  have hr2 := hr1.no (Kp.alloc noB w1 (.cells #[.int .i64 4, .int .i64 k, .int .i64 0, .int .i64 0, .int .i64 0, .int .i64 0, .int .i64 0, .int .u32 0, .int .u32 0] 26))
  have g4 := hr2.st.c4
  rw [HKM.out] at g4
  have g6 := hr2.st.c6
  have g7 := hr2.st.c7
  simp only at g6 g7
  have hS2 := hr2.st.ltS
  have HR2 : Hid _ := hr2
  have hXS : X.S < w.heap.size := hr2.lt.1
  clear cM hd1 hr1 HR d9 hS hr2
  obtain ⟨u0, u1, u2, u3, u4, u5, u6, u7, u8, u9, u10, u11, u12, u13, u14, u15, u16, u17, u18, u19, u20⟩ := ups21
  go_upto_region 41 with fail
  have hr3 := HR2.out.drew
  have HR3 : Hid _ := hr3
  have HS0 : Hid ((w1.alloc (.cells #[.int .i64 4, .int .i64 k, .int .i64 0, .int .i64 0, .int .i64 0, .int .i64 0, .int .i64 0, .int .u32 0, .int .u32 0] 26)).drew.cell? ⟨X.S, 7, none⟩ = some (.int .i64 k) ∧ (w1.alloc (.cells #[.int .i64 4, .int .i64 k, .int .i64 0, .int .i64 0, .int .i64 0, .int .i64 0, .int .i64 0, .int .u32 0, .int .u32 0] 26)).drew.cell? ⟨X.S, 4, none⟩ = some (.int .i64 σ.v)) := ⟨g7, g4⟩
  have HSA : Hid (((w1.alloc (.cells #[.int .i64 4, .int .i64 k, .int .i64 0, .int .i64 0, .int .i64 0, .int .i64 0, .int .i64 0, .int .u32 0, .int .u32 0] 26)).alloc (.cells #[.int .i64 0, .int .i64 0, .int .i64 0, .int .i64 0, .int .i64 0, .int .i64 0, .int .i64 0, .int .u32 0, .int .u32 0] 26)).drew.cell? ⟨X.S, 7, none⟩ = some (.int .i64 k) ∧ ((w1.alloc (.cells #[.int .i64 4, .int .i64 k, .int .i64 0, .int .i64 0, .int .i64 0, .int .i64 0, .int .i64 0, .int .u32 0, .int .u32 0] 26)).alloc (.cells #[.int .i64 0, .int .i64 0, .int .i64 0, .int .i64 0, .int .i64 0, .int .i64 0, .int .i64 0, .int .u32 0, .int .u32 0] 26)).drew.cell? ⟨X.S, 4, none⟩ = some (.int .i64 σ.v)) := by
    have hh := (HR2.out.no (Kp.alloc noB (w1.alloc (.cells #[.int .i64 4, .int .i64 k, .int .i64 0, .int .i64 0, .int .i64 0, .int .i64 0, .int .i64 0, .int .u32 0, .int .u32 0] 26)) (.cells #[.int .i64 0, .int .i64 0, .int .i64 0, .int .i64 0, .int .i64 0, .int .i64 0, .int .i64 0, .int .u32 0, .int .u32 0] 26))).drew
    exact ⟨hh.st.c7, by have := hh.st.c4; rw [HKM.out] at this; exact this⟩
  have HSR : Hid (∀ W, RSt X W σ1 (m, k, r) 141 → (W.cell? ⟨X.S, 7, none⟩ = some (.int .i64 k) ∧ W.cell? ⟨X.S, 4, none⟩ = some (.int .i64 σ.v))) := fun W hW => ⟨hW.c7, by have := hW.c4; rw [HKM.out] at this; exact this⟩
  have hra := HR3.out
  have hrb := (HR2.out.no (Kp.alloc noB (w1.alloc (.cells #[.int .i64 4, .int .i64 k, .int .i64 0, .int .i64 0, .int .i64 0, .int .i64 0, .int .i64 0, .int .u32 0, .int .u32 0] 26)) (.cells #[.int .i64 0, .int .i64 0, .int .i64 0, .int .i64 0, .int .i64 0, .int .i64 0, .int .i64 0, .int .u32 0, .int .u32 0] 26))).drew
  have hz1 : (w1.alloc (.cells #[.int .i64 4, .int .i64 k, .int .i64 0, .int .i64 0, .int .i64 0, .int .i64 0, .int .i64 0, .int .u32 0, .int .u32 0] 26)).heap.size = w1.heap.size + 1 := by simp
  have HRZ : Hid (∀ W', Kp noB ((w1.alloc (.cells #[.int .i64 4, .int .i64 k, .int .i64 0, .int .i64 0, .int .i64 0, .int .i64 0, .int .i64 0, .int .u32 0, .int .u32 0] 26)).alloc (.cells #[.int .i64 0, .int .i64 0, .int .i64 0, .int .i64 0, .int .i64 0, .int .i64 0, .int .i64 0, .int .u32 0, .int .u32 0] 26)).drew W' → W'.heap[w1.heap.size + 1]? = some (.cells #[.int .i64 0, .int .i64 0, .int .i64 0, .int .i64 0, .int .i64 0, .int .i64 0, .int .i64 0, .int .u32 0, .int .u32 0] 26 (0, 0))) := fun W' kk => by
    have e0 := (MapKept.heap_alloc (w1.alloc (.cells #[.int .i64 4, .int .i64 k, .int .i64 0, .int .i64 0, .int .i64 0, .int .i64 0, .int .i64 0, .int .u32 0, .int .u32 0] 26)) (.cells #[.int .i64 0, .int .i64 0, .int .i64 0, .int .i64 0, .int .i64 0, .int .i64 0, .int .i64 0, .int .u32 0, .int .u32 0] 26)).1
    rw [hz1] at e0
    have e1 : ((w1.alloc (.cells #[.int .i64 4, .int .i64 k, .int .i64 0, .int .i64 0, .int .i64 0, .int .i64 0, .int .i64 0, .int .u32 0, .int .u32 0] 26)).alloc (.cells #[.int .i64 0, .int .i64 0, .int .i64 0, .int .i64 0, .int .i64 0, .int .i64 0, .int .i64 0, .int .u32 0, .int .u32 0] 26)).drew.heap[w1.heap.size + 1]? = some (.cells #[.int .i64 0, .int .i64 0, .int .i64 0, .int .i64 0, .int .i64 0, .int .i64 0, .int .i64 0, .int .u32 0, .int .u32 0] 26 (0, 0)) := e0
    exact heap_kept e1 kk (fun f => f)
  have HRF : Hid (∀ W' : World, W'.heap[w1.heap.size + 1]? = some (.cells #[.int .i64 0, .int .i64 0, .int .i64 0, .int .i64 0, .int .i64 0, .int .i64 0, .int .i64 0, .int .u32 0, .int .u32 0] 26 (0, 0)) → (W'.cell? ⟨w1.heap.size + 1, 0, none⟩ = some (.int .i64 0) ∧ W'.cell? ⟨w1.heap.size + 1, 1, none⟩ = some (.int .i64 0) ∧ W'.cell? ⟨w1.heap.size + 1, 2, none⟩ = some (.int .i64 0) ∧ W'.cell? ⟨w1.heap.size + 1, 3, none⟩ = some (.int .i64 0) ∧ W'.cell? ⟨w1.heap.size + 1, 4, none⟩ = some (.int .i64 0) ∧ W'.cell? ⟨w1.heap.size + 1, 5, none⟩ = some (.int .i64 0) ∧ W'.cell? ⟨w1.heap.size + 1, 6, none⟩ = some (.int .i64 0) ∧ W'.cell? ⟨w1.heap.size + 1, 7, none⟩ = some (.int .u32 0) ∧ W'.cell? ⟨w1.heap.size + 1, 8, none⟩ = some (.int .u32 0)) ∧ ∀ j, W'.frozen? ⟨w1.heap.size + 1, j, none⟩ = false) := fun W' hb => ⟨res_cells (o := Opd.zero) hb, fun j => by simp [World.frozen?, hb]⟩
  clear hr3
  go_region_held3 (fun W => (W.cell? ⟨X.S, 7, none⟩ = some (.int .i64 k) ∧ W.cell? ⟨X.S, 4, none⟩ = some (.int .i64 σ.v)))
    (first | with_reducible exact HS0.out | with_reducible exact HSA.out | with_reducible exact HSR.out _ hr4.st | with_reducible exact HSR.out _ hr9.st | with_reducible exact HSR.out _ (hr4.no (Kp.alloc noB w4 _)).st)
    (first | (go_at_call 207; refine (reg_lit _ k σ.v).mono ?_; rintro e w4 ⟨rfl, k4⟩; (first | ((with_reducible have rz := HRZ.out _ k4); have hr4 := RsQ.no hrb k4; obtain ⟨⟨z0, z1, z2, z3, z4, z5, z6, z7, z8⟩, zf⟩ := HRF.out _ rz; have y0 := zf 0; have y1 := zf 1; have y2 := zf 2; have y3 := zf 3; have y4 := zf 4; have y5 := zf 5; have y6 := zf 6; have y7 := zf 7; have y8 := zf 8; have hr9 := hr4.other (set9_kp w4 (w1.heap.size + 1) (.int .i64 1) (.int .i64 k) (.int .i64 σ.v) (.int .i64 0) (.int .i64 0) (.int .i64 0) (.int .i64 0) (.int .u32 0) (.int .u32 0)) (by omega) (by omega)) | (have hr4 := RsQ.no hra k4; have hra4 := hr4.no (Kp.alloc noB w4 (.cells #[.int .i64 1, .int .i64 k, .int .i64 σ.v, .int .i64 0, .int .i64 0, .int .i64 0, .int .i64 0, .int .u32 0, .int .u32 0] 26))))))
  all_goals
    first
    | (have bG : ((((((((((w4.setCell ⟨w1.heap.size + 1, 0, none⟩ (.int .i64 1)).setCell ⟨w1.heap.size + 1, 1, none⟩ (.int .i64 k)).setCell ⟨w1.heap.size + 1, 2, none⟩ (.int .i64 σ.v)).setCell ⟨w1.heap.size + 1, 3, none⟩ (.int .i64 0)).setCell ⟨w1.heap.size + 1, 4, none⟩ (.int .i64 0)).setCell ⟨w1.heap.size + 1, 5, none⟩ (.int .i64 0)).setCell ⟨w1.heap.size + 1, 6, none⟩ (.int .i64 0)).setCell ⟨w1.heap.size + 1, 7, none⟩ (.int .u32 0)).setCell ⟨w1.heap.size + 1, 8, none⟩ (.int .u32 0))).heap[w1.heap.size + 1]? = some (.cells #[.int .i64 1, .int .i64 k, .int .i64 σ.v, .int .i64 0, .int .i64 0, .int .i64 0, .int .i64 0, .int .u32 0, .int .u32 0] 26 (0, 0)) := set9_heap (o := Opd.zero) rz _ _ _ _ _ _ _ _ _
       have hrG := hr9
       have hqG : w.heap.size < w1.heap.size + 1 := by omega
       obtain ⟨W8, hgen⟩ : ∃ W, W = (((((((((w4.setCell ⟨w1.heap.size + 1, 0, none⟩ (.int .i64 1)).setCell ⟨w1.heap.size + 1, 1, none⟩ (.int .i64 k)).setCell ⟨w1.heap.size + 1, 2, none⟩ (.int .i64 σ.v)).setCell ⟨w1.heap.size + 1, 3, none⟩ (.int .i64 0)).setCell ⟨w1.heap.size + 1, 4, none⟩ (.int .i64 0)).setCell ⟨w1.heap.size + 1, 5, none⟩ (.int .i64 0)).setCell ⟨w1.heap.size + 1, 6, none⟩ (.int .i64 0)).setCell ⟨w1.heap.size + 1, 7, none⟩ (.int .u32 0)).setCell ⟨w1.heap.size + 1, 8, none⟩ (.int .u32 0)) := ⟨_, rfl⟩
       rw [← hgen] at bG hrG ⊢
       obtain ⟨q8, hq8⟩ : ∃ q, q = w1.heap.size + 1 := ⟨_, rfl⟩
       rw [← hq8] at bG hqG ⊢
       clear hgen hq8 rz zf z0 z1 z2 z3 z4 z5 z6 z7 z8 y0 y1 y2 y3 y4 y5 y6 y7 y8 hr9 hr4)
    | (have bG : (w4.alloc (.cells #[.int .i64 1, .int .i64 k, .int .i64 σ.v, .int .i64 0, .int .i64 0, .int .i64 0, .int .i64 0, .int .u32 0, .int .u32 0] 26)).heap[w4.heap.size]? = some (.cells #[.int .i64 1, .int .i64 k, .int .i64 σ.v, .int .i64 0, .int .i64 0, .int .i64 0, .int .i64 0, .int .u32 0, .int .u32 0] 26 (0, 0)) := (MapKept.heap_alloc w4 _).1
       have hrG := hra4
       have hqG : w.heap.size < w4.heap.size := heap_lt hr4.rs
       obtain ⟨W8, hgen⟩ : ∃ W, W = w4.alloc (.cells #[.int .i64 1, .int .i64 k, .int .i64 σ.v, .int .i64 0, .int .i64 0, .int .i64 0, .int .i64 0, .int .u32 0, .int .u32 0] 26) := ⟨_, rfl⟩
       rw [← hgen] at bG hrG ⊢
       obtain ⟨q8, hq8⟩ : ∃ q, q = w4.heap.size := ⟨_, rfl⟩
       rw [← hq8] at bG hqG ⊢
       clear hgen hq8 hra4 hr4)
    clear HS0 HSA HRZ HRF hra hrb k4
    have hrX := hrG.drew
    have HRX : Hid _ := hrX
    have T0 : Hid ((W8.drew.cell? ⟨X.S, 4, none⟩ = some (.int .i64 σ.v)) ∧ (W8.drew.cell? ⟨q8, 0, none⟩ = some (.int .i64 1) ∧ W8.drew.cell? ⟨q8, 1, none⟩ = some (.int .i64 k) ∧ W8.drew.cell? ⟨q8, 2, none⟩ = some (.int .i64 σ.v) ∧ W8.drew.cell? ⟨q8, 3, none⟩ = some (.int .i64 0) ∧ W8.drew.cell? ⟨q8, 4, none⟩ = some (.int .i64 0) ∧ W8.drew.cell? ⟨q8, 5, none⟩ = some (.int .i64 0) ∧ W8.drew.cell? ⟨q8, 6, none⟩ = some (.int .i64 0) ∧ W8.drew.cell? ⟨q8, 7, none⟩ = some (.int .u32 0) ∧ W8.drew.cell? ⟨q8, 8, none⟩ = some (.int .u32 0))) := ⟨by have := hrX.st.c4; rw [HKM.out] at this; exact this, res_cells (o := regO k σ.v) bG⟩
    have TK : Hid (∀ (S : Nat → Prop) W W', Kp S W W' → ¬ S q8 → RSt X W' σ2 (m, k, r) 141 → W.heap[q8]? = some (.cells #[.int .i64 1, .int .i64 k, .int .i64 σ.v, .int .i64 0, .int .i64 0, .int .i64 0, .int .i64 0, .int .u32 0, .int .u32 0] 26 (0, 0)) → ((W'.cell? ⟨X.S, 4, none⟩ = some (.int .i64 σ.v)) ∧ (W'.cell? ⟨q8, 0, none⟩ = some (.int .i64 1) ∧ W'.cell? ⟨q8, 1, none⟩ = some (.int .i64 k) ∧ W'.cell? ⟨q8, 2, none⟩ = some (.int .i64 σ.v) ∧ W'.cell? ⟨q8, 3, none⟩ = some (.int .i64 0) ∧ W'.cell? ⟨q8, 4, none⟩ = some (.int .i64 0) ∧ W'.cell? ⟨q8, 5, none⟩ = some (.int .i64 0) ∧ W'.cell? ⟨q8, 6, none⟩ = some (.int .i64 0) ∧ W'.cell? ⟨q8, 7, none⟩ = some (.int .u32 0) ∧ W'.cell? ⟨q8, 8, none⟩ = some (.int .u32 0))) ∧ W'.heap[q8]? = some (.cells #[.int .i64 1, .int .i64 k, .int .i64 σ.v, .int .i64 0, .int .i64 0, .int .i64 0, .int .i64 0, .int .u32 0, .int .u32 0] 26 (0, 0))) := fun S W W' kk hn hst hb => ⟨⟨by have := hst.c4; rw [HKE.out] at this; exact this, res_cells (o := regO k σ.v) (heap_kept hb kk hn)⟩, heap_kept hb kk hn⟩
    have HBG : Hid (W8.drew.heap[q8]? = some (.cells #[.int .i64 1, .int .i64 k, .int .i64 σ.v, .int .i64 0, .int .i64 0, .int .i64 0, .int .i64 0, .int .u32 0, .int .u32 0] 26 (0, 0))) := bG
    have hS8 := hrG.st.ltS
    have i4 := hrG.st.c4
    rw [HKM.out] at i4
    clear hrX hrG bG
    go_wp2
    go_region_held3 (fun W => (W.cell? ⟨X.S, 4, none⟩ = some (.int .i64 σ.v)) ∧ (W.cell? ⟨q8, 0, none⟩ = some (.int .i64 1) ∧ W.cell? ⟨q8, 1, none⟩ = some (.int .i64 k) ∧ W.cell? ⟨q8, 2, none⟩ = some (.int .i64 σ.v) ∧ W.cell? ⟨q8, 3, none⟩ = some (.int .i64 0) ∧ W.cell? ⟨q8, 4, none⟩ = some (.int .i64 0) ∧ W.cell? ⟨q8, 5, none⟩ = some (.int .i64 0) ∧ W.cell? ⟨q8, 6, none⟩ = some (.int .i64 0) ∧ W.cell? ⟨q8, 7, none⟩ = some (.int .u32 0) ∧ W.cell? ⟨q8, 8, none⟩ = some (.int .u32 0)))
      (first | with_reducible exact T0.out | with_reducible exact s5.1 | exact (s6 _).1)
      (first | (go_at_call 206; refine (HE.out _ HRX.out.st).mono ?_; rintro e w5 ⟨rfl, hd5⟩; have hr5 := RsQ.call HRX.out hd5; have pt5 := hr5.put Hv.out; have s5 := TK.out _ _ _ hd5.2 (by show ¬ q8 = X.S; omega) hd5.1 HBG.out; have s6 := fun y => TK.out _ _ (w5.setRow w.heap.size (insV y)) (Kp.setRow (S := fun j => j = w.heap.size) w5 rfl _) (by show ¬ q8 = w.heap.size; omega) (hr5.fin y).1 s5.2))
  all_goals
    go_wp2
    exact bodyPost_ret (v := _) (res1 rfl _ _ w.heap.size _ rfl (RsQ.got Hv.out (by assumption) _)) rfl ⟨rfl, RsQ.fin (by assumption) _⟩
end Go.Proofs.YtbfccfhjgopnbaaGreat
namespace Go.Proofs.YtbfccfhjgopnbaaGreat
open Go.ChangeShapes Go.WideShapes Go.ChangeAt Go.RowKit
set_option linter.unusedVariables false
set_option linter.unusedSimpArgs false
set_option maxHeartbeats 4000000
set_option maxRecDepth 20000
theorem jumps_234 (w : World) (X : Cx) (σ : Sg) (f : Int × Int × Int) (h : RSt X w σ f 234) :
    Calls Tryz.prog 29 #[.pointer (some ⟨X.S, 0, none⟩)] w fun e w' => e = .returned (.agg (insV { Ins.zero with op := 34, size := σ.v, a := farO (bytesM X σ.v σ).1 (bytesM X 2 (bytesM X σ.v σ).2).1 })) ∧ RDn X w (bytesM X 2 (bytesM X σ.v σ).2).2 f 234 w' := by
  obtain ⟨T, nI, fsI, psI, hv, Hv, ⟨vl, vs, vb, va, vx⟩, v1, v2, v3, v4, v5, v6, p0, p1, p2, p3, p4, p5, p6, p7, sz, ne⟩ := vlP
  have hr := RsQ.start (T := T) h
  have hS := h.ltS
  have c4 := h.c4
  have c9 := h.c9
  have Hvs : σ.v = 1 ∨ σ.v = 2 ∨ σ.v = 4 := Or.inr h.vv
  have hv1 : (bytesM X σ.v σ).2.v = σ.v := bytesM_v X σ.v σ
  have hv2 : (bytesM X 2 (bytesM X σ.v σ).2).2.v = σ.v := (bytesM_v X 2 _).trans hv1
  have HN1 : Hid (∀ W, RSt X W σ f 234 → Calls Tryz.prog 211 #[.pointer (some ⟨X.S, 0, none⟩), .int .i64 σ.v] W fun e w' => e = .returned (.int .u32 (bytesM X σ.v σ).1) ∧ RDn X W (bytesM X σ.v σ).2 f 234 w') := fun W hW => num_okR W X σ f 234 hW σ.v Hvs
  have HN2 : Hid (∀ W, RSt X W (bytesM X σ.v σ).2 f 234 → Calls Tryz.prog 211 #[.pointer (some ⟨X.S, 0, none⟩), .int .i64 2] W fun e w' => e = .returned (.int .u32 (bytesM X 2 (bytesM X σ.v σ).2).1) ∧ RDn X W (bytesM X 2 (bytesM X σ.v σ).2).2 f 234 w') := fun W hW => num_okR W X _ f 234 hW 2 (by decide)
  obtain ⟨n2, σ2, hB2⟩ : ∃ n σ3, bytesM X 2 (bytesM X σ.v σ).2 = (n, σ3) := ⟨_, _, rfl⟩
  rw [hB2] at HN2 hv2 ⊢
  obtain ⟨n1, σ1, hB1⟩ : ∃ n σ3, bytesM X σ.v σ = (n, σ3) := ⟨_, _, rfl⟩
  rw [hB1] at HN1 HN2 ⊢
  simp only at HN1 HN2 hv2 ⊢
  have HR : Hid _ := hr
  have HV2 : Hid (σ2.v = σ.v) := hv2
  clear h hv hr hB1 hB2 hv1 hv2 Hvs
  go_enter Tryz.func29, Tryz.ntmps29
  try simp only [vl, vs, va, vb, vx]
  clear vl vs va vb vx
  obtain ⟨u0, u1, u2, u3, u4, u5, u6, u7, u8, u9, u10, u11⟩ := ups12
  go_wp2_with fail
  refine (HN1.out _ HR.out.st).mono ?_; rintro e w1 ⟨rfl, hd1⟩
  have hr1 := HR.out.call hd1
  have bO := (MapKept.heap_alloc w1 (.cells #[.int .i64 7, .int .i64 0, .int .i64 0, .int .i64 0, .int .i64 0, .int .i64 0, .int .i64 0, .int .u32 0, .int .u32 n1] 26)).1
  have hr2 := hr1.no (Kp.alloc noB w1 (.cells #[.int .i64 7, .int .i64 0, .int .i64 0, .int .i64 0, .int .i64 0, .int .i64 0, .int .i64 0, .int .u32 0, .int .u32 n1] 26))
  have hq1 : w.heap.size < w1.heap.size := heap_lt hr1.rs
  obtain ⟨q1, hq⟩ : ∃ q, q = w1.heap.size := ⟨_, rfl⟩
  rw [← hq] at bO hq1
  have HQ1 : Hid (w1.heap.size = q1) := hq.symm
  have HR2 : Hid _ := hr2
  clear hr1 hr2 hd1 hq HR HN1 c4 c9
  go_wp2_with fail
  refine (HN2.out _ HR2.out.st).mono ?_; rintro e w2 ⟨rfl, hd2⟩
  rw [HQ1.out]
  have hr3 := HR2.out.call hd2
  replace bO := heap_kept bO hd2.2 (by show ¬ q1 = X.S; omega)
  have z7 : w2.cell? ⟨q1, 7, none⟩ = some (.int .u32 0) := by simp [World.cell?, bO]
  have y7 : w2.frozen? ⟨q1, 7, none⟩ = false := by simp [World.frozen?, bO]
  have HR3 : Hid _ := hr3
  have HBO : Hid _ := bO
  clear hr3 hd2 HR2 HN2 bO
  go_upto_region 44 with fail
  have kk : Kp (fun j => j = q1) w2 (w2.setCell ⟨q1, 7, none⟩ (.int .u32 n2)) := Kp.setCell (S := fun j => j = q1) w2 (p := ⟨q1, 7, none⟩) rfl _
  have hr4 := (HR3.out.other kk (by omega) (by omega)).drew
  have bO := heap_set (k := 7) (v := .int .u32 n2) HBO.out
  clear z7 y7 HR3 HBO kk
  obtain ⟨w5, hgen⟩ : ∃ W, W = w2.setCell ⟨q1, 7, none⟩ (.int .u32 n2) := ⟨_, rfl⟩
  rw [← hgen] at hr4 bO ⊢
  clear hgen
  have x0 : w5.cell? ⟨q1, 0, none⟩ = some (.int .i64 7) := by simp [World.cell?, bO]
  have x1 : w5.cell? ⟨q1, 1, none⟩ = some (.int .i64 0) := by simp [World.cell?, bO]
  have x2 : w5.cell? ⟨q1, 2, none⟩ = some (.int .i64 0) := by simp [World.cell?, bO]
  have x3 : w5.cell? ⟨q1, 3, none⟩ = some (.int .i64 0) := by simp [World.cell?, bO]
  have x4 : w5.cell? ⟨q1, 4, none⟩ = some (.int .i64 0) := by simp [World.cell?, bO]
  have x5 : w5.cell? ⟨q1, 5, none⟩ = some (.int .i64 0) := by simp [World.cell?, bO]
  have x6 : w5.cell? ⟨q1, 6, none⟩ = some (.int .i64 0) := by simp [World.cell?, bO]
  have x7 : w5.cell? ⟨q1, 7, none⟩ = some (.int .u32 n2) := by simp [World.cell?, bO]
  have x8 : w5.cell? ⟨q1, 8, none⟩ = some (.int .u32 n1) := by simp [World.cell?, bO]
  have c4 : w5.cell? ⟨X.S, 4, none⟩ = some (.int .i64 σ.v) := by have := hr4.st.c4; rw [HV2.out] at this; exact this
  have pt := hr4.put Hv.out
  have HR4 : Hid _ := hr4
  clear hr4 bO
  go_wp2
  go_region
  all_goals
    go_wp2
    exact bodyPost_ret (v := _) (res1 rfl _ _ w.heap.size _ rfl (HR4.out.got Hv.out _)) rfl ⟨rfl, HR4.out.fin _⟩
theorem jumps_198u (w : World) (X : Cx) (σ : Sg) (f : Int × Int × Int) (h : RSt X w σ f 198) (hf : σ.fl = none) (hm0 : ¬ (modrm X σ).1.2.1 = 0) :
    Calls Tryz.prog 29 #[.pointer (some ⟨X.S, 0, none⟩)] w fun e w' => e = .returned (.agg (insV Ins.zero)) ∧ RDn X w (refuse (modrm X σ).2) (modrm X σ).1 198 w' := by
  obtain ⟨T, nI, fsI, psI, hv, Hv, ⟨vl, vs, vb, va, vx⟩, v1, v2, v3, v4, v5, v6, p0, p1, p2, p3, p4, p5, p6, p7, sz, ne⟩ := vlP
  have hr := RsQ.start (T := T) h
  have hS := h.ltS
  have c9 := h.c9
  have cS := rsize_ok _ X σ f 198 hr.st (by decide)
  have cM := rmodrm_ok _ X σ f 198 hr.st hf
  generalize modrm X σ = Y at *
  obtain ⟨⟨m, k, r⟩, σ1⟩ := Y
  simp only at cM hm0 ⊢
  have hm1 : (k != 0) = true := by simpa using hm0
  have Hr : Hid _ := hr
  clear h hv hf
  go_enter Tryz.func29, Tryz.ntmps29
  try simp only [vl, vs, va, vb, vx]
  clear vl vs va vb vx
  go_wp2_with fail
  refine cS.mono ?_; rintro e wn ⟨rfl, rfl⟩
  go_wp2_with fail
  refine cM.mono ?_; rintro e w1 ⟨rfl, hd1⟩
  have hr1 := Hr.out.call hd1
  have c71 := hr1.st.c7
  simp only at c71
  have cU := ud_ok _ X σ1 _ 198 hr1.st
  have Hr1 : Hid _ := hr1
  clear hd1 cM cS hr1
  go_wp2_with fail
  refine cU.mono ?_; rintro e w2 ⟨rfl, hd2⟩
  have hr2 := Hr1.out.call hd2
  have p2' := hr2.put Hv.out
  have Hr2 : Hid _ := hr2
  clear hr2 hd2 cU Hr1
  go_wp2
  exact bodyPost_ret (v := _) (res1 rfl _ _ w.heap.size _ rfl (Hr2.out.got Hv.out _)) rfl ⟨rfl, Hr2.out.fin _⟩
theorem jumps_199u (w : World) (X : Cx) (σ : Sg) (f : Int × Int × Int) (h : RSt X w σ f 199) (hf : σ.fl = none) (hm0 : ¬ (modrm X σ).1.2.1 = 0) :
    Calls Tryz.prog 29 #[.pointer (some ⟨X.S, 0, none⟩)] w fun e w' => e = .returned (.agg (insV Ins.zero)) ∧ RDn X w (refuse (modrm X σ).2) (modrm X σ).1 199 w' := by
  obtain ⟨T, nI, fsI, psI, hv, Hv, ⟨vl, vs, vb, va, vx⟩, v1, v2, v3, v4, v5, v6, p0, p1, p2, p3, p4, p5, p6, p7, sz, ne⟩ := vlP
  have hr := RsQ.start (T := T) h
  have hS := h.ltS
  have c9 := h.c9
  have cS := rsize_ok _ X σ f 199 hr.st (by decide)
  have cM := rmodrm_ok _ X σ f 199 hr.st hf
  generalize modrm X σ = Y at *
  obtain ⟨⟨m, k, r⟩, σ1⟩ := Y
  simp only at cM hm0 ⊢
  have hm1 : (k != 0) = true := by simpa using hm0
  have Hr : Hid _ := hr
  clear h hv hf
  go_enter Tryz.func29, Tryz.ntmps29
  try simp only [vl, vs, va, vb, vx]
  clear vl vs va vb vx
  go_wp2_with fail
  refine cS.mono ?_; rintro e wn ⟨rfl, rfl⟩
  go_wp2_with fail
  refine cM.mono ?_; rintro e w1 ⟨rfl, hd1⟩
  have hr1 := Hr.out.call hd1
  have c71 := hr1.st.c7
  simp only at c71
  have cU := ud_ok _ X σ1 _ 199 hr1.st
  have Hr1 : Hid _ := hr1
  clear hd1 cM cS hr1
  go_wp2_with fail
  refine cU.mono ?_; rintro e w2 ⟨rfl, hd2⟩
  have hr2 := Hr1.out.call hd2
  have p2' := hr2.put Hv.out
  have Hr2 : Hid _ := hr2
  clear hr2 hd2 cU Hr1
  go_wp2
  exact bodyPost_ret (v := _) (res1 rfl _ _ w.heap.size _ rfl (Hr2.out.got Hv.out _)) rfl ⟨rfl, Hr2.out.fin _⟩
end Go.Proofs.YtbfccfhjgopnbaaGreat
