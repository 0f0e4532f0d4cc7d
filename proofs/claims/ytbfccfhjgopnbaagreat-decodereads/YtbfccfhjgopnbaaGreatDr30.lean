/- The document's reader, and the code's (RfGrp). -/
import Derived.Test.YtbfccfhjgopnbaaGreatDr26
import Derived.Test.YtbfccfhjgopnbaaGreatDr12
set_option linter.unusedSimpArgs false
namespace Go.Proofs.YtbfccfhjgopnbaaGreat
open Go.ChangeShapes Go.WideShapes Go.ChangeAt Go.RowKit
set_option linter.unusedVariables false
set_option linter.unusedSimpArgs false
set_option maxHeartbeats 4000000
set_option maxRecDepth 20000
theorem group_140_u (w : World) (X : Cx) (σ : Sg) (f : Int × Int × Int) (h : RSt X w σ f 140) (hf : σ.fl = none) (hm : (modrm X σ).1.2.1 = 6 ∨ (modrm X σ).1.2.1 = 7) :
    Calls Tryz.prog 25 #[.pointer (some ⟨X.S, 0, none⟩)] w fun e w' => e = .returned (.agg (insV Ins.zero)) ∧ RDn X w (refuse (modrm X σ).2) (modrm X σ).1 140 w' := by
  rcases hm with hm | hm
  all_goals
    obtain ⟨T, nI, fsI, psI, hv, Hv, ⟨vl, vs, vb, va, vx⟩, v1, v2, v3, v4, v5, v6, p0, p1, p2, p3, p4, p5, p6, p7, sz, ne⟩ := vlP
    have hr := RsQ.start (T := T) h
    have hS := h.ltS
    have c9 := h.c9
    skip
    have cM := rmodrm_ok _ X σ f 140 hr.st hf
    generalize modrm X σ = Y at *
    obtain ⟨⟨m, k, r⟩, σ1⟩ := Y
    simp only at cM hm ⊢
    subst hm
    have Hr : Hid _ := hr
    clear h hv hf
    go_enter Tryz.func25, Tryz.ntmps25
    try simp only [vl, vs, va, vb, vx]
    clear vl vs va vb vx
    go_wp2_with fail
    refine cM.mono ?_; rintro e w1 ⟨rfl, hd1⟩
    have hr1 := Hr.out.call hd1
    have c71 := hr1.st.c7
    have c61 := hr1.st.c6
    simp only at c71 c61
    have hS1 := hr1.st.ltS
    have hrA := fun o => RsQ.no hr1 (Kp.alloc noB _ o)
    have Hr1 : Hid _ := hr1
    clear hd1 cM hr1
    go_wp2_with (go_at_call 31; refine (ud_ok _ X σ1 _ 140 (RsQ.st (by first | exact Hr1.out | exact hrA _))).mono ?_; rintro e w2 ⟨rfl, hd2⟩; have hr2 := RsQ.call (by first | exact Hr1.out | exact hrA _) hd2; have p2' := hr2.put Hv.out)
    exact bodyPost_ret (v := _) (res1 rfl _ _ w.heap.size _ rfl (RsQ.got Hv.out (by assumption) _)) rfl ⟨rfl, RsQ.fin (by assumption) _⟩
theorem group_142_u (w : World) (X : Cx) (σ : Sg) (f : Int × Int × Int) (h : RSt X w σ f 142) (hf : σ.fl = none) (hm : (modrm X σ).1.2.1 = 1 ∨ (modrm X σ).1.2.1 = 6 ∨ (modrm X σ).1.2.1 = 7) :
    Calls Tryz.prog 25 #[.pointer (some ⟨X.S, 0, none⟩)] w fun e w' => e = .returned (.agg (insV Ins.zero)) ∧ RDn X w (refuse (modrm X σ).2) (modrm X σ).1 142 w' := by
  rcases hm with hm | hm | hm
  all_goals
    obtain ⟨T, nI, fsI, psI, hv, Hv, ⟨vl, vs, vb, va, vx⟩, v1, v2, v3, v4, v5, v6, p0, p1, p2, p3, p4, p5, p6, p7, sz, ne⟩ := vlP
    have hr := RsQ.start (T := T) h
    have hS := h.ltS
    have c9 := h.c9
    skip
    have cM := rmodrm_ok _ X σ f 142 hr.st hf
    generalize modrm X σ = Y at *
    obtain ⟨⟨m, k, r⟩, σ1⟩ := Y
    simp only at cM hm ⊢
    subst hm
    have Hr : Hid _ := hr
    clear h hv hf
    go_enter Tryz.func25, Tryz.ntmps25
    try simp only [vl, vs, va, vb, vx]
    clear vl vs va vb vx
    go_wp2_with fail
    refine cM.mono ?_; rintro e w1 ⟨rfl, hd1⟩
    have hr1 := Hr.out.call hd1
    have c71 := hr1.st.c7
    have c61 := hr1.st.c6
    simp only at c71 c61
    have hS1 := hr1.st.ltS
    have hrA := fun o => RsQ.no hr1 (Kp.alloc noB _ o)
    have Hr1 : Hid _ := hr1
    clear hd1 cM hr1
    go_wp2_with (go_at_call 31; refine (ud_ok _ X σ1 _ 142 (RsQ.st (by first | exact Hr1.out | exact hrA _))).mono ?_; rintro e w2 ⟨rfl, hd2⟩; have hr2 := RsQ.call (by first | exact Hr1.out | exact hrA _) hd2; have p2' := hr2.put Hv.out)
    exact bodyPost_ret (v := _) (res1 rfl _ _ w.heap.size _ rfl (RsQ.got Hv.out (by assumption) _)) rfl ⟨rfl, RsQ.fin (by assumption) _⟩
theorem group_143_u (w : World) (X : Cx) (σ : Sg) (f : Int × Int × Int) (h : RSt X w σ f 143) (hf : σ.fl = none) (hm : (modrm X σ).1.2.1 = 1 ∨ (modrm X σ).1.2.1 = 2 ∨ (modrm X σ).1.2.1 = 3 ∨ (modrm X σ).1.2.1 = 4 ∨ (modrm X σ).1.2.1 = 5 ∨ (modrm X σ).1.2.1 = 6 ∨ (modrm X σ).1.2.1 = 7) :
    Calls Tryz.prog 25 #[.pointer (some ⟨X.S, 0, none⟩)] w fun e w' => e = .returned (.agg (insV Ins.zero)) ∧ RDn X w (refuse (modrm X σ).2) (modrm X σ).1 143 w' := by
  rcases hm with hm | hm | hm | hm | hm | hm | hm
  all_goals
    obtain ⟨T, nI, fsI, psI, hv, Hv, ⟨vl, vs, vb, va, vx⟩, v1, v2, v3, v4, v5, v6, p0, p1, p2, p3, p4, p5, p6, p7, sz, ne⟩ := vlP
    have hr := RsQ.start (T := T) h
    have hS := h.ltS
    have c9 := h.c9
    skip
    have cM := rmodrm_ok _ X σ f 143 hr.st hf
    generalize modrm X σ = Y at *
    obtain ⟨⟨m, k, r⟩, σ1⟩ := Y
    simp only at cM hm ⊢
    subst hm
    have Hr : Hid _ := hr
    clear h hv hf
    go_enter Tryz.func25, Tryz.ntmps25
    try simp only [vl, vs, va, vb, vx]
    clear vl vs va vb vx
    go_wp2_with fail
    refine cM.mono ?_; rintro e w1 ⟨rfl, hd1⟩
    have hr1 := Hr.out.call hd1
    have c71 := hr1.st.c7
    have c61 := hr1.st.c6
    simp only at c71 c61
    have hS1 := hr1.st.ltS
    have hrA := fun o => RsQ.no hr1 (Kp.alloc noB _ o)
    have Hr1 : Hid _ := hr1
    clear hd1 cM hr1
    go_wp2_with (go_at_call 31; refine (ud_ok _ X σ1 _ 143 (RsQ.st (by first | exact Hr1.out | exact hrA _))).mono ?_; rintro e w2 ⟨rfl, hd2⟩; have hr2 := RsQ.call (by first | exact Hr1.out | exact hrA _) hd2; have p2' := hr2.put Hv.out)
    exact bodyPost_ret (v := _) (res1 rfl _ _ w.heap.size _ rfl (RsQ.got Hv.out (by assumption) _)) rfl ⟨rfl, RsQ.fin (by assumption) _⟩
theorem group_141_3 (w : World) (X : Cx) (σ : Sg) (f : Int × Int × Int) (h : RSt X w σ f 141) (hf : σ.fl = none) (hm : (modrm X σ).1.1 = 3) :
    Calls Tryz.prog 25 #[.pointer (some ⟨X.S, 0, none⟩)] w fun e w' => e = .returned (.agg (insV Ins.zero)) ∧ RDn X w (refuse (modrm X σ).2) (modrm X σ).1 141 w' := by
  obtain ⟨T, nI, fsI, psI, hv, Hv, ⟨vl, vs, vb, va, vx⟩, v1, v2, v3, v4, v5, v6, p0, p1, p2, p3, p4, p5, p6, p7, sz, ne⟩ := vlP
  have hr := RsQ.start (T := T) h
  have hS := h.ltS
  have c9 := h.c9
  skip
  have cM := rmodrm_ok _ X σ f 141 hr.st hf
  generalize modrm X σ = Y at *
  obtain ⟨⟨m, k, r⟩, σ1⟩ := Y
  simp only at cM hm ⊢
  subst hm
  have Hr : Hid _ := hr
  clear h hv hf
  go_enter Tryz.func25, Tryz.ntmps25
  try simp only [vl, vs, va, vb, vx]
  clear vl vs va vb vx
  go_wp2_with fail
  refine cM.mono ?_; rintro e w1 ⟨rfl, hd1⟩
  have hr1 := Hr.out.call hd1
  have c71 := hr1.st.c7
  have c61 := hr1.st.c6
  simp only at c71 c61
  have hS1 := hr1.st.ltS
  have hrA := fun o => RsQ.no hr1 (Kp.alloc noB _ o)
  have Hr1 : Hid _ := hr1
  clear hd1 cM hr1
  go_wp2_with (go_at_call 31; refine (ud_ok _ X σ1 _ 141 (RsQ.st (by first | exact Hr1.out | exact hrA _))).mono ?_; rintro e w2 ⟨rfl, hd2⟩; have hr2 := RsQ.call (by first | exact Hr1.out | exact hrA _) hd2; have p2' := hr2.put Hv.out)
  exact bodyPost_ret (v := _) (res1 rfl _ _ w.heap.size _ rfl (RsQ.got Hv.out (by assumption) _)) rfl ⟨rfl, RsQ.fin (by assumption) _⟩
theorem group_140_r (w : World) (X : Cx) (σ : Sg) (f : Int × Int × Int) (h : RSt X w σ f 140) (hf : σ.fl = none) (hm : (modrm X σ).1.2.1 < 6) (hmod : (modrm X σ).1.1 = 3) :
    Calls Tryz.prog 25 #[.pointer (some ⟨X.S, 0, none⟩)] w fun e w' => e = .returned (.agg (insV { Ins.zero with op := 8, size := σ.v, a := (pE X σ.v (modrm X σ).2).1, b := segO (modrm X σ).1.2.1 })) ∧ RDn X w (pE X σ.v (modrm X σ).2).2 (modrm X σ).1 140 w' := by
  obtain ⟨T, nI, fsI, psI, hv, Hv, ⟨vl, vs, vb, va, vx⟩, v1, v2, v3, v4, v5, v6, p0, p1, p2, p3, p4, p5, p6, p7, sz, ne⟩ := vlP
  have hr := RsQ.start (T := T) h
  have d9 := h.c9
  have hS := h.ltS
  have cM := rmodrm_ok _ X σ f 140 hr.st hf
  have hfl := rmodrm_fl h hf
  have hkm := (kept_modrm X σ).v
  generalize modrm X σ = Y at *
  obtain ⟨⟨m, k, r⟩, σ1⟩ := Y
  simp only at cM hfl hm hkm hmod ⊢
  have hk5 : ¬ 5 < k := by omega
  have hk5b : decide (5 < k) = false := decide_eq_false hk5
  subst hmod
  have HE : Hid (∀ W, RSt X W σ1 (3, k, r) 140 → _) := fun W hW => e_lit W X σ1 (3, k, r) 140 hW hfl.1 hfl.2.1 σ.v
  obtain ⟨⟨o0, o1', o2', o3', o4, o5, o6', o7, o8⟩, σ2, hY⟩ : ∃ o σ2, pE X σ.v σ1 = (o, σ2) := ⟨_, _, rfl⟩
  rw [hY] at HE ⊢
  simp only at HE ⊢
  have HR : Hid _ := hr
  have HKM : Hid (σ1.v = σ.v) := hkm
  clear h hv hfl hr hf hY hkm
  go_enter Tryz.func25, Tryz.ntmps25
  try simp only [vl, vs, va, vb, vx]
  clear vl vs va vb vx
  go_wp2_with fail
  refine cM.mono ?_; rintro e w1 ⟨rfl, hd1⟩
  have hr1 := HR.out.call hd1
  have c6 := hr1.st.c6
  have c7 := hr1.st.c7
  simp only at c6 c7
  have c4 := hr1.st.c4
  rw [HKM.out] at c4
  have hS1 := hr1.st.ltS
  have hqX : w.heap.size < w1.heap.size := heap_lt hr1.rs
  have bS := (MapKept.heap_alloc w1 (.cells #[.int .i64 4, .int .i64 k, .int .i64 0, .int .i64 0, .int .i64 0, .int .i64 0, .int .i64 0, .int .u32 0, .int .u32 0] 26)).1
  have hr2 := hr1.no (Kp.alloc noB w1 (.cells #[.int .i64 4, .int .i64 k, .int .i64 0, .int .i64 0, .int .i64 0, .int .i64 0, .int .i64 0, .int .u32 0, .int .u32 0] 26))
  have g4 := hr2.st.c4
  rw [HKM.out] at g4
  have g6 := hr2.st.c6
  have g7 := hr2.st.c7
  simp only at g6 g7
  have HR2 : Hid _ := hr2
  clear cM hd1 hr1 HR d9 hS hr2
  obtain ⟨u0, u1, u2, u3, u4, u5, u6, u7, u8, u9, u10, u11, u12, u13, u14, u15, u16, u17, u18, u19, u20⟩ := ups21
  go_upto_region 37 with fail
  have hr3 := HR2.out.drew
  have pt3 := hr3.put Hv.out
  have HR3 : Hid _ := hr3
  have HS0 : Hid ((w1.alloc (.cells #[.int .i64 4, .int .i64 k, .int .i64 0, .int .i64 0, .int .i64 0, .int .i64 0, .int .i64 0, .int .u32 0, .int .u32 0] 26)).drew.cell? ⟨w1.heap.size, 0, none⟩ = some (.int .i64 4) ∧ (w1.alloc (.cells #[.int .i64 4, .int .i64 k, .int .i64 0, .int .i64 0, .int .i64 0, .int .i64 0, .int .i64 0, .int .u32 0, .int .u32 0] 26)).drew.cell? ⟨w1.heap.size, 1, none⟩ = some (.int .i64 k) ∧ (w1.alloc (.cells #[.int .i64 4, .int .i64 k, .int .i64 0, .int .i64 0, .int .i64 0, .int .i64 0, .int .i64 0, .int .u32 0, .int .u32 0] 26)).drew.cell? ⟨w1.heap.size, 2, none⟩ = some (.int .i64 0) ∧ (w1.alloc (.cells #[.int .i64 4, .int .i64 k, .int .i64 0, .int .i64 0, .int .i64 0, .int .i64 0, .int .i64 0, .int .u32 0, .int .u32 0] 26)).drew.cell? ⟨w1.heap.size, 3, none⟩ = some (.int .i64 0) ∧ (w1.alloc (.cells #[.int .i64 4, .int .i64 k, .int .i64 0, .int .i64 0, .int .i64 0, .int .i64 0, .int .i64 0, .int .u32 0, .int .u32 0] 26)).drew.cell? ⟨w1.heap.size, 4, none⟩ = some (.int .i64 0) ∧ (w1.alloc (.cells #[.int .i64 4, .int .i64 k, .int .i64 0, .int .i64 0, .int .i64 0, .int .i64 0, .int .i64 0, .int .u32 0, .int .u32 0] 26)).drew.cell? ⟨w1.heap.size, 5, none⟩ = some (.int .i64 0) ∧ (w1.alloc (.cells #[.int .i64 4, .int .i64 k, .int .i64 0, .int .i64 0, .int .i64 0, .int .i64 0, .int .i64 0, .int .u32 0, .int .u32 0] 26)).drew.cell? ⟨w1.heap.size, 6, none⟩ = some (.int .i64 0) ∧ (w1.alloc (.cells #[.int .i64 4, .int .i64 k, .int .i64 0, .int .i64 0, .int .i64 0, .int .i64 0, .int .i64 0, .int .u32 0, .int .u32 0] 26)).drew.cell? ⟨w1.heap.size, 7, none⟩ = some (.int .u32 0) ∧ (w1.alloc (.cells #[.int .i64 4, .int .i64 k, .int .i64 0, .int .i64 0, .int .i64 0, .int .i64 0, .int .i64 0, .int .u32 0, .int .u32 0] 26)).drew.cell? ⟨w1.heap.size, 8, none⟩ = some (.int .u32 0)) := res_cells (o := segO k) bS
  have HSK : Hid (∀ (S : Nat → Prop) W W', Kp S W W' → ¬ S w1.heap.size → W.heap[w1.heap.size]? = some (.cells #[.int .i64 4, .int .i64 k, .int .i64 0, .int .i64 0, .int .i64 0, .int .i64 0, .int .i64 0, .int .u32 0, .int .u32 0] 26 (0, 0)) → (W'.cell? ⟨w1.heap.size, 0, none⟩ = some (.int .i64 4) ∧ W'.cell? ⟨w1.heap.size, 1, none⟩ = some (.int .i64 k) ∧ W'.cell? ⟨w1.heap.size, 2, none⟩ = some (.int .i64 0) ∧ W'.cell? ⟨w1.heap.size, 3, none⟩ = some (.int .i64 0) ∧ W'.cell? ⟨w1.heap.size, 4, none⟩ = some (.int .i64 0) ∧ W'.cell? ⟨w1.heap.size, 5, none⟩ = some (.int .i64 0) ∧ W'.cell? ⟨w1.heap.size, 6, none⟩ = some (.int .i64 0) ∧ W'.cell? ⟨w1.heap.size, 7, none⟩ = some (.int .u32 0) ∧ W'.cell? ⟨w1.heap.size, 8, none⟩ = some (.int .u32 0)) ∧ W'.heap[w1.heap.size]? = some (.cells #[.int .i64 4, .int .i64 k, .int .i64 0, .int .i64 0, .int .i64 0, .int .i64 0, .int .i64 0, .int .u32 0, .int .u32 0] 26 (0, 0))) := fun S W W' kk hn hb => ⟨res_cells (o := segO k) (heap_kept hb kk hn), heap_kept hb kk hn⟩
  have HBS : Hid ((w1.alloc (.cells #[.int .i64 4, .int .i64 k, .int .i64 0, .int .i64 0, .int .i64 0, .int .i64 0, .int .i64 0, .int .u32 0, .int .u32 0] 26)).drew.heap[w1.heap.size]? = some (.cells #[.int .i64 4, .int .i64 k, .int .i64 0, .int .i64 0, .int .i64 0, .int .i64 0, .int .i64 0, .int .u32 0, .int .u32 0] 26 (0, 0))) := bS
  have hXS : X.S < w.heap.size := HR2.out.lt.1
  clear hr3 bS
  go_region_held3 (fun W => (W.cell? ⟨w1.heap.size, 0, none⟩ = some (.int .i64 4) ∧ W.cell? ⟨w1.heap.size, 1, none⟩ = some (.int .i64 k) ∧ W.cell? ⟨w1.heap.size, 2, none⟩ = some (.int .i64 0) ∧ W.cell? ⟨w1.heap.size, 3, none⟩ = some (.int .i64 0) ∧ W.cell? ⟨w1.heap.size, 4, none⟩ = some (.int .i64 0) ∧ W.cell? ⟨w1.heap.size, 5, none⟩ = some (.int .i64 0) ∧ W.cell? ⟨w1.heap.size, 6, none⟩ = some (.int .i64 0) ∧ W.cell? ⟨w1.heap.size, 7, none⟩ = some (.int .u32 0) ∧ W.cell? ⟨w1.heap.size, 8, none⟩ = some (.int .u32 0)))
    (first | with_reducible exact HS0.out | with_reducible exact s5.1 | exact (s6 _).1)
    (first | (go_at_call 206; refine (HE.out _ HR3.out.st).mono ?_; rintro e w5 ⟨rfl, hd5⟩; have hr5 := RsQ.call HR3.out hd5; have pt5 := hr5.put Hv.out; have s5 := HSK.out _ _ _ hd5.2 (by show ¬ w1.heap.size = X.S; omega) HBS.out; have s6 := fun y => HSK.out _ _ (w5.setRow w.heap.size (insV y)) (Kp.setRow (S := fun j => j = w.heap.size) w5 rfl _) (by show ¬ w1.heap.size = w.heap.size; omega) s5.2))
  all_goals
    go_wp2
    exact bodyPost_ret (v := _) (res1 rfl _ _ w.heap.size _ rfl (hr5.got Hv.out _)) rfl ⟨rfl, hr5.fin _⟩
theorem group_140_m (w : World) (X : Cx) (σ : Sg) (f : Int × Int × Int) (h : RSt X w σ f 140) (hf : σ.fl = none) (hm : (modrm X σ).1.2.1 < 6) (hmod : ¬ (modrm X σ).1.1 = 3) :
    Calls Tryz.prog 25 #[.pointer (some ⟨X.S, 0, none⟩)] w fun e w' => e = .returned (.agg (insV { Ins.zero with op := 8, size := 2, a := (pE X 2 (modrm X σ).2).1, b := segO (modrm X σ).1.2.1 })) ∧ RDn X w (pE X 2 (modrm X σ).2).2 (modrm X σ).1 140 w' := by
  obtain ⟨T, nI, fsI, psI, hv, Hv, ⟨vl, vs, vb, va, vx⟩, v1, v2, v3, v4, v5, v6, p0, p1, p2, p3, p4, p5, p6, p7, sz, ne⟩ := vlP
  have hr := RsQ.start (T := T) h
  have d9 := h.c9
  have hS := h.ltS
  have cM := rmodrm_ok _ X σ f 140 hr.st hf
  have hfl := rmodrm_fl h hf
  have hkm := (kept_modrm X σ).v
  generalize modrm X σ = Y at *
  obtain ⟨⟨m, k, r⟩, σ1⟩ := Y
  simp only at cM hfl hm hkm hmod ⊢
  have hk5 : ¬ 5 < k := by omega
  have hk5b : decide (5 < k) = false := decide_eq_false hk5
  have hmb : (m != 3) = true := by simpa using hmod
  have HE : Hid (∀ W, RSt X W σ1 (m, k, r) 140 → _) := fun W hW => e_lit W X σ1 (m, k, r) 140 hW hfl.1 hfl.2.1 2
  obtain ⟨⟨o0, o1', o2', o3', o4, o5, o6', o7, o8⟩, σ2, hY⟩ : ∃ o σ2, pE X 2 σ1 = (o, σ2) := ⟨_, _, rfl⟩
  rw [hY] at HE ⊢
  simp only at HE ⊢
  have HR : Hid _ := hr
  have HKM : Hid (σ1.v = σ.v) := hkm
  clear h hv hfl hr hf hY hkm
  go_enter Tryz.func25, Tryz.ntmps25
  try simp only [vl, vs, va, vb, vx]
  clear vl vs va vb vx
  go_wp2_with fail
  refine cM.mono ?_; rintro e w1 ⟨rfl, hd1⟩
  have hr1 := HR.out.call hd1
  have c6 := hr1.st.c6
  have c7 := hr1.st.c7
  simp only at c6 c7
  have c4 := hr1.st.c4
  rw [HKM.out] at c4
  have hS1 := hr1.st.ltS
  have hqX : w.heap.size < w1.heap.size := heap_lt hr1.rs
  have bS := (MapKept.heap_alloc w1 (.cells #[.int .i64 4, .int .i64 k, .int .i64 0, .int .i64 0, .int .i64 0, .int .i64 0, .int .i64 0, .int .u32 0, .int .u32 0] 26)).1
  have hr2 := hr1.no (Kp.alloc noB w1 (.cells #[.int .i64 4, .int .i64 k, .int .i64 0, .int .i64 0, .int .i64 0, .int .i64 0, .int .i64 0, .int .u32 0, .int .u32 0] 26))
  have g4 := hr2.st.c4
  rw [HKM.out] at g4
  have g6 := hr2.st.c6
  have g7 := hr2.st.c7
  simp only at g6 g7
  have HR2 : Hid _ := hr2
  clear cM hd1 hr1 HR d9 hS hr2
  obtain ⟨u0, u1, u2, u3, u4, u5, u6, u7, u8, u9, u10, u11, u12, u13, u14, u15, u16, u17, u18, u19, u20⟩ := ups21
  go_upto_region 37 with fail
  have hr3 := HR2.out.drew
  have pt3 := hr3.put Hv.out
  have HR3 : Hid _ := hr3
  have HS0 : Hid ((w1.alloc (.cells #[.int .i64 4, .int .i64 k, .int .i64 0, .int .i64 0, .int .i64 0, .int .i64 0, .int .i64 0, .int .u32 0, .int .u32 0] 26)).drew.cell? ⟨w1.heap.size, 0, none⟩ = some (.int .i64 4) ∧ (w1.alloc (.cells #[.int .i64 4, .int .i64 k, .int .i64 0, .int .i64 0, .int .i64 0, .int .i64 0, .int .i64 0, .int .u32 0, .int .u32 0] 26)).drew.cell? ⟨w1.heap.size, 1, none⟩ = some (.int .i64 k) ∧ (w1.alloc (.cells #[.int .i64 4, .int .i64 k, .int .i64 0, .int .i64 0, .int .i64 0, .int .i64 0, .int .i64 0, .int .u32 0, .int .u32 0] 26)).drew.cell? ⟨w1.heap.size, 2, none⟩ = some (.int .i64 0) ∧ (w1.alloc (.cells #[.int .i64 4, .int .i64 k, .int .i64 0, .int .i64 0, .int .i64 0, .int .i64 0, .int .i64 0, .int .u32 0, .int .u32 0] 26)).drew.cell? ⟨w1.heap.size, 3, none⟩ = some (.int .i64 0) ∧ (w1.alloc (.cells #[.int .i64 4, .int .i64 k, .int .i64 0, .int .i64 0, .int .i64 0, .int .i64 0, .int .i64 0, .int .u32 0, .int .u32 0] 26)).drew.cell? ⟨w1.heap.size, 4, none⟩ = some (.int .i64 0) ∧ (w1.alloc (.cells #[.int .i64 4, .int .i64 k, .int .i64 0, .int .i64 0, .int .i64 0, .int .i64 0, .int .i64 0, .int .u32 0, .int .u32 0] 26)).drew.cell? ⟨w1.heap.size, 5, none⟩ = some (.int .i64 0) ∧ (w1.alloc (.cells #[.int .i64 4, .int .i64 k, .int .i64 0, .int .i64 0, .int .i64 0, .int .i64 0, .int .i64 0, .int .u32 0, .int .u32 0] 26)).drew.cell? ⟨w1.heap.size, 6, none⟩ = some (.int .i64 0) ∧ (w1.alloc (.cells #[.int .i64 4, .int .i64 k, .int .i64 0, .int .i64 0, .int .i64 0, .int .i64 0, .int .i64 0, .int .u32 0, .int .u32 0] 26)).drew.cell? ⟨w1.heap.size, 7, none⟩ = some (.int .u32 0) ∧ (w1.alloc (.cells #[.int .i64 4, .int .i64 k, .int .i64 0, .int .i64 0, .int .i64 0, .int .i64 0, .int .i64 0, .int .u32 0, .int .u32 0] 26)).drew.cell? ⟨w1.heap.size, 8, none⟩ = some (.int .u32 0)) := res_cells (o := segO k) bS
  have HSK : Hid (∀ (S : Nat → Prop) W W', Kp S W W' → ¬ S w1.heap.size → W.heap[w1.heap.size]? = some (.cells #[.int .i64 4, .int .i64 k, .int .i64 0, .int .i64 0, .int .i64 0, .int .i64 0, .int .i64 0, .int .u32 0, .int .u32 0] 26 (0, 0)) → (W'.cell? ⟨w1.heap.size, 0, none⟩ = some (.int .i64 4) ∧ W'.cell? ⟨w1.heap.size, 1, none⟩ = some (.int .i64 k) ∧ W'.cell? ⟨w1.heap.size, 2, none⟩ = some (.int .i64 0) ∧ W'.cell? ⟨w1.heap.size, 3, none⟩ = some (.int .i64 0) ∧ W'.cell? ⟨w1.heap.size, 4, none⟩ = some (.int .i64 0) ∧ W'.cell? ⟨w1.heap.size, 5, none⟩ = some (.int .i64 0) ∧ W'.cell? ⟨w1.heap.size, 6, none⟩ = some (.int .i64 0) ∧ W'.cell? ⟨w1.heap.size, 7, none⟩ = some (.int .u32 0) ∧ W'.cell? ⟨w1.heap.size, 8, none⟩ = some (.int .u32 0)) ∧ W'.heap[w1.heap.size]? = some (.cells #[.int .i64 4, .int .i64 k, .int .i64 0, .int .i64 0, .int .i64 0, .int .i64 0, .int .i64 0, .int .u32 0, .int .u32 0] 26 (0, 0))) := fun S W W' kk hn hb => ⟨res_cells (o := segO k) (heap_kept hb kk hn), heap_kept hb kk hn⟩
  have HBS : Hid ((w1.alloc (.cells #[.int .i64 4, .int .i64 k, .int .i64 0, .int .i64 0, .int .i64 0, .int .i64 0, .int .i64 0, .int .u32 0, .int .u32 0] 26)).drew.heap[w1.heap.size]? = some (.cells #[.int .i64 4, .int .i64 k, .int .i64 0, .int .i64 0, .int .i64 0, .int .i64 0, .int .i64 0, .int .u32 0, .int .u32 0] 26 (0, 0))) := bS
  have hXS : X.S < w.heap.size := HR2.out.lt.1
  clear hr3 bS
  go_region_held3 (fun W => (W.cell? ⟨w1.heap.size, 0, none⟩ = some (.int .i64 4) ∧ W.cell? ⟨w1.heap.size, 1, none⟩ = some (.int .i64 k) ∧ W.cell? ⟨w1.heap.size, 2, none⟩ = some (.int .i64 0) ∧ W.cell? ⟨w1.heap.size, 3, none⟩ = some (.int .i64 0) ∧ W.cell? ⟨w1.heap.size, 4, none⟩ = some (.int .i64 0) ∧ W.cell? ⟨w1.heap.size, 5, none⟩ = some (.int .i64 0) ∧ W.cell? ⟨w1.heap.size, 6, none⟩ = some (.int .i64 0) ∧ W.cell? ⟨w1.heap.size, 7, none⟩ = some (.int .u32 0) ∧ W.cell? ⟨w1.heap.size, 8, none⟩ = some (.int .u32 0)))
    (first | with_reducible exact HS0.out | with_reducible exact s5.1 | exact (s6 _).1)
    (first | (go_at_call 206; refine (HE.out _ HR3.out.st).mono ?_; rintro e w5 ⟨rfl, hd5⟩; have hr5 := RsQ.call HR3.out hd5; have pt5 := hr5.put Hv.out; have s5 := HSK.out _ _ _ hd5.2 (by show ¬ w1.heap.size = X.S; omega) HBS.out; have s6 := fun y => HSK.out _ _ (w5.setRow w.heap.size (insV y)) (Kp.setRow (S := fun j => j = w.heap.size) w5 rfl _) (by show ¬ w1.heap.size = w.heap.size; omega) s5.2))
  all_goals
    go_wp2
    exact bodyPost_ret (v := _) (res1 rfl _ _ w.heap.size _ rfl (hr5.got Hv.out _)) rfl ⟨rfl, hr5.fin _⟩
theorem group_142 (w : World) (X : Cx) (σ : Sg) (f : Int × Int × Int) (h : RSt X w σ f 142) (hf : σ.fl = none) (hm : (modrm X σ).1.2.1 < 6 ∧ ¬ (modrm X σ).1.2.1 = 1) :
    Calls Tryz.prog 25 #[.pointer (some ⟨X.S, 0, none⟩)] w fun e w' => e = .returned (.agg (insV { Ins.zero with op := 8, size := 2, a := segO (modrm X σ).1.2.1, b := (pE X 2 (modrm X σ).2).1 })) ∧ RDn X w (pE X 2 (modrm X σ).2).2 (modrm X σ).1 142 w' := by
  obtain ⟨T, nI, fsI, psI, hv, Hv, ⟨vl, vs, vb, va, vx⟩, v1, v2, v3, v4, v5, v6, p0, p1, p2, p3, p4, p5, p6, p7, sz, ne⟩ := vlP
  have hr := RsQ.start (T := T) h
  have d9 := h.c9
  have hS := h.ltS
  have cM := rmodrm_ok _ X σ f 142 hr.st hf
  have hfl := rmodrm_fl h hf
  have hkm := (kept_modrm X σ).v
  generalize modrm X σ = Y at *
  obtain ⟨⟨m, k, r⟩, σ1⟩ := Y
  simp only at cM hfl hm hkm ⊢
  obtain ⟨hm, hm1⟩ := hm
  have hk5 : ¬ 5 < k := by omega
  have hk5b : decide (5 < k) = false := decide_eq_false hk5
  have hm1b : (k == 1) = false := by simpa using hm1
  have HE : Hid (∀ W, RSt X W σ1 (m, k, r) 142 → _) := fun W hW => e_lit W X σ1 (m, k, r) 142 hW hfl.1 hfl.2.1 2
  obtain ⟨⟨o0, o1', o2', o3', o4, o5, o6', o7, o8⟩, σ2, hY⟩ : ∃ o σ2, pE X 2 σ1 = (o, σ2) := ⟨_, _, rfl⟩
  rw [hY] at HE ⊢
  simp only at HE ⊢
  have HR : Hid _ := hr
  have HKM : Hid (σ1.v = σ.v) := hkm
  clear h hv hfl hr hf hY hkm
  go_enter Tryz.func25, Tryz.ntmps25
  try simp only [vl, vs, va, vb, vx]
  clear vl vs va vb vx
  go_wp2_with fail
  refine cM.mono ?_; rintro e w1 ⟨rfl, hd1⟩
  have hr1 := HR.out.call hd1
  have c6 := hr1.st.c6
  have c7 := hr1.st.c7
  simp only at c6 c7
  have c4 := hr1.st.c4
  rw [HKM.out] at c4
  have hS1 := hr1.st.ltS
  have hqX : w.heap.size < w1.heap.size := heap_lt hr1.rs
  have bS := (MapKept.heap_alloc w1 (.cells #[.int .i64 4, .int .i64 k, .int .i64 0, .int .i64 0, .int .i64 0, .int .i64 0, .int .i64 0, .int .u32 0, .int .u32 0] 26)).1
  have hr2 := hr1.no (Kp.alloc noB w1 (.cells #[.int .i64 4, .int .i64 k, .int .i64 0, .int .i64 0, .int .i64 0, .int .i64 0, .int .i64 0, .int .u32 0, .int .u32 0] 26))
  have g4 := hr2.st.c4
  rw [HKM.out] at g4
  have g6 := hr2.st.c6
  have g7 := hr2.st.c7
  simp only at g6 g7
  have HR2 : Hid _ := hr2
  clear cM hd1 hr1 HR d9 hS hr2
  obtain ⟨u0, u1, u2, u3, u4, u5, u6, u7, u8, u9, u10, u11, u12, u13, u14, u15, u16, u17, u18, u19, u20⟩ := ups21
  go_upto_region 39 with fail
  have hr3 := HR2.out.drew
  have pt3 := hr3.put Hv.out
  have HR3 : Hid _ := hr3
  have HS0 : Hid ((w1.alloc (.cells #[.int .i64 4, .int .i64 k, .int .i64 0, .int .i64 0, .int .i64 0, .int .i64 0, .int .i64 0, .int .u32 0, .int .u32 0] 26)).drew.cell? ⟨w1.heap.size, 0, none⟩ = some (.int .i64 4) ∧ (w1.alloc (.cells #[.int .i64 4, .int .i64 k, .int .i64 0, .int .i64 0, .int .i64 0, .int .i64 0, .int .i64 0, .int .u32 0, .int .u32 0] 26)).drew.cell? ⟨w1.heap.size, 1, none⟩ = some (.int .i64 k) ∧ (w1.alloc (.cells #[.int .i64 4, .int .i64 k, .int .i64 0, .int .i64 0, .int .i64 0, .int .i64 0, .int .i64 0, .int .u32 0, .int .u32 0] 26)).drew.cell? ⟨w1.heap.size, 2, none⟩ = some (.int .i64 0) ∧ (w1.alloc (.cells #[.int .i64 4, .int .i64 k, .int .i64 0, .int .i64 0, .int .i64 0, .int .i64 0, .int .i64 0, .int .u32 0, .int .u32 0] 26)).drew.cell? ⟨w1.heap.size, 3, none⟩ = some (.int .i64 0) ∧ (w1.alloc (.cells #[.int .i64 4, .int .i64 k, .int .i64 0, .int .i64 0, .int .i64 0, .int .i64 0, .int .i64 0, .int .u32 0, .int .u32 0] 26)).drew.cell? ⟨w1.heap.size, 4, none⟩ = some (.int .i64 0) ∧ (w1.alloc (.cells #[.int .i64 4, .int .i64 k, .int .i64 0, .int .i64 0, .int .i64 0, .int .i64 0, .int .i64 0, .int .u32 0, .int .u32 0] 26)).drew.cell? ⟨w1.heap.size, 5, none⟩ = some (.int .i64 0) ∧ (w1.alloc (.cells #[.int .i64 4, .int .i64 k, .int .i64 0, .int .i64 0, .int .i64 0, .int .i64 0, .int .i64 0, .int .u32 0, .int .u32 0] 26)).drew.cell? ⟨w1.heap.size, 6, none⟩ = some (.int .i64 0) ∧ (w1.alloc (.cells #[.int .i64 4, .int .i64 k, .int .i64 0, .int .i64 0, .int .i64 0, .int .i64 0, .int .i64 0, .int .u32 0, .int .u32 0] 26)).drew.cell? ⟨w1.heap.size, 7, none⟩ = some (.int .u32 0) ∧ (w1.alloc (.cells #[.int .i64 4, .int .i64 k, .int .i64 0, .int .i64 0, .int .i64 0, .int .i64 0, .int .i64 0, .int .u32 0, .int .u32 0] 26)).drew.cell? ⟨w1.heap.size, 8, none⟩ = some (.int .u32 0)) := res_cells (o := segO k) bS
  have HSK : Hid (∀ (S : Nat → Prop) W W', Kp S W W' → ¬ S w1.heap.size → W.heap[w1.heap.size]? = some (.cells #[.int .i64 4, .int .i64 k, .int .i64 0, .int .i64 0, .int .i64 0, .int .i64 0, .int .i64 0, .int .u32 0, .int .u32 0] 26 (0, 0)) → (W'.cell? ⟨w1.heap.size, 0, none⟩ = some (.int .i64 4) ∧ W'.cell? ⟨w1.heap.size, 1, none⟩ = some (.int .i64 k) ∧ W'.cell? ⟨w1.heap.size, 2, none⟩ = some (.int .i64 0) ∧ W'.cell? ⟨w1.heap.size, 3, none⟩ = some (.int .i64 0) ∧ W'.cell? ⟨w1.heap.size, 4, none⟩ = some (.int .i64 0) ∧ W'.cell? ⟨w1.heap.size, 5, none⟩ = some (.int .i64 0) ∧ W'.cell? ⟨w1.heap.size, 6, none⟩ = some (.int .i64 0) ∧ W'.cell? ⟨w1.heap.size, 7, none⟩ = some (.int .u32 0) ∧ W'.cell? ⟨w1.heap.size, 8, none⟩ = some (.int .u32 0)) ∧ W'.heap[w1.heap.size]? = some (.cells #[.int .i64 4, .int .i64 k, .int .i64 0, .int .i64 0, .int .i64 0, .int .i64 0, .int .i64 0, .int .u32 0, .int .u32 0] 26 (0, 0))) := fun S W W' kk hn hb => ⟨res_cells (o := segO k) (heap_kept hb kk hn), heap_kept hb kk hn⟩
  have HBS : Hid ((w1.alloc (.cells #[.int .i64 4, .int .i64 k, .int .i64 0, .int .i64 0, .int .i64 0, .int .i64 0, .int .i64 0, .int .u32 0, .int .u32 0] 26)).drew.heap[w1.heap.size]? = some (.cells #[.int .i64 4, .int .i64 k, .int .i64 0, .int .i64 0, .int .i64 0, .int .i64 0, .int .i64 0, .int .u32 0, .int .u32 0] 26 (0, 0))) := bS
  have hXS : X.S < w.heap.size := HR2.out.lt.1
  clear hr3 bS
  go_region_held3 (fun W => (W.cell? ⟨w1.heap.size, 0, none⟩ = some (.int .i64 4) ∧ W.cell? ⟨w1.heap.size, 1, none⟩ = some (.int .i64 k) ∧ W.cell? ⟨w1.heap.size, 2, none⟩ = some (.int .i64 0) ∧ W.cell? ⟨w1.heap.size, 3, none⟩ = some (.int .i64 0) ∧ W.cell? ⟨w1.heap.size, 4, none⟩ = some (.int .i64 0) ∧ W.cell? ⟨w1.heap.size, 5, none⟩ = some (.int .i64 0) ∧ W.cell? ⟨w1.heap.size, 6, none⟩ = some (.int .i64 0) ∧ W.cell? ⟨w1.heap.size, 7, none⟩ = some (.int .u32 0) ∧ W.cell? ⟨w1.heap.size, 8, none⟩ = some (.int .u32 0)))
    (first | with_reducible exact HS0.out | with_reducible exact s5.1 | exact (s6 _).1)
    (first | (go_at_call 206; refine (HE.out _ HR3.out.st).mono ?_; rintro e w5 ⟨rfl, hd5⟩; have hr5 := RsQ.call HR3.out hd5; have pt5 := hr5.put Hv.out; have s5 := HSK.out _ _ _ hd5.2 (by show ¬ w1.heap.size = X.S; omega) HBS.out; have s6 := fun y => HSK.out _ _ (w5.setRow w.heap.size (insV y)) (Kp.setRow (S := fun j => j = w.heap.size) w5 rfl _) (by show ¬ w1.heap.size = w.heap.size; omega) s5.2))
  all_goals
    go_wp2
    exact bodyPost_ret (v := _) (res1 rfl _ _ w.heap.size _ rfl (hr5.got Hv.out _)) rfl ⟨rfl, hr5.fin _⟩
end Go.Proofs.YtbfccfhjgopnbaaGreat
