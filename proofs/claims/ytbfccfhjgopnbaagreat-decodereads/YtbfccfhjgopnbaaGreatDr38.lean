/- The document's reader, and the code's (RfSys). -/
import Derived.Test.YtbfccfhjgopnbaaGreatDr26
import Derived.Test.YtbfccfhjgopnbaaGreatDr12
set_option linter.unusedSimpArgs false
namespace Go.Proofs.YtbfccfhjgopnbaaGreat
open Go.ChangeShapes Go.WideShapes Go.ChangeAt Go.RowKit
set_option linter.unusedVariables false
set_option linter.unusedSimpArgs false
set_option maxHeartbeats 4000000
set_option maxRecDepth 20000
theorem system_6 (w : World) (X : Cx) (σ : Sg) (f : Int × Int × Int) (h : RSt X w σ f 6) :
    Calls Tryz.prog 202 #[.pointer (some ⟨X.S, 0, none⟩)] w fun e w' => e = .returned (.agg (insV { Ins.zero with op := 47, size := 4 })) ∧ RDn X w σ f 6 w' := by
  obtain ⟨T, nI, fsI, psI, hv, Hv, ⟨vl, vs, vb, va, vx⟩, v1, v2, v3, v4, v5, v6, p0, p1, p2, p3, p4, p5, p6, p7, sz, ne⟩ := vlP
  have hr := RsQ.start (T := T) h
  have pt := hr.put Hv.out
  have hS := h.ltS
  have c9 := h.c9
  have HR : Hid _ := hr
  clear h hv hr
  go_enter Tryz.func202, Tryz.ntmps202
  try simp only [vl, vs, va, vb, vx]
  clear vl vs va vb vx
  have u0 := insUp0
  have u1 := insUp1
  have u2 := insUp2
  go_wp2
  exact bodyPost_ret (v := _) (res1 rfl _ _ w.heap.size _ rfl (HR.out.got Hv.out _)) rfl ⟨rfl, HR.out.fin _⟩
theorem system_0_u (w : World) (X : Cx) (σ : Sg) (f : Int × Int × Int) (h : RSt X w σ f 0) (hf : σ.fl = none) {kk : Int} (hm : (modrm X σ).1.2.1 = kk) (k0 : (kk != 3) = true) :
    Calls Tryz.prog 202 #[.pointer (some ⟨X.S, 0, none⟩)] w fun e w' => e = .returned (.agg (insV { Ins.zero with op := 44, size := 2, a := (pE X 2 (refuse (modrm X σ).2)).1 })) ∧ RDn X w (pE X 2 (refuse (modrm X σ).2)).2 (modrm X σ).1 0 w' := by
  obtain ⟨T, nI, fsI, psI, hv, Hv, ⟨vl, vs, vb, va, vx⟩, v1, v2, v3, v4, v5, v6, p0, p1, p2, p3, p4, p5, p6, p7, sz, ne⟩ := vlP
  have hr := RsQ.start (T := T) h
  have d9 := h.c9
  have hS := h.ltS
  have cM := rmodrm_ok _ X σ f 0 hr.st hf
  have hfl := rmodrm_fl h hf
  generalize modrm X σ = Y at *
  obtain ⟨⟨m, k, r⟩, σ1⟩ := Y
  simp only at cM hfl hm ⊢
  obtain rfl : k = kk := hm
  skip
  have hfr : (refuse σ1).fl = some (m, k, r) := by have := hfl.1; unfold refuse; split <;> exact this
  have HE : Hid (∀ W, RSt X W (refuse σ1) (m, k, r) 0 → _) := fun W hW => e_lit W X (refuse σ1) (m, k, r) 0 hW hfr hfl.2.1 2
  obtain ⟨⟨o0, o1', o2', o3', o4, o5, o6', o7, o8⟩, σ2, hY⟩ : ∃ o σ2, pE X 2 (refuse σ1) = (o, σ2) := ⟨_, _, rfl⟩
  rw [hY] at HE ⊢
  simp only at HE ⊢
  have HR : Hid _ := hr
  clear h hv hfl hr hf hY hfr
  go_enter Tryz.func202, Tryz.ntmps202
  try simp only [vl, vs, va, vb, vx]
  clear vl vs va vb vx
  obtain ⟨u0, u1, u2, u3, u4, u5, u6, u7, u8, u9, u10, u11⟩ := ups12
  go_wp2_with fail
  refine cM.mono ?_; rintro e w1 ⟨rfl, hd1⟩
  have hr1 := HR.out.call hd1
  have c6 := hr1.st.c6
  have c7 := hr1.st.c7
  have c9b := hr1.st.c9
  simp only at c6 c7
  have hS1 := hr1.st.ltS
  have HR1 : Hid _ := hr1
  clear cM hd1 hr1 HR d9 hS
  have cU := ud_ok w1 X σ1 (m, k, r) 0 HR1.out.st
  go_wp2_with fail
  refine cU.mono ?_; rintro e w2 ⟨rfl, hd2⟩
  have hr2 := HR1.out.call hd2
  have c62 := hr2.st.c6
  have c72 := hr2.st.c7
  have c92 := hr2.st.c9
  simp only at c62 c72
  have hS2 := hr2.st.ltS
  have HR2 : Hid _ := hr2
  clear hd2 hr2 cU HR1 c6 c7 c9b
  go_wp2_with fail
  refine (HE.out _ HR2.out.st).mono ?_; rintro e w5 ⟨rfl, hd5⟩
  have hr5 := HR2.out.call hd5
  have pt5 := hr5.put Hv.out
  have HR5 : Hid _ := hr5
  clear hd5 hr5
  go_wp2
  exact bodyPost_ret (v := _) (res1 rfl _ _ w.heap.size _ rfl (HR5.out.got Hv.out _)) rfl ⟨rfl, HR5.out.fin _⟩
theorem system_0_3 (w : World) (X : Cx) (σ : Sg) (f : Int × Int × Int) (h : RSt X w σ f 0) (hf : σ.fl = none) (hm : (modrm X σ).1.2.1 = 3) :
    Calls Tryz.prog 202 #[.pointer (some ⟨X.S, 0, none⟩)] w fun e w' => e = .returned (.agg (insV { Ins.zero with op := 44, size := 2, a := (pE X 2 (modrm X σ).2).1 })) ∧ RDn X w (pE X 2 (modrm X σ).2).2 (modrm X σ).1 0 w' := by
  obtain ⟨T, nI, fsI, psI, hv, Hv, ⟨vl, vs, vb, va, vx⟩, v1, v2, v3, v4, v5, v6, p0, p1, p2, p3, p4, p5, p6, p7, sz, ne⟩ := vlP
  have hr := RsQ.start (T := T) h
  have d9 := h.c9
  have hS := h.ltS
  have cM := rmodrm_ok _ X σ f 0 hr.st hf
  have hfl := rmodrm_fl h hf
  generalize modrm X σ = Y at *
  obtain ⟨⟨m, k, r⟩, σ1⟩ := Y
  simp only at cM hfl hm ⊢
  subst hm
  skip
  have hfr := hfl.1
  have HE : Hid (∀ W, RSt X W σ1 (m, 3, r) 0 → _) := fun W hW => e_lit W X σ1 (m, 3, r) 0 hW hfr hfl.2.1 2
  obtain ⟨⟨o0, o1', o2', o3', o4, o5, o6', o7, o8⟩, σ2, hY⟩ : ∃ o σ2, pE X 2 σ1 = (o, σ2) := ⟨_, _, rfl⟩
  rw [hY] at HE ⊢
  simp only at HE ⊢
  have HR : Hid _ := hr
  clear h hv hfl hr hf hY hfr
  go_enter Tryz.func202, Tryz.ntmps202
  try simp only [vl, vs, va, vb, vx]
  clear vl vs va vb vx
  obtain ⟨u0, u1, u2, u3, u4, u5, u6, u7, u8, u9, u10, u11⟩ := ups12
  go_wp2_with fail
  refine cM.mono ?_; rintro e w1 ⟨rfl, hd1⟩
  have hr1 := HR.out.call hd1
  have c6 := hr1.st.c6
  have c7 := hr1.st.c7
  have c9b := hr1.st.c9
  simp only at c6 c7
  have hS1 := hr1.st.ltS
  have HR1 : Hid _ := hr1
  clear cM hd1 hr1 HR d9 hS
  have HR2 := HR1
  clear HR1
  go_wp2_with fail
  refine (HE.out _ HR2.out.st).mono ?_; rintro e w5 ⟨rfl, hd5⟩
  have hr5 := HR2.out.call hd5
  have pt5 := hr5.put Hv.out
  have HR5 : Hid _ := hr5
  clear hd5 hr5
  go_wp2
  exact bodyPost_ret (v := _) (res1 rfl _ _ w.heap.size _ rfl (HR5.out.got Hv.out _)) rfl ⟨rfl, HR5.out.fin _⟩
theorem system_1_ur (w : World) (X : Cx) (σ : Sg) (f : Int × Int × Int) (h : RSt X w σ f 1) (hf : σ.fl = none) {kk : Int} (hm : (modrm X σ).1.2.1 = kk) (hmod : (modrm X σ).1.1 = 3) (k0 : (kk == 3) = false) (k1 : (kk == 7) = false) :
    Calls Tryz.prog 202 #[.pointer (some ⟨X.S, 0, none⟩)] w fun e w' => e = .returned (.agg (insV { Ins.zero with op := 42, size := 4, a := (pE X 4 (refuse (modrm X σ).2)).1 })) ∧ RDn X w (pE X 4 (refuse (modrm X σ).2)).2 (modrm X σ).1 1 w' := by
  obtain ⟨T, nI, fsI, psI, hv, Hv, ⟨vl, vs, vb, va, vx⟩, v1, v2, v3, v4, v5, v6, p0, p1, p2, p3, p4, p5, p6, p7, sz, ne⟩ := vlP
  have hr := RsQ.start (T := T) h
  have d9 := h.c9
  have hS := h.ltS
  have cM := rmodrm_ok _ X σ f 1 hr.st hf
  have hfl := rmodrm_fl h hf
  generalize modrm X σ = Y at *
  obtain ⟨⟨m, k, r⟩, σ1⟩ := Y
  simp only at cM hfl hm hmod ⊢
  obtain rfl : k = kk := hm
  subst hmod
  have hfr : (refuse σ1).fl = some (3, k, r) := by have := hfl.1; unfold refuse; split <;> exact this
  have HE : Hid (∀ W, RSt X W (refuse σ1) (3, k, r) 1 → _) := fun W hW => e_lit W X (refuse σ1) (3, k, r) 1 hW hfr hfl.2.1 4
  obtain ⟨⟨o0, o1', o2', o3', o4, o5, o6', o7, o8⟩, σ2, hY⟩ : ∃ o σ2, pE X 4 (refuse σ1) = (o, σ2) := ⟨_, _, rfl⟩
  rw [hY] at HE ⊢
  simp only at HE ⊢
  have HR : Hid _ := hr
  clear h hv hfl hr hf hY hfr
  go_enter Tryz.func202, Tryz.ntmps202
  try simp only [vl, vs, va, vb, vx]
  clear vl vs va vb vx
  obtain ⟨u0, u1, u2, u3, u4, u5, u6, u7, u8, u9, u10, u11⟩ := ups12
  go_wp2_with fail
  refine cM.mono ?_; rintro e w1 ⟨rfl, hd1⟩
  have hr1 := HR.out.call hd1
  have c6 := hr1.st.c6
  have c7 := hr1.st.c7
  have c9b := hr1.st.c9
  simp only at c6 c7
  have hS1 := hr1.st.ltS
  have HR1 : Hid _ := hr1
  clear cM hd1 hr1 HR d9 hS
  have cU := ud_ok w1 X σ1 (3, k, r) 1 HR1.out.st
  go_wp2_with fail
  refine cU.mono ?_; rintro e w2 ⟨rfl, hd2⟩
  have hr2 := HR1.out.call hd2
  have c62 := hr2.st.c6
  have c72 := hr2.st.c7
  have c92 := hr2.st.c9
  simp only at c62 c72
  have hS2 := hr2.st.ltS
  have HR2 : Hid _ := hr2
  clear hd2 hr2 cU HR1 c6 c7 c9b
  have new1 := Hv.out.newQ
  go_wp2_with fail
  refine (HE.out _ HR2.out.st).mono ?_; rintro e w5 ⟨rfl, hd5⟩
  have hr5 := HR2.out.call hd5
  have hS5 := hr5.st.ltS
  have hI6 : InQ T X w w.heap.size w5.heap.size (((((((((((Ins.zero.up 0 42).up 2 4).up 3 o0).up 4 o1').up 5 o2').up 6 o3').up 7 o4).up 8 o5).up 9 o6').up 10 o7).up 11 o8) σ2 (3, k, r) 1 (w5.alloc (.cells (insV (((((((((((Ins.zero.up 0 42).up 2 4).up 3 o0).up 4 o1').up 5 o2').up 6 o3').up 7 o4).up 8 o5).up 9 o6').up 10 o7).up 11 o8)) T)) := hr5.own _
  have e9 := hI6.r.st.c9
  have e7 := hI6.r.st.c7
  have e4 := hI6.r.st.c4
  simp only at e7
  have hSW := hI6.r.st.ltS
  have HI6 : Hid _ := hI6
  clear hI6 hd5 hr5
  have hI6 := HI6.out
  have g8 := Hv.out.get hI6.op
  have p8 := hI6.r.put Hv.out
  clear hI6
  go_wp2
  exact bodyPost_ret (v := _) (res1 rfl _ _ w.heap.size _ rfl (HI6.out.r.got Hv.out _)) rfl ⟨rfl, HI6.out.r.fin _⟩
theorem system_1_um (w : World) (X : Cx) (σ : Sg) (f : Int × Int × Int) (h : RSt X w σ f 1) (hf : σ.fl = none) {kk : Int} (hm : (modrm X σ).1.2.1 = kk) (hmod : ¬ (modrm X σ).1.1 = 3) (k0 : (kk != 2) = true) (k1 : (kk != 3) = true) (k2 : (kk != 7) = true) (k3 : (kk == 3) = false) (k4 : (kk == 7) = false) :
    Calls Tryz.prog 202 #[.pointer (some ⟨X.S, 0, none⟩)] w fun e w' => e = .returned (.agg (insV { Ins.zero with op := 42, size := 4, a := (pE X 4 (refuse (modrm X σ).2)).1 })) ∧ RDn X w (pE X 4 (refuse (modrm X σ).2)).2 (modrm X σ).1 1 w' := by
  obtain ⟨T, nI, fsI, psI, hv, Hv, ⟨vl, vs, vb, va, vx⟩, v1, v2, v3, v4, v5, v6, p0, p1, p2, p3, p4, p5, p6, p7, sz, ne⟩ := vlP
  have hr := RsQ.start (T := T) h
  have d9 := h.c9
  have hS := h.ltS
  have cM := rmodrm_ok _ X σ f 1 hr.st hf
  have hfl := rmodrm_fl h hf
  generalize modrm X σ = Y at *
  obtain ⟨⟨m, k, r⟩, σ1⟩ := Y
  simp only at cM hfl hm hmod ⊢
  obtain rfl : k = kk := hm
  have hmb : (m == 3) = false := by simpa using hmod
  have hfr : (refuse σ1).fl = some (m, k, r) := by have := hfl.1; unfold refuse; split <;> exact this
  have HE : Hid (∀ W, RSt X W (refuse σ1) (m, k, r) 1 → _) := fun W hW => e_lit W X (refuse σ1) (m, k, r) 1 hW hfr hfl.2.1 4
  obtain ⟨⟨o0, o1', o2', o3', o4, o5, o6', o7, o8⟩, σ2, hY⟩ : ∃ o σ2, pE X 4 (refuse σ1) = (o, σ2) := ⟨_, _, rfl⟩
  rw [hY] at HE ⊢
  simp only at HE ⊢
  have HR : Hid _ := hr
  clear h hv hfl hr hf hY hfr
  go_enter Tryz.func202, Tryz.ntmps202
  try simp only [vl, vs, va, vb, vx]
  clear vl vs va vb vx
  obtain ⟨u0, u1, u2, u3, u4, u5, u6, u7, u8, u9, u10, u11⟩ := ups12
  go_wp2_with fail
  refine cM.mono ?_; rintro e w1 ⟨rfl, hd1⟩
  have hr1 := HR.out.call hd1
  have c6 := hr1.st.c6
  have c7 := hr1.st.c7
  have c9b := hr1.st.c9
  simp only at c6 c7
  have hS1 := hr1.st.ltS
  have HR1 : Hid _ := hr1
  clear cM hd1 hr1 HR d9 hS
  have cU := ud_ok w1 X σ1 (m, k, r) 1 HR1.out.st
  go_wp2_with fail
  refine cU.mono ?_; rintro e w2 ⟨rfl, hd2⟩
  have hr2 := HR1.out.call hd2
  have c62 := hr2.st.c6
  have c72 := hr2.st.c7
  have c92 := hr2.st.c9
  simp only at c62 c72
  have hS2 := hr2.st.ltS
  have HR2 : Hid _ := hr2
  clear hd2 hr2 cU HR1 c6 c7 c9b
  have new1 := Hv.out.newQ
  go_wp2_with fail
  refine (HE.out _ HR2.out.st).mono ?_; rintro e w5 ⟨rfl, hd5⟩
  have hr5 := HR2.out.call hd5
  have hS5 := hr5.st.ltS
  have hI6 : InQ T X w w.heap.size w5.heap.size (((((((((((Ins.zero.up 0 42).up 2 4).up 3 o0).up 4 o1').up 5 o2').up 6 o3').up 7 o4).up 8 o5).up 9 o6').up 10 o7).up 11 o8) σ2 (m, k, r) 1 (w5.alloc (.cells (insV (((((((((((Ins.zero.up 0 42).up 2 4).up 3 o0).up 4 o1').up 5 o2').up 6 o3').up 7 o4).up 8 o5).up 9 o6').up 10 o7).up 11 o8)) T)) := hr5.own _
  have e9 := hI6.r.st.c9
  have e7 := hI6.r.st.c7
  have e4 := hI6.r.st.c4
  simp only at e7
  have hSW := hI6.r.st.ltS
  have HI6 : Hid _ := hI6
  clear hI6 hd5 hr5
  have hI6 := HI6.out
  have g8 := Hv.out.get hI6.op
  have p8 := hI6.r.put Hv.out
  clear hI6
  go_wp2
  exact bodyPost_ret (v := _) (res1 rfl _ _ w.heap.size _ rfl (HI6.out.r.got Hv.out _)) rfl ⟨rfl, HI6.out.r.fin _⟩
theorem system_1_2_m (w : World) (X : Cx) (σ : Sg) (f : Int × Int × Int) (h : RSt X w σ f 1) (hf : σ.fl = none) (hm : (modrm X σ).1.2.1 = 2) (hmod : ¬ (modrm X σ).1.1 = 3) :
    Calls Tryz.prog 202 #[.pointer (some ⟨X.S, 0, none⟩)] w fun e w' => e = .returned (.agg (insV { Ins.zero with op := 42, size := 4, a := (pE X 4 (modrm X σ).2).1 })) ∧ RDn X w (pE X 4 (modrm X σ).2).2 (modrm X σ).1 1 w' := by
  obtain ⟨T, nI, fsI, psI, hv, Hv, ⟨vl, vs, vb, va, vx⟩, v1, v2, v3, v4, v5, v6, p0, p1, p2, p3, p4, p5, p6, p7, sz, ne⟩ := vlP
  have hr := RsQ.start (T := T) h
  have d9 := h.c9
  have hS := h.ltS
  have cM := rmodrm_ok _ X σ f 1 hr.st hf
  have hfl := rmodrm_fl h hf
  generalize modrm X σ = Y at *
  obtain ⟨⟨m, k, r⟩, σ1⟩ := Y
  simp only at cM hfl hm hmod ⊢
  subst hm
  have hmb : (m == 3) = false := by simpa using hmod
  have hfr := hfl.1
  have HE : Hid (∀ W, RSt X W σ1 (m, 2, r) 1 → _) := fun W hW => e_lit W X σ1 (m, 2, r) 1 hW hfr hfl.2.1 4
  obtain ⟨⟨o0, o1', o2', o3', o4, o5, o6', o7, o8⟩, σ2, hY⟩ : ∃ o σ2, pE X 4 σ1 = (o, σ2) := ⟨_, _, rfl⟩
  rw [hY] at HE ⊢
  simp only at HE ⊢
  have HR : Hid _ := hr
  clear h hv hfl hr hf hY hfr
  go_enter Tryz.func202, Tryz.ntmps202
  try simp only [vl, vs, va, vb, vx]
  clear vl vs va vb vx
  obtain ⟨u0, u1, u2, u3, u4, u5, u6, u7, u8, u9, u10, u11⟩ := ups12
  go_wp2_with fail
  refine cM.mono ?_; rintro e w1 ⟨rfl, hd1⟩
  have hr1 := HR.out.call hd1
  have c6 := hr1.st.c6
  have c7 := hr1.st.c7
  have c9b := hr1.st.c9
  simp only at c6 c7
  have hS1 := hr1.st.ltS
  have HR1 : Hid _ := hr1
  clear cM hd1 hr1 HR d9 hS
  have HR2 := HR1
  clear HR1
  have new1 := Hv.out.newQ
  go_wp2_with fail
  refine (HE.out _ HR2.out.st).mono ?_; rintro e w5 ⟨rfl, hd5⟩
  have hr5 := HR2.out.call hd5
  have hS5 := hr5.st.ltS
  have hI6 : InQ T X w w.heap.size w5.heap.size (((((((((((Ins.zero.up 0 42).up 2 4).up 3 o0).up 4 o1').up 5 o2').up 6 o3').up 7 o4).up 8 o5).up 9 o6').up 10 o7).up 11 o8) σ2 (m, 2, r) 1 (w5.alloc (.cells (insV (((((((((((Ins.zero.up 0 42).up 2 4).up 3 o0).up 4 o1').up 5 o2').up 6 o3').up 7 o4).up 8 o5).up 9 o6').up 10 o7).up 11 o8)) T)) := hr5.own _
  have e9 := hI6.r.st.c9
  have e7 := hI6.r.st.c7
  have e4 := hI6.r.st.c4
  simp only at e7
  have hSW := hI6.r.st.ltS
  have HI6 : Hid _ := hI6
  clear hI6 hd5 hr5
  have hI6 := HI6.out
  have g8 := Hv.out.get hI6.op
  have p8 := hI6.r.put Hv.out
  clear hI6
  go_wp2
  exact bodyPost_ret (v := _) (res1 rfl _ _ w.heap.size _ rfl (HI6.out.r.got Hv.out _)) rfl ⟨rfl, HI6.out.r.fin _⟩
theorem system_1_3_r (w : World) (X : Cx) (σ : Sg) (f : Int × Int × Int) (h : RSt X w σ f 1) (hf : σ.fl = none) (hm : (modrm X σ).1.2.1 = 3) (hmod : (modrm X σ).1.1 = 3) :
    Calls Tryz.prog 202 #[.pointer (some ⟨X.S, 0, none⟩)] w fun e w' => e = .returned (.agg (insV { Ins.zero with op := 43, size := 4, a := (pE X 4 (refuse (modrm X σ).2)).1 })) ∧ RDn X w (pE X 4 (refuse (modrm X σ).2)).2 (modrm X σ).1 1 w' := by
  obtain ⟨T, nI, fsI, psI, hv, Hv, ⟨vl, vs, vb, va, vx⟩, v1, v2, v3, v4, v5, v6, p0, p1, p2, p3, p4, p5, p6, p7, sz, ne⟩ := vlP
  have hr := RsQ.start (T := T) h
  have d9 := h.c9
  have hS := h.ltS
  have cM := rmodrm_ok _ X σ f 1 hr.st hf
  have hfl := rmodrm_fl h hf
  generalize modrm X σ = Y at *
  obtain ⟨⟨m, k, r⟩, σ1⟩ := Y
  simp only at cM hfl hm hmod ⊢
  subst hm
  subst hmod
  have hfr : (refuse σ1).fl = some (3, 3, r) := by have := hfl.1; unfold refuse; split <;> exact this
  have HE : Hid (∀ W, RSt X W (refuse σ1) (3, 3, r) 1 → _) := fun W hW => e_lit W X (refuse σ1) (3, 3, r) 1 hW hfr hfl.2.1 4
  obtain ⟨⟨o0, o1', o2', o3', o4, o5, o6', o7, o8⟩, σ2, hY⟩ : ∃ o σ2, pE X 4 (refuse σ1) = (o, σ2) := ⟨_, _, rfl⟩
  rw [hY] at HE ⊢
  simp only at HE ⊢
  have HR : Hid _ := hr
  clear h hv hfl hr hf hY hfr
  go_enter Tryz.func202, Tryz.ntmps202
  try simp only [vl, vs, va, vb, vx]
  clear vl vs va vb vx
  obtain ⟨u0, u1, u2, u3, u4, u5, u6, u7, u8, u9, u10, u11⟩ := ups12
  go_wp2_with fail
  refine cM.mono ?_; rintro e w1 ⟨rfl, hd1⟩
  have hr1 := HR.out.call hd1
  have c6 := hr1.st.c6
  have c7 := hr1.st.c7
  have c9b := hr1.st.c9
  simp only at c6 c7
  have hS1 := hr1.st.ltS
  have HR1 : Hid _ := hr1
  clear cM hd1 hr1 HR d9 hS
  have cU := ud_ok w1 X σ1 (3, 3, r) 1 HR1.out.st
  go_wp2_with fail
  refine cU.mono ?_; rintro e w2 ⟨rfl, hd2⟩
  have hr2 := HR1.out.call hd2
  have c62 := hr2.st.c6
  have c72 := hr2.st.c7
  have c92 := hr2.st.c9
  simp only at c62 c72
  have hS2 := hr2.st.ltS
  have HR2 : Hid _ := hr2
  clear hd2 hr2 cU HR1 c6 c7 c9b
  have new1 := Hv.out.newQ
  go_wp2_with fail
  refine (HE.out _ HR2.out.st).mono ?_; rintro e w5 ⟨rfl, hd5⟩
  have hr5 := HR2.out.call hd5
  have hS5 := hr5.st.ltS
  have hI6 : InQ T X w w.heap.size w5.heap.size (((((((((((Ins.zero.up 0 42).up 2 4).up 3 o0).up 4 o1').up 5 o2').up 6 o3').up 7 o4).up 8 o5).up 9 o6').up 10 o7).up 11 o8) σ2 (3, 3, r) 1 (w5.alloc (.cells (insV (((((((((((Ins.zero.up 0 42).up 2 4).up 3 o0).up 4 o1').up 5 o2').up 6 o3').up 7 o4).up 8 o5).up 9 o6').up 10 o7).up 11 o8)) T)) := hr5.own _
  have e9 := hI6.r.st.c9
  have e7 := hI6.r.st.c7
  have e4 := hI6.r.st.c4
  simp only at e7
  have hSW := hI6.r.st.ltS
  have HI6 : Hid _ := hI6
  clear hI6 hd5 hr5
  go_upto_region 13 with fail
  have hI6 := HI6.out
  clear HI6 e9 e4 e7 hSW new1 HE
  generalize (w5.alloc (.cells (insV (((((((((((Ins.zero.up 0 42).up 2 4).up 3 o0).up 4 o1').up 5 o2').up 6 o3').up 7 o4).up 8 o5).up 9 o6').up 10 o7).up 11 o8)) T)) = W at hI6 ⊢
  generalize w5.heap.size = q at hI6 ⊢
  have e7 := hI6.r.st.c7
  simp only at e7
  have e9 := hI6.r.st.c9
  have a0 := (hI6).cell 0 (.int .i64 42) rfl
  have z0 := (hI6).fz 0
  have hJ0 := (hI6).set 0 (.int .i64 43) _ (insUp0 _ 43)
  have j7_0 := hJ0.r.st.c7
  simp only at j7_0
  have g8 := Hv.out.get hJ0.op
  have p8 := hJ0.r.put Hv.out
  have HI8 : Hid _ := hJ0
  clear hJ0 hI6
  go_wp2
  exact bodyPost_ret (v := _) (res1 rfl _ _ w.heap.size _ rfl (HI8.out.r.got Hv.out _)) rfl ⟨rfl, HI8.out.r.fin _⟩
theorem system_1_3_m (w : World) (X : Cx) (σ : Sg) (f : Int × Int × Int) (h : RSt X w σ f 1) (hf : σ.fl = none) (hm : (modrm X σ).1.2.1 = 3) (hmod : ¬ (modrm X σ).1.1 = 3) :
    Calls Tryz.prog 202 #[.pointer (some ⟨X.S, 0, none⟩)] w fun e w' => e = .returned (.agg (insV { Ins.zero with op := 43, size := 4, a := (pE X 4 (modrm X σ).2).1 })) ∧ RDn X w (pE X 4 (modrm X σ).2).2 (modrm X σ).1 1 w' := by
  obtain ⟨T, nI, fsI, psI, hv, Hv, ⟨vl, vs, vb, va, vx⟩, v1, v2, v3, v4, v5, v6, p0, p1, p2, p3, p4, p5, p6, p7, sz, ne⟩ := vlP
  have hr := RsQ.start (T := T) h
  have d9 := h.c9
  have hS := h.ltS
  have cM := rmodrm_ok _ X σ f 1 hr.st hf
  have hfl := rmodrm_fl h hf
  generalize modrm X σ = Y at *
  obtain ⟨⟨m, k, r⟩, σ1⟩ := Y
  simp only at cM hfl hm hmod ⊢
  subst hm
  have hmb : (m == 3) = false := by simpa using hmod
  have hfr := hfl.1
  have HE : Hid (∀ W, RSt X W σ1 (m, 3, r) 1 → _) := fun W hW => e_lit W X σ1 (m, 3, r) 1 hW hfr hfl.2.1 4
  obtain ⟨⟨o0, o1', o2', o3', o4, o5, o6', o7, o8⟩, σ2, hY⟩ : ∃ o σ2, pE X 4 σ1 = (o, σ2) := ⟨_, _, rfl⟩
  rw [hY] at HE ⊢
  simp only at HE ⊢
  have HR : Hid _ := hr
  clear h hv hfl hr hf hY hfr
  go_enter Tryz.func202, Tryz.ntmps202
  try simp only [vl, vs, va, vb, vx]
  clear vl vs va vb vx
  obtain ⟨u0, u1, u2, u3, u4, u5, u6, u7, u8, u9, u10, u11⟩ := ups12
  go_wp2_with fail
  refine cM.mono ?_; rintro e w1 ⟨rfl, hd1⟩
  have hr1 := HR.out.call hd1
  have c6 := hr1.st.c6
  have c7 := hr1.st.c7
  have c9b := hr1.st.c9
  simp only at c6 c7
  have hS1 := hr1.st.ltS
  have HR1 : Hid _ := hr1
  clear cM hd1 hr1 HR d9 hS
  have HR2 := HR1
  clear HR1
  have new1 := Hv.out.newQ
  go_wp2_with fail
  refine (HE.out _ HR2.out.st).mono ?_; rintro e w5 ⟨rfl, hd5⟩
  have hr5 := HR2.out.call hd5
  have hS5 := hr5.st.ltS
  have hI6 : InQ T X w w.heap.size w5.heap.size (((((((((((Ins.zero.up 0 42).up 2 4).up 3 o0).up 4 o1').up 5 o2').up 6 o3').up 7 o4).up 8 o5).up 9 o6').up 10 o7).up 11 o8) σ2 (m, 3, r) 1 (w5.alloc (.cells (insV (((((((((((Ins.zero.up 0 42).up 2 4).up 3 o0).up 4 o1').up 5 o2').up 6 o3').up 7 o4).up 8 o5).up 9 o6').up 10 o7).up 11 o8)) T)) := hr5.own _
  have e9 := hI6.r.st.c9
  have e7 := hI6.r.st.c7
  have e4 := hI6.r.st.c4
  simp only at e7
  have hSW := hI6.r.st.ltS
  have HI6 : Hid _ := hI6
  clear hI6 hd5 hr5
  go_upto_region 13 with fail
  have hI6 := HI6.out
  clear HI6 e9 e4 e7 hSW new1 HE
  generalize (w5.alloc (.cells (insV (((((((((((Ins.zero.up 0 42).up 2 4).up 3 o0).up 4 o1').up 5 o2').up 6 o3').up 7 o4).up 8 o5).up 9 o6').up 10 o7).up 11 o8)) T)) = W at hI6 ⊢
  generalize w5.heap.size = q at hI6 ⊢
  have e7 := hI6.r.st.c7
  simp only at e7
  have e9 := hI6.r.st.c9
  have a0 := (hI6).cell 0 (.int .i64 42) rfl
  have z0 := (hI6).fz 0
  have hJ0 := (hI6).set 0 (.int .i64 43) _ (insUp0 _ 43)
  have j7_0 := hJ0.r.st.c7
  simp only at j7_0
  have g8 := Hv.out.get hJ0.op
  have p8 := hJ0.r.put Hv.out
  have HI8 : Hid _ := hJ0
  clear hJ0 hI6
  go_wp2
  exact bodyPost_ret (v := _) (res1 rfl _ _ w.heap.size _ rfl (HI8.out.r.got Hv.out _)) rfl ⟨rfl, HI8.out.r.fin _⟩
theorem system_1_7_r (w : World) (X : Cx) (σ : Sg) (f : Int × Int × Int) (h : RSt X w σ f 1) (hf : σ.fl = none) (hm : (modrm X σ).1.2.1 = 7) (hmod : (modrm X σ).1.1 = 3) :
    Calls Tryz.prog 202 #[.pointer (some ⟨X.S, 0, none⟩)] w fun e w' => e = .returned (.agg (insV { Ins.zero with op := 46, size := 4, a := (pE X 4 (refuse (modrm X σ).2)).1 })) ∧ RDn X w (pE X 4 (refuse (modrm X σ).2)).2 (modrm X σ).1 1 w' := by
  obtain ⟨T, nI, fsI, psI, hv, Hv, ⟨vl, vs, vb, va, vx⟩, v1, v2, v3, v4, v5, v6, p0, p1, p2, p3, p4, p5, p6, p7, sz, ne⟩ := vlP
  have hr := RsQ.start (T := T) h
  have d9 := h.c9
  have hS := h.ltS
  have cM := rmodrm_ok _ X σ f 1 hr.st hf
  have hfl := rmodrm_fl h hf
  generalize modrm X σ = Y at *
  obtain ⟨⟨m, k, r⟩, σ1⟩ := Y
  simp only at cM hfl hm hmod ⊢
  subst hm
  subst hmod
  have hfr : (refuse σ1).fl = some (3, 7, r) := by have := hfl.1; unfold refuse; split <;> exact this
  have HE : Hid (∀ W, RSt X W (refuse σ1) (3, 7, r) 1 → _) := fun W hW => e_lit W X (refuse σ1) (3, 7, r) 1 hW hfr hfl.2.1 4
  obtain ⟨⟨o0, o1', o2', o3', o4, o5, o6', o7, o8⟩, σ2, hY⟩ : ∃ o σ2, pE X 4 (refuse σ1) = (o, σ2) := ⟨_, _, rfl⟩
  rw [hY] at HE ⊢
  simp only at HE ⊢
  have HR : Hid _ := hr
  clear h hv hfl hr hf hY hfr
  go_enter Tryz.func202, Tryz.ntmps202
  try simp only [vl, vs, va, vb, vx]
  clear vl vs va vb vx
  obtain ⟨u0, u1, u2, u3, u4, u5, u6, u7, u8, u9, u10, u11⟩ := ups12
  go_wp2_with fail
  refine cM.mono ?_; rintro e w1 ⟨rfl, hd1⟩
  have hr1 := HR.out.call hd1
  have c6 := hr1.st.c6
  have c7 := hr1.st.c7
  have c9b := hr1.st.c9
  simp only at c6 c7
  have hS1 := hr1.st.ltS
  have HR1 : Hid _ := hr1
  clear cM hd1 hr1 HR d9 hS
  have cU := ud_ok w1 X σ1 (3, 7, r) 1 HR1.out.st
  go_wp2_with fail
  refine cU.mono ?_; rintro e w2 ⟨rfl, hd2⟩
  have hr2 := HR1.out.call hd2
  have c62 := hr2.st.c6
  have c72 := hr2.st.c7
  have c92 := hr2.st.c9
  simp only at c62 c72
  have hS2 := hr2.st.ltS
  have HR2 : Hid _ := hr2
  clear hd2 hr2 cU HR1 c6 c7 c9b
  have new1 := Hv.out.newQ
  go_wp2_with fail
  refine (HE.out _ HR2.out.st).mono ?_; rintro e w5 ⟨rfl, hd5⟩
  have hr5 := HR2.out.call hd5
  have hS5 := hr5.st.ltS
  have hI6 : InQ T X w w.heap.size w5.heap.size (((((((((((Ins.zero.up 0 42).up 2 4).up 3 o0).up 4 o1').up 5 o2').up 6 o3').up 7 o4).up 8 o5).up 9 o6').up 10 o7).up 11 o8) σ2 (3, 7, r) 1 (w5.alloc (.cells (insV (((((((((((Ins.zero.up 0 42).up 2 4).up 3 o0).up 4 o1').up 5 o2').up 6 o3').up 7 o4).up 8 o5).up 9 o6').up 10 o7).up 11 o8)) T)) := hr5.own _
  have e9 := hI6.r.st.c9
  have e7 := hI6.r.st.c7
  have e4 := hI6.r.st.c4
  simp only at e7
  have hSW := hI6.r.st.ltS
  have HI6 : Hid _ := hI6
  clear hI6 hd5 hr5
  go_upto_region 13 with fail
  have hI6 := HI6.out
  clear HI6 e9 e4 e7 hSW new1 HE
  generalize (w5.alloc (.cells (insV (((((((((((Ins.zero.up 0 42).up 2 4).up 3 o0).up 4 o1').up 5 o2').up 6 o3').up 7 o4).up 8 o5).up 9 o6').up 10 o7).up 11 o8)) T)) = W at hI6 ⊢
  generalize w5.heap.size = q at hI6 ⊢
  have e7 := hI6.r.st.c7
  simp only at e7
  have e9 := hI6.r.st.c9
  have a0 := (hI6).cell 0 (.int .i64 42) rfl
  have z0 := (hI6).fz 0
  have hJ0 := (hI6).set 0 (.int .i64 46) _ (insUp0 _ 46)
  have j7_0 := hJ0.r.st.c7
  simp only at j7_0
  have g8 := Hv.out.get hJ0.op
  have p8 := hJ0.r.put Hv.out
  have HI8 : Hid _ := hJ0
  clear hJ0 hI6
  go_wp2
  exact bodyPost_ret (v := _) (res1 rfl _ _ w.heap.size _ rfl (HI8.out.r.got Hv.out _)) rfl ⟨rfl, HI8.out.r.fin _⟩
theorem system_1_7_m (w : World) (X : Cx) (σ : Sg) (f : Int × Int × Int) (h : RSt X w σ f 1) (hf : σ.fl = none) (hm : (modrm X σ).1.2.1 = 7) (hmod : ¬ (modrm X σ).1.1 = 3) :
    Calls Tryz.prog 202 #[.pointer (some ⟨X.S, 0, none⟩)] w fun e w' => e = .returned (.agg (insV { Ins.zero with op := 46, size := 4, a := (pE X 4 (modrm X σ).2).1 })) ∧ RDn X w (pE X 4 (modrm X σ).2).2 (modrm X σ).1 1 w' := by
  obtain ⟨T, nI, fsI, psI, hv, Hv, ⟨vl, vs, vb, va, vx⟩, v1, v2, v3, v4, v5, v6, p0, p1, p2, p3, p4, p5, p6, p7, sz, ne⟩ := vlP
  have hr := RsQ.start (T := T) h
  have d9 := h.c9
  have hS := h.ltS
  have cM := rmodrm_ok _ X σ f 1 hr.st hf
  have hfl := rmodrm_fl h hf
  generalize modrm X σ = Y at *
  obtain ⟨⟨m, k, r⟩, σ1⟩ := Y
  simp only at cM hfl hm hmod ⊢
  subst hm
  have hmb : (m == 3) = false := by simpa using hmod
  have hfr := hfl.1
  have HE : Hid (∀ W, RSt X W σ1 (m, 7, r) 1 → _) := fun W hW => e_lit W X σ1 (m, 7, r) 1 hW hfr hfl.2.1 4
  obtain ⟨⟨o0, o1', o2', o3', o4, o5, o6', o7, o8⟩, σ2, hY⟩ : ∃ o σ2, pE X 4 σ1 = (o, σ2) := ⟨_, _, rfl⟩
  rw [hY] at HE ⊢
  simp only at HE ⊢
  have HR : Hid _ := hr
  clear h hv hfl hr hf hY hfr
  go_enter Tryz.func202, Tryz.ntmps202
  try simp only [vl, vs, va, vb, vx]
  clear vl vs va vb vx
  obtain ⟨u0, u1, u2, u3, u4, u5, u6, u7, u8, u9, u10, u11⟩ := ups12
  go_wp2_with fail
  refine cM.mono ?_; rintro e w1 ⟨rfl, hd1⟩
  have hr1 := HR.out.call hd1
  have c6 := hr1.st.c6
  have c7 := hr1.st.c7
  have c9b := hr1.st.c9
  simp only at c6 c7
  have hS1 := hr1.st.ltS
  have HR1 : Hid _ := hr1
  clear cM hd1 hr1 HR d9 hS
  have HR2 := HR1
  clear HR1
  have new1 := Hv.out.newQ
  go_wp2_with fail
  refine (HE.out _ HR2.out.st).mono ?_; rintro e w5 ⟨rfl, hd5⟩
  have hr5 := HR2.out.call hd5
  have hS5 := hr5.st.ltS
  have hI6 : InQ T X w w.heap.size w5.heap.size (((((((((((Ins.zero.up 0 42).up 2 4).up 3 o0).up 4 o1').up 5 o2').up 6 o3').up 7 o4).up 8 o5).up 9 o6').up 10 o7).up 11 o8) σ2 (m, 7, r) 1 (w5.alloc (.cells (insV (((((((((((Ins.zero.up 0 42).up 2 4).up 3 o0).up 4 o1').up 5 o2').up 6 o3').up 7 o4).up 8 o5).up 9 o6').up 10 o7).up 11 o8)) T)) := hr5.own _
  have e9 := hI6.r.st.c9
  have e7 := hI6.r.st.c7
  have e4 := hI6.r.st.c4
  simp only at e7
  have hSW := hI6.r.st.ltS
  have HI6 : Hid _ := hI6
  clear hI6 hd5 hr5
  go_upto_region 13 with fail
  have hI6 := HI6.out
  clear HI6 e9 e4 e7 hSW new1 HE
  generalize (w5.alloc (.cells (insV (((((((((((Ins.zero.up 0 42).up 2 4).up 3 o0).up 4 o1').up 5 o2').up 6 o3').up 7 o4).up 8 o5).up 9 o6').up 10 o7).up 11 o8)) T)) = W at hI6 ⊢
  generalize w5.heap.size = q at hI6 ⊢
  have e7 := hI6.r.st.c7
  simp only at e7
  have e9 := hI6.r.st.c9
  have a0 := (hI6).cell 0 (.int .i64 42) rfl
  have z0 := (hI6).fz 0
  have hJ0 := (hI6).set 0 (.int .i64 46) _ (insUp0 _ 46)
  have j7_0 := hJ0.r.st.c7
  simp only at j7_0
  have g8 := Hv.out.get hJ0.op
  have p8 := hJ0.r.put Hv.out
  have HI8 : Hid _ := hJ0
  clear hJ0 hI6
  go_wp2
  exact bodyPost_ret (v := _) (res1 rfl _ _ w.heap.size _ rfl (HI8.out.r.got Hv.out _)) rfl ⟨rfl, HI8.out.r.fin _⟩
end Go.Proofs.YtbfccfhjgopnbaaGreat
