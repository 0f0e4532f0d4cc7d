/- The document's reader, and the code's (RfLastG). -/
import Derived.Test.YtbfccfhjgopnbaaGreatDr26
set_option linter.unusedSimpArgs false
namespace Go.Proofs.YtbfccfhjgopnbaaGreat
open Go.ChangeShapes Go.WideShapes Go.ChangeAt Go.RowKit
set_option linter.unusedVariables false
set_option linter.unusedSimpArgs false
set_option maxHeartbeats 4000000
set_option maxRecDepth 20000
theorem last_254_0 (w : World) (X : Cx) (σ : Sg) (f : Int × Int × Int) (h : RSt X w σ f 254) (hf : σ.fl = none) (hm : (modrm X σ).1.2.1 = 0) :
    Calls Tryz.prog 30 #[.pointer (some ⟨X.S, 0, none⟩)] w fun e w' => e = .returned (.agg (insV { Ins.zero with op := 1, sub := 9, size := (szM 254 σ), a := (pE X (szM 254 σ) (modrm X σ).2).1 })) ∧ RDn X w (pE X (szM 254 σ) (modrm X σ).2).2 (modrm X σ).1 254 w' := by
  obtain ⟨T, nI, fsI, psI, hv, Hv, ⟨vl, vs, vb, va, vx⟩, v1, v2, v3, v4, v5, v6, p0, p1, p2, p3, p4, p5, p6, p7, sz, ne⟩ := vlP
  obtain ⟨U, mU, ho, Ho, ⟨ol, os, oa⟩, o1, o2, o3, o6, so⟩ := vlOP
  have hr := RsQ.no (RsQ.start (T := T) h) (Kp.alloc noB _ (.cells #[.int .i64 2, .int .i64 (-1), .int .i64 (-1), .int .i64 0, .int .i64 1, .int .i64 5, .int .i64 6, .int .i64 3, .int .i64 4] 3))
  have c4 := h.c4
  have d9 := h.c9
  have hS := h.ltS
  have Hsz : Hid (szM 254 σ = 1 ∨ szM 254 σ = 2 ∨ szM 254 σ = 4) := szM_or h.vv
  have cS := rsize_ok _ X σ f 254 hr.st (by decide)
  have cM := rmodrm_ok _ X σ f 254 hr.st hf
  have hfl := rmodrm_fl h hf
  obtain ⟨s, hs⟩ : ∃ s, s = (szM 254 σ) := ⟨_, rfl⟩
  rw [← hs] at cS Hsz ⊢
  generalize modrm X σ = Y at *
  obtain ⟨⟨m, k, r⟩, σ1⟩ := Y
  simp only at cM hfl hm ⊢
  subst hm
  have HE : Hid (∀ W, RSt X W σ1 (m, 0, r) 254 → _) := fun W hW => e_lit W X σ1 (m, 0, r) 254 hW hfl.1 hfl.2.1 s
  obtain ⟨⟨o0, o1', o2', o3', o4, o5, o6', o7, o8⟩, σ2, hY⟩ : ∃ o σ2, pE X s σ1 = (o, σ2) := ⟨_, _, rfl⟩
  rw [hY] at HE ⊢
  simp only at HE ⊢
  have HR : Hid _ := hr
  clear h hv ho hfl hr hf hs hY
  go_enter Tryz.func30, Tryz.ntmps30
  try simp only [vl, vs, va, vb, vx, ol, os, oa]
  clear vl vs va vb vx ol os oa
  go_wp2_with fail
  refine cS.mono ?_; rintro e wn ⟨rfl, rfl⟩
  go_wp2_with fail
  refine cM.mono ?_; rintro e w1 ⟨rfl, hd1⟩
  have hr1 := HR.out.call hd1
  have c7 := hr1.st.c7
  have c4b := hr1.st.c4
  have c9b := hr1.st.c9
  simp only at c7
  have hS1 := hr1.st.ltS
  have HR1 : Hid _ := hr1
  clear cS cM hd1 hr1 HR c4 d9 hS
  have new1 := Hv.out.newQ
  obtain ⟨u0, u1, u2, u3, u4, u5, u6, u7, u8, u9, u10, u11⟩ := ups12
  go_wp2_with fail
  refine (HE.out _ HR1.out.st).mono ?_; rintro e w5 ⟨rfl, hd5⟩
  have hr5 := HR1.out.call hd5
  have hS5 := hr5.st.ltS
  have hI6 : InQ T X w w.heap.size w5.heap.size ((((((((((((Ins.zero.up 0 1).up 1 9).up 2 s).up 3 o0).up 4 o1').up 5 o2').up 6 o3').up 7 o4).up 8 o5).up 9 o6').up 10 o7).up 11 o8) σ2 (m, 0, r) 254 (w5.alloc (.cells (insV ((((((((((((Ins.zero.up 0 1).up 1 9).up 2 s).up 3 o0).up 4 o1').up 5 o2').up 6 o3').up 7 o4).up 8 o5).up 9 o6').up 10 o7).up 11 o8)) T)) := hr5.own _
  have e9 := hI6.r.st.c9
  have e7 := hI6.r.st.c7
  have e4 := hI6.r.st.c4
  simp only at e7
  have hSW := hI6.r.st.ltS
  have HI6 : Hid _ := hI6
  clear hI6 hd5 hr5 c7 c4b c9b
  have hI6 := HI6.out
  have g8 := Hv.out.get hI6.op
  have p8 := hI6.r.put Hv.out
  clear hI6
  go_wp2
  exact bodyPost_ret (v := _) (res1 rfl _ _ w.heap.size _ rfl (HI6.out.r.got Hv.out _)) rfl ⟨rfl, HI6.out.r.fin _⟩
theorem last_254_1 (w : World) (X : Cx) (σ : Sg) (f : Int × Int × Int) (h : RSt X w σ f 254) (hf : σ.fl = none) (hm : (modrm X σ).1.2.1 = 1) :
    Calls Tryz.prog 30 #[.pointer (some ⟨X.S, 0, none⟩)] w fun e w' => e = .returned (.agg (insV { Ins.zero with op := 1, sub := 10, size := (szM 254 σ), a := (pE X (szM 254 σ) (modrm X σ).2).1 })) ∧ RDn X w (pE X (szM 254 σ) (modrm X σ).2).2 (modrm X σ).1 254 w' := by
  obtain ⟨T, nI, fsI, psI, hv, Hv, ⟨vl, vs, vb, va, vx⟩, v1, v2, v3, v4, v5, v6, p0, p1, p2, p3, p4, p5, p6, p7, sz, ne⟩ := vlP
  obtain ⟨U, mU, ho, Ho, ⟨ol, os, oa⟩, o1, o2, o3, o6, so⟩ := vlOP
  have hr := RsQ.no (RsQ.start (T := T) h) (Kp.alloc noB _ (.cells #[.int .i64 2, .int .i64 (-1), .int .i64 (-1), .int .i64 0, .int .i64 1, .int .i64 5, .int .i64 6, .int .i64 3, .int .i64 4] 3))
  have c4 := h.c4
  have d9 := h.c9
  have hS := h.ltS
  have Hsz : Hid (szM 254 σ = 1 ∨ szM 254 σ = 2 ∨ szM 254 σ = 4) := szM_or h.vv
  have cS := rsize_ok _ X σ f 254 hr.st (by decide)
  have cM := rmodrm_ok _ X σ f 254 hr.st hf
  have hfl := rmodrm_fl h hf
  obtain ⟨s, hs⟩ : ∃ s, s = (szM 254 σ) := ⟨_, rfl⟩
  rw [← hs] at cS Hsz ⊢
  generalize modrm X σ = Y at *
  obtain ⟨⟨m, k, r⟩, σ1⟩ := Y
  simp only at cM hfl hm ⊢
  subst hm
  have HE : Hid (∀ W, RSt X W σ1 (m, 1, r) 254 → _) := fun W hW => e_lit W X σ1 (m, 1, r) 254 hW hfl.1 hfl.2.1 s
  obtain ⟨⟨o0, o1', o2', o3', o4, o5, o6', o7, o8⟩, σ2, hY⟩ : ∃ o σ2, pE X s σ1 = (o, σ2) := ⟨_, _, rfl⟩
  rw [hY] at HE ⊢
  simp only at HE ⊢
  have HR : Hid _ := hr
  clear h hv ho hfl hr hf hs hY
  go_enter Tryz.func30, Tryz.ntmps30
  try simp only [vl, vs, va, vb, vx, ol, os, oa]
  clear vl vs va vb vx ol os oa
  go_wp2_with fail
  refine cS.mono ?_; rintro e wn ⟨rfl, rfl⟩
  go_wp2_with fail
  refine cM.mono ?_; rintro e w1 ⟨rfl, hd1⟩
  have hr1 := HR.out.call hd1
  have c7 := hr1.st.c7
  have c4b := hr1.st.c4
  have c9b := hr1.st.c9
  simp only at c7
  have hS1 := hr1.st.ltS
  have HR1 : Hid _ := hr1
  clear cS cM hd1 hr1 HR c4 d9 hS
  have new1 := Hv.out.newQ
  obtain ⟨u0, u1, u2, u3, u4, u5, u6, u7, u8, u9, u10, u11⟩ := ups12
  go_wp2_with fail
  refine (HE.out _ HR1.out.st).mono ?_; rintro e w5 ⟨rfl, hd5⟩
  have hr5 := HR1.out.call hd5
  have hS5 := hr5.st.ltS
  have hI6 : InQ T X w w.heap.size w5.heap.size ((((((((((((Ins.zero.up 0 1).up 1 9).up 2 s).up 3 o0).up 4 o1').up 5 o2').up 6 o3').up 7 o4).up 8 o5).up 9 o6').up 10 o7).up 11 o8) σ2 (m, 1, r) 254 (w5.alloc (.cells (insV ((((((((((((Ins.zero.up 0 1).up 1 9).up 2 s).up 3 o0).up 4 o1').up 5 o2').up 6 o3').up 7 o4).up 8 o5).up 9 o6').up 10 o7).up 11 o8)) T)) := hr5.own _
  have e9 := hI6.r.st.c9
  have e7 := hI6.r.st.c7
  have e4 := hI6.r.st.c4
  simp only at e7
  have hSW := hI6.r.st.ltS
  have HI6 : Hid _ := hI6
  clear hI6 hd5 hr5 c7 c4b c9b
  go_upto_region 30 with fail
  have hI6 := HI6.out
  clear HI6 e9 e4 e7 hSW new1 HE
  generalize (w5.alloc (.cells (insV ((((((((((((Ins.zero.up 0 1).up 1 9).up 2 s).up 3 o0).up 4 o1').up 5 o2').up 6 o3').up 7 o4).up 8 o5).up 9 o6').up 10 o7).up 11 o8)) T)) = W at hI6 ⊢
  generalize w5.heap.size = q at hI6 ⊢
  have e7 := hI6.r.st.c7
  simp only at e7
  have e9 := hI6.r.st.c9
  have a0 := (hI6).cell 1 (.int .i64 9) rfl
  have z0 := (hI6).fz 1
  have hJ0 := (hI6).set 1 (.int .i64 10) _ (insUp1 _ 10)
  have j7_0 := hJ0.r.st.c7
  simp only at j7_0
  have g8 := Hv.out.get hJ0.op
  have p8 := hJ0.r.put Hv.out
  have HI8 : Hid _ := hJ0
  clear hJ0 hI6
  go_wp2
  exact bodyPost_ret (v := _) (res1 rfl _ _ w.heap.size _ rfl (HI8.out.r.got Hv.out _)) rfl ⟨rfl, HI8.out.r.fin _⟩
theorem last_254_u (w : World) (X : Cx) (σ : Sg) (f : Int × Int × Int) (h : RSt X w σ f 254) (hf : σ.fl = none) (hm : (modrm X σ).1.2.1 = 2 ∨ (modrm X σ).1.2.1 = 3 ∨ (modrm X σ).1.2.1 = 4 ∨ (modrm X σ).1.2.1 = 5 ∨ (modrm X σ).1.2.1 = 6 ∨ (modrm X σ).1.2.1 = 7) :
    Calls Tryz.prog 30 #[.pointer (some ⟨X.S, 0, none⟩)] w fun e w' => e = .returned (.agg (insV Ins.zero)) ∧ RDn X w (refuse (modrm X σ).2) (modrm X σ).1 254 w' := by
  rcases hm with hm | hm | hm | hm | hm | hm
  all_goals
    obtain ⟨T, nI, fsI, psI, hv, Hv, ⟨vl, vs, vb, va, vx⟩, v1, v2, v3, v4, v5, v6, p0, p1, p2, p3, p4, p5, p6, p7, sz, ne⟩ := vlP
    have hr := RsQ.no (RsQ.start (T := T) h) (Kp.alloc noB _ (.cells #[.int .i64 2, .int .i64 (-1), .int .i64 (-1), .int .i64 0, .int .i64 1, .int .i64 5, .int .i64 6, .int .i64 3, .int .i64 4] 3))
    have hS := h.ltS
    have c9 := h.c9
    have cS := rsize_ok _ X σ f 254 hr.st (by decide)
    have cM := rmodrm_ok _ X σ f 254 hr.st hf
    generalize modrm X σ = Y at *
    obtain ⟨⟨m, k, r⟩, σ1⟩ := Y
    simp only at cM hm ⊢
    subst hm
    have Hr : Hid _ := hr
    clear h hv hf
    go_enter Tryz.func30, Tryz.ntmps30
    try simp only [vl, vs, va, vb, vx]
    clear vl vs va vb vx
    go_wp2_with fail
    refine cS.mono ?_; rintro e wn ⟨rfl, rfl⟩
    clear cS
    go_wp2_with fail
    refine cM.mono ?_; rintro e w1 ⟨rfl, hd1⟩
    have hr1 := Hr.out.call hd1
    have c71 := hr1.st.c7
    have c61 := hr1.st.c6
    simp only at c71 c61
    have hS1 := hr1.st.ltS
    have hrA := fun o => RsQ.no hr1 (Kp.alloc noB _ o)
    have Hr1 : Hid _ := hr1
    clear hd1 cM hr1
    go_wp2_with (go_at_call 31; refine (ud_ok _ X σ1 _ 254 (RsQ.st (by first | exact Hr1.out | exact hrA _))).mono ?_; rintro e w2 ⟨rfl, hd2⟩; have hr2 := RsQ.call (by first | exact Hr1.out | exact hrA _) hd2; have p2' := hr2.put Hv.out)
    exact bodyPost_ret (v := _) (res1 rfl _ _ w.heap.size _ rfl (RsQ.got Hv.out (by assumption) _)) rfl ⟨rfl, RsQ.fin (by assumption) _⟩
theorem last_255_0 (w : World) (X : Cx) (σ : Sg) (f : Int × Int × Int) (h : RSt X w σ f 255) (hf : σ.fl = none) (hm : (modrm X σ).1.2.1 = 0) :
    Calls Tryz.prog 30 #[.pointer (some ⟨X.S, 0, none⟩)] w fun e w' => e = .returned (.agg (insV { Ins.zero with op := 1, sub := 9, size := (szM 255 σ), a := (pE X (szM 255 σ) (modrm X σ).2).1 })) ∧ RDn X w (pE X (szM 255 σ) (modrm X σ).2).2 (modrm X σ).1 255 w' := by
  obtain ⟨T, nI, fsI, psI, hv, Hv, ⟨vl, vs, vb, va, vx⟩, v1, v2, v3, v4, v5, v6, p0, p1, p2, p3, p4, p5, p6, p7, sz, ne⟩ := vlP
  obtain ⟨U, mU, ho, Ho, ⟨ol, os, oa⟩, o1, o2, o3, o6, so⟩ := vlOP
  have hr := RsQ.no (RsQ.start (T := T) h) (Kp.alloc noB _ (.cells #[.int .i64 2, .int .i64 (-1), .int .i64 (-1), .int .i64 0, .int .i64 1, .int .i64 5, .int .i64 6, .int .i64 3, .int .i64 4] 3))
  have c4 := h.c4
  have d9 := h.c9
  have hS := h.ltS
  have Hsz : Hid (szM 255 σ = 1 ∨ szM 255 σ = 2 ∨ szM 255 σ = 4) := szM_or h.vv
  have cS := rsize_ok _ X σ f 255 hr.st (by decide)
  have cM := rmodrm_ok _ X σ f 255 hr.st hf
  have hfl := rmodrm_fl h hf
  obtain ⟨s, hs⟩ : ∃ s, s = (szM 255 σ) := ⟨_, rfl⟩
  rw [← hs] at cS Hsz ⊢
  generalize modrm X σ = Y at *
  obtain ⟨⟨m, k, r⟩, σ1⟩ := Y
  simp only at cM hfl hm ⊢
  subst hm
  have HE : Hid (∀ W, RSt X W σ1 (m, 0, r) 255 → _) := fun W hW => e_lit W X σ1 (m, 0, r) 255 hW hfl.1 hfl.2.1 s
  obtain ⟨⟨o0, o1', o2', o3', o4, o5, o6', o7, o8⟩, σ2, hY⟩ : ∃ o σ2, pE X s σ1 = (o, σ2) := ⟨_, _, rfl⟩
  rw [hY] at HE ⊢
  simp only at HE ⊢
  have HR : Hid _ := hr
  clear h hv ho hfl hr hf hs hY
  go_enter Tryz.func30, Tryz.ntmps30
  try simp only [vl, vs, va, vb, vx, ol, os, oa]
  clear vl vs va vb vx ol os oa
  go_wp2_with fail
  refine cS.mono ?_; rintro e wn ⟨rfl, rfl⟩
  go_wp2_with fail
  refine cM.mono ?_; rintro e w1 ⟨rfl, hd1⟩
  have hr1 := HR.out.call hd1
  have c7 := hr1.st.c7
  have c4b := hr1.st.c4
  have c9b := hr1.st.c9
  simp only at c7
  have hS1 := hr1.st.ltS
  have HR1 : Hid _ := hr1
  clear cS cM hd1 hr1 HR c4 d9 hS
  have new1 := Hv.out.newQ
  obtain ⟨u0, u1, u2, u3, u4, u5, u6, u7, u8, u9, u10, u11⟩ := ups12
  go_wp2_with fail
  refine (HE.out _ HR1.out.st).mono ?_; rintro e w5 ⟨rfl, hd5⟩
  have hr5 := HR1.out.call hd5
  have hS5 := hr5.st.ltS
  have hI6 : InQ T X w w.heap.size w5.heap.size ((((((((((((Ins.zero.up 0 1).up 1 9).up 2 s).up 3 o0).up 4 o1').up 5 o2').up 6 o3').up 7 o4).up 8 o5).up 9 o6').up 10 o7).up 11 o8) σ2 (m, 0, r) 255 (w5.alloc (.cells (insV ((((((((((((Ins.zero.up 0 1).up 1 9).up 2 s).up 3 o0).up 4 o1').up 5 o2').up 6 o3').up 7 o4).up 8 o5).up 9 o6').up 10 o7).up 11 o8)) T)) := hr5.own _
  have e9 := hI6.r.st.c9
  have e7 := hI6.r.st.c7
  have e4 := hI6.r.st.c4
  simp only at e7
  have hSW := hI6.r.st.ltS
  have HI6 : Hid _ := hI6
  clear hI6 hd5 hr5 c7 c4b c9b
  have hI6 := HI6.out
  have g8 := Hv.out.get hI6.op
  have p8 := hI6.r.put Hv.out
  clear hI6
  go_wp2
  exact bodyPost_ret (v := _) (res1 rfl _ _ w.heap.size _ rfl (HI6.out.r.got Hv.out _)) rfl ⟨rfl, HI6.out.r.fin _⟩
theorem last_255_1 (w : World) (X : Cx) (σ : Sg) (f : Int × Int × Int) (h : RSt X w σ f 255) (hf : σ.fl = none) (hm : (modrm X σ).1.2.1 = 1) :
    Calls Tryz.prog 30 #[.pointer (some ⟨X.S, 0, none⟩)] w fun e w' => e = .returned (.agg (insV { Ins.zero with op := 1, sub := 10, size := (szM 255 σ), a := (pE X (szM 255 σ) (modrm X σ).2).1 })) ∧ RDn X w (pE X (szM 255 σ) (modrm X σ).2).2 (modrm X σ).1 255 w' := by
  obtain ⟨T, nI, fsI, psI, hv, Hv, ⟨vl, vs, vb, va, vx⟩, v1, v2, v3, v4, v5, v6, p0, p1, p2, p3, p4, p5, p6, p7, sz, ne⟩ := vlP
  obtain ⟨U, mU, ho, Ho, ⟨ol, os, oa⟩, o1, o2, o3, o6, so⟩ := vlOP
  have hr := RsQ.no (RsQ.start (T := T) h) (Kp.alloc noB _ (.cells #[.int .i64 2, .int .i64 (-1), .int .i64 (-1), .int .i64 0, .int .i64 1, .int .i64 5, .int .i64 6, .int .i64 3, .int .i64 4] 3))
  have c4 := h.c4
  have d9 := h.c9
  have hS := h.ltS
  have Hsz : Hid (szM 255 σ = 1 ∨ szM 255 σ = 2 ∨ szM 255 σ = 4) := szM_or h.vv
  have cS := rsize_ok _ X σ f 255 hr.st (by decide)
  have cM := rmodrm_ok _ X σ f 255 hr.st hf
  have hfl := rmodrm_fl h hf
  obtain ⟨s, hs⟩ : ∃ s, s = (szM 255 σ) := ⟨_, rfl⟩
  rw [← hs] at cS Hsz ⊢
  generalize modrm X σ = Y at *
  obtain ⟨⟨m, k, r⟩, σ1⟩ := Y
  simp only at cM hfl hm ⊢
  subst hm
  have HE : Hid (∀ W, RSt X W σ1 (m, 1, r) 255 → _) := fun W hW => e_lit W X σ1 (m, 1, r) 255 hW hfl.1 hfl.2.1 s
  obtain ⟨⟨o0, o1', o2', o3', o4, o5, o6', o7, o8⟩, σ2, hY⟩ : ∃ o σ2, pE X s σ1 = (o, σ2) := ⟨_, _, rfl⟩
  rw [hY] at HE ⊢
  simp only at HE ⊢
  have HR : Hid _ := hr
  clear h hv ho hfl hr hf hs hY
  go_enter Tryz.func30, Tryz.ntmps30
  try simp only [vl, vs, va, vb, vx, ol, os, oa]
  clear vl vs va vb vx ol os oa
  go_wp2_with fail
  refine cS.mono ?_; rintro e wn ⟨rfl, rfl⟩
  go_wp2_with fail
  refine cM.mono ?_; rintro e w1 ⟨rfl, hd1⟩
  have hr1 := HR.out.call hd1
  have c7 := hr1.st.c7
  have c4b := hr1.st.c4
  have c9b := hr1.st.c9
  simp only at c7
  have hS1 := hr1.st.ltS
  have HR1 : Hid _ := hr1
  clear cS cM hd1 hr1 HR c4 d9 hS
  have new1 := Hv.out.newQ
  obtain ⟨u0, u1, u2, u3, u4, u5, u6, u7, u8, u9, u10, u11⟩ := ups12
  go_wp2_with fail
  refine (HE.out _ HR1.out.st).mono ?_; rintro e w5 ⟨rfl, hd5⟩
  have hr5 := HR1.out.call hd5
  have hS5 := hr5.st.ltS
  have hI6 : InQ T X w w.heap.size w5.heap.size ((((((((((((Ins.zero.up 0 1).up 1 9).up 2 s).up 3 o0).up 4 o1').up 5 o2').up 6 o3').up 7 o4).up 8 o5).up 9 o6').up 10 o7).up 11 o8) σ2 (m, 1, r) 255 (w5.alloc (.cells (insV ((((((((((((Ins.zero.up 0 1).up 1 9).up 2 s).up 3 o0).up 4 o1').up 5 o2').up 6 o3').up 7 o4).up 8 o5).up 9 o6').up 10 o7).up 11 o8)) T)) := hr5.own _
  have e9 := hI6.r.st.c9
  have e7 := hI6.r.st.c7
  have e4 := hI6.r.st.c4
  simp only at e7
  have hSW := hI6.r.st.ltS
  have HI6 : Hid _ := hI6
  clear hI6 hd5 hr5 c7 c4b c9b
  go_upto_region 30 with fail
  have hI6 := HI6.out
  clear HI6 e9 e4 e7 hSW new1 HE
  generalize (w5.alloc (.cells (insV ((((((((((((Ins.zero.up 0 1).up 1 9).up 2 s).up 3 o0).up 4 o1').up 5 o2').up 6 o3').up 7 o4).up 8 o5).up 9 o6').up 10 o7).up 11 o8)) T)) = W at hI6 ⊢
  generalize w5.heap.size = q at hI6 ⊢
  have e7 := hI6.r.st.c7
  simp only at e7
  have e9 := hI6.r.st.c9
  have a0 := (hI6).cell 1 (.int .i64 9) rfl
  have z0 := (hI6).fz 1
  have hJ0 := (hI6).set 1 (.int .i64 10) _ (insUp1 _ 10)
  have j7_0 := hJ0.r.st.c7
  simp only at j7_0
  have g8 := Hv.out.get hJ0.op
  have p8 := hJ0.r.put Hv.out
  have HI8 : Hid _ := hJ0
  clear hJ0 hI6
  go_wp2
  exact bodyPost_ret (v := _) (res1 rfl _ _ w.heap.size _ rfl (HI8.out.r.got Hv.out _)) rfl ⟨rfl, HI8.out.r.fin _⟩
theorem last_255_2 (w : World) (X : Cx) (σ : Sg) (f : Int × Int × Int) (h : RSt X w σ f 255) (hf : σ.fl = none) (hm : (modrm X σ).1.2.1 = 2) :
    Calls Tryz.prog 30 #[.pointer (some ⟨X.S, 0, none⟩)] w fun e w' => e = .returned (.agg (insV { Ins.zero with op := 29, sub := 0, size := (szM 255 σ), a := (pE X (szM 255 σ) (modrm X σ).2).1 })) ∧ RDn X w (pE X (szM 255 σ) (modrm X σ).2).2 (modrm X σ).1 255 w' := by
  obtain ⟨T, nI, fsI, psI, hv, Hv, ⟨vl, vs, vb, va, vx⟩, v1, v2, v3, v4, v5, v6, p0, p1, p2, p3, p4, p5, p6, p7, sz, ne⟩ := vlP
  obtain ⟨U, mU, ho, Ho, ⟨ol, os, oa⟩, o1, o2, o3, o6, so⟩ := vlOP
  have hr := RsQ.no (RsQ.start (T := T) h) (Kp.alloc noB _ (.cells #[.int .i64 2, .int .i64 (-1), .int .i64 (-1), .int .i64 0, .int .i64 1, .int .i64 5, .int .i64 6, .int .i64 3, .int .i64 4] 3))
  have c4 := h.c4
  have d9 := h.c9
  have hS := h.ltS
  have Hsz : Hid (szM 255 σ = 1 ∨ szM 255 σ = 2 ∨ szM 255 σ = 4) := szM_or h.vv
  have cS := rsize_ok _ X σ f 255 hr.st (by decide)
  have cM := rmodrm_ok _ X σ f 255 hr.st hf
  have hfl := rmodrm_fl h hf
  obtain ⟨s, hs⟩ : ∃ s, s = (szM 255 σ) := ⟨_, rfl⟩
  rw [← hs] at cS Hsz ⊢
  generalize modrm X σ = Y at *
  obtain ⟨⟨m, k, r⟩, σ1⟩ := Y
  simp only at cM hfl hm ⊢
  subst hm
  have HE : Hid (∀ W, RSt X W σ1 (m, 2, r) 255 → _) := fun W hW => e_lit W X σ1 (m, 2, r) 255 hW hfl.1 hfl.2.1 s
  obtain ⟨⟨o0, o1', o2', o3', o4, o5, o6', o7, o8⟩, σ2, hY⟩ : ∃ o σ2, pE X s σ1 = (o, σ2) := ⟨_, _, rfl⟩
  rw [hY] at HE ⊢
  simp only at HE ⊢
  have HR : Hid _ := hr
  clear h hv ho hfl hr hf hs hY
  go_enter Tryz.func30, Tryz.ntmps30
  try simp only [vl, vs, va, vb, vx, ol, os, oa]
  clear vl vs va vb vx ol os oa
  go_wp2_with fail
  refine cS.mono ?_; rintro e wn ⟨rfl, rfl⟩
  go_wp2_with fail
  refine cM.mono ?_; rintro e w1 ⟨rfl, hd1⟩
  have hr1 := HR.out.call hd1
  have c7 := hr1.st.c7
  have c4b := hr1.st.c4
  have c9b := hr1.st.c9
  simp only at c7
  have hS1 := hr1.st.ltS
  have HR1 : Hid _ := hr1
  clear cS cM hd1 hr1 HR c4 d9 hS
  have new1 := Hv.out.newQ
  obtain ⟨u0, u1, u2, u3, u4, u5, u6, u7, u8, u9, u10, u11⟩ := ups12
  go_wp2_with fail
  refine (HE.out _ HR1.out.st).mono ?_; rintro e w5 ⟨rfl, hd5⟩
  have hr5 := HR1.out.call hd5
  have hS5 := hr5.st.ltS
  have hI6 : InQ T X w w.heap.size w5.heap.size ((((((((((((Ins.zero.up 0 1).up 1 9).up 2 s).up 3 o0).up 4 o1').up 5 o2').up 6 o3').up 7 o4).up 8 o5).up 9 o6').up 10 o7).up 11 o8) σ2 (m, 2, r) 255 (w5.alloc (.cells (insV ((((((((((((Ins.zero.up 0 1).up 1 9).up 2 s).up 3 o0).up 4 o1').up 5 o2').up 6 o3').up 7 o4).up 8 o5).up 9 o6').up 10 o7).up 11 o8)) T)) := hr5.own _
  have e9 := hI6.r.st.c9
  have e7 := hI6.r.st.c7
  have e4 := hI6.r.st.c4
  simp only at e7
  have hSW := hI6.r.st.ltS
  have HI6 : Hid _ := hI6
  clear hI6 hd5 hr5 c7 c4b c9b
  go_upto_region 30 with fail
  have hI6 := HI6.out
  clear HI6 e9 e4 e7 hSW new1 HE
  generalize (w5.alloc (.cells (insV ((((((((((((Ins.zero.up 0 1).up 1 9).up 2 s).up 3 o0).up 4 o1').up 5 o2').up 6 o3').up 7 o4).up 8 o5).up 9 o6').up 10 o7).up 11 o8)) T)) = W at hI6 ⊢
  generalize w5.heap.size = q at hI6 ⊢
  have e7 := hI6.r.st.c7
  simp only at e7
  have e9 := hI6.r.st.c9
  have a0 := (hI6).cell 0 (.int .i64 1) rfl
  have z0 := (hI6).fz 0
  have hJ0 := (hI6).set 0 (.int .i64 29) _ (insUp0 _ 29)
  have j7_0 := hJ0.r.st.c7
  simp only at j7_0
  have a1 := (hJ0).cell 1 (.int .i64 9) rfl
  have z1 := (hJ0).fz 1
  have hJ1 := (hJ0).set 1 (.int .i64 0) _ (insUp1 _ 0)
  have j7_1 := hJ1.r.st.c7
  simp only at j7_1
  have g8 := Hv.out.get hJ1.op
  have p8 := hJ1.r.put Hv.out
  have HI8 : Hid _ := hJ1
  clear hJ0 hJ1 hI6
  go_wp2
  exact bodyPost_ret (v := _) (res1 rfl _ _ w.heap.size _ rfl (HI8.out.r.got Hv.out _)) rfl ⟨rfl, HI8.out.r.fin _⟩
theorem last_255_u (w : World) (X : Cx) (σ : Sg) (f : Int × Int × Int) (h : RSt X w σ f 255) (hf : σ.fl = none) (hm : (modrm X σ).1.2.1 = 3 ∨ (modrm X σ).1.2.1 = 5 ∨ (modrm X σ).1.2.1 = 7) :
    Calls Tryz.prog 30 #[.pointer (some ⟨X.S, 0, none⟩)] w fun e w' => e = .returned (.agg (insV Ins.zero)) ∧ RDn X w (refuse (modrm X σ).2) (modrm X σ).1 255 w' := by
  rcases hm with hm | hm | hm
  all_goals
    obtain ⟨T, nI, fsI, psI, hv, Hv, ⟨vl, vs, vb, va, vx⟩, v1, v2, v3, v4, v5, v6, p0, p1, p2, p3, p4, p5, p6, p7, sz, ne⟩ := vlP
    have hr := RsQ.no (RsQ.start (T := T) h) (Kp.alloc noB _ (.cells #[.int .i64 2, .int .i64 (-1), .int .i64 (-1), .int .i64 0, .int .i64 1, .int .i64 5, .int .i64 6, .int .i64 3, .int .i64 4] 3))
    have hS := h.ltS
    have c9 := h.c9
    have cS := rsize_ok _ X σ f 255 hr.st (by decide)
    have cM := rmodrm_ok _ X σ f 255 hr.st hf
    generalize modrm X σ = Y at *
    obtain ⟨⟨m, k, r⟩, σ1⟩ := Y
    simp only at cM hm ⊢
    subst hm
    have Hr : Hid _ := hr
    clear h hv hf
    go_enter Tryz.func30, Tryz.ntmps30
    try simp only [vl, vs, va, vb, vx]
    clear vl vs va vb vx
    go_wp2_with fail
    refine cS.mono ?_; rintro e wn ⟨rfl, rfl⟩
    clear cS
    go_wp2_with fail
    refine cM.mono ?_; rintro e w1 ⟨rfl, hd1⟩
    have hr1 := Hr.out.call hd1
    have c71 := hr1.st.c7
    have c61 := hr1.st.c6
    simp only at c71 c61
    have hS1 := hr1.st.ltS
    have hrA := fun o => RsQ.no hr1 (Kp.alloc noB _ o)
    have Hr1 : Hid _ := hr1
    clear hd1 cM hr1
    go_wp2_with (go_at_call 31; refine (ud_ok _ X σ1 _ 255 (RsQ.st (by first | exact Hr1.out | exact hrA _))).mono ?_; rintro e w2 ⟨rfl, hd2⟩; have hr2 := RsQ.call (by first | exact Hr1.out | exact hrA _) hd2; have p2' := hr2.put Hv.out)
    exact bodyPost_ret (v := _) (res1 rfl _ _ w.heap.size _ rfl (RsQ.got Hv.out (by assumption) _)) rfl ⟨rfl, RsQ.fin (by assumption) _⟩
theorem last_255_4 (w : World) (X : Cx) (σ : Sg) (f : Int × Int × Int) (h : RSt X w σ f 255) (hf : σ.fl = none) (hm : (modrm X σ).1.2.1 = 4) :
    Calls Tryz.prog 30 #[.pointer (some ⟨X.S, 0, none⟩)] w fun e w' => e = .returned (.agg (insV { Ins.zero with op := 27, sub := 0, size := (szM 255 σ), a := (pE X (szM 255 σ) (modrm X σ).2).1 })) ∧ RDn X w (pE X (szM 255 σ) (modrm X σ).2).2 (modrm X σ).1 255 w' := by
  obtain ⟨T, nI, fsI, psI, hv, Hv, ⟨vl, vs, vb, va, vx⟩, v1, v2, v3, v4, v5, v6, p0, p1, p2, p3, p4, p5, p6, p7, sz, ne⟩ := vlP
  obtain ⟨U, mU, ho, Ho, ⟨ol, os, oa⟩, o1, o2, o3, o6, so⟩ := vlOP
  have hr := RsQ.no (RsQ.start (T := T) h) (Kp.alloc noB _ (.cells #[.int .i64 2, .int .i64 (-1), .int .i64 (-1), .int .i64 0, .int .i64 1, .int .i64 5, .int .i64 6, .int .i64 3, .int .i64 4] 3))
  have c4 := h.c4
  have d9 := h.c9
  have hS := h.ltS
  have Hsz : Hid (szM 255 σ = 1 ∨ szM 255 σ = 2 ∨ szM 255 σ = 4) := szM_or h.vv
  have cS := rsize_ok _ X σ f 255 hr.st (by decide)
  have cM := rmodrm_ok _ X σ f 255 hr.st hf
  have hfl := rmodrm_fl h hf
  obtain ⟨s, hs⟩ : ∃ s, s = (szM 255 σ) := ⟨_, rfl⟩
  rw [← hs] at cS Hsz ⊢
  generalize modrm X σ = Y at *
  obtain ⟨⟨m, k, r⟩, σ1⟩ := Y
  simp only at cM hfl hm ⊢
  subst hm
  have HE : Hid (∀ W, RSt X W σ1 (m, 4, r) 255 → _) := fun W hW => e_lit W X σ1 (m, 4, r) 255 hW hfl.1 hfl.2.1 s
  obtain ⟨⟨o0, o1', o2', o3', o4, o5, o6', o7, o8⟩, σ2, hY⟩ : ∃ o σ2, pE X s σ1 = (o, σ2) := ⟨_, _, rfl⟩
  rw [hY] at HE ⊢
  simp only at HE ⊢
  have HR : Hid _ := hr
  clear h hv ho hfl hr hf hs hY
  go_enter Tryz.func30, Tryz.ntmps30
  try simp only [vl, vs, va, vb, vx, ol, os, oa]
  clear vl vs va vb vx ol os oa
  go_wp2_with fail
  refine cS.mono ?_; rintro e wn ⟨rfl, rfl⟩
  go_wp2_with fail
  refine cM.mono ?_; rintro e w1 ⟨rfl, hd1⟩
  have hr1 := HR.out.call hd1
  have c7 := hr1.st.c7
  have c4b := hr1.st.c4
  have c9b := hr1.st.c9
  simp only at c7
  have hS1 := hr1.st.ltS
  have HR1 : Hid _ := hr1
  clear cS cM hd1 hr1 HR c4 d9 hS
  have new1 := Hv.out.newQ
  obtain ⟨u0, u1, u2, u3, u4, u5, u6, u7, u8, u9, u10, u11⟩ := ups12
  go_wp2_with fail
  refine (HE.out _ HR1.out.st).mono ?_; rintro e w5 ⟨rfl, hd5⟩
  have hr5 := HR1.out.call hd5
  have hS5 := hr5.st.ltS
  have hI6 : InQ T X w w.heap.size w5.heap.size ((((((((((((Ins.zero.up 0 1).up 1 9).up 2 s).up 3 o0).up 4 o1').up 5 o2').up 6 o3').up 7 o4).up 8 o5).up 9 o6').up 10 o7).up 11 o8) σ2 (m, 4, r) 255 (w5.alloc (.cells (insV ((((((((((((Ins.zero.up 0 1).up 1 9).up 2 s).up 3 o0).up 4 o1').up 5 o2').up 6 o3').up 7 o4).up 8 o5).up 9 o6').up 10 o7).up 11 o8)) T)) := hr5.own _
  have e9 := hI6.r.st.c9
  have e7 := hI6.r.st.c7
  have e4 := hI6.r.st.c4
  simp only at e7
  have hSW := hI6.r.st.ltS
  have HI6 : Hid _ := hI6
  clear hI6 hd5 hr5 c7 c4b c9b
  go_upto_region 30 with fail
  have hI6 := HI6.out
  clear HI6 e9 e4 e7 hSW new1 HE
  generalize (w5.alloc (.cells (insV ((((((((((((Ins.zero.up 0 1).up 1 9).up 2 s).up 3 o0).up 4 o1').up 5 o2').up 6 o3').up 7 o4).up 8 o5).up 9 o6').up 10 o7).up 11 o8)) T)) = W at hI6 ⊢
  generalize w5.heap.size = q at hI6 ⊢
  have e7 := hI6.r.st.c7
  simp only at e7
  have e9 := hI6.r.st.c9
  have a0 := (hI6).cell 0 (.int .i64 1) rfl
  have z0 := (hI6).fz 0
  have hJ0 := (hI6).set 0 (.int .i64 27) _ (insUp0 _ 27)
  have j7_0 := hJ0.r.st.c7
  simp only at j7_0
  have a1 := (hJ0).cell 1 (.int .i64 9) rfl
  have z1 := (hJ0).fz 1
  have hJ1 := (hJ0).set 1 (.int .i64 0) _ (insUp1 _ 0)
  have j7_1 := hJ1.r.st.c7
  simp only at j7_1
  have g8 := Hv.out.get hJ1.op
  have p8 := hJ1.r.put Hv.out
  have HI8 : Hid _ := hJ1
  clear hJ0 hJ1 hI6
  go_wp2
  exact bodyPost_ret (v := _) (res1 rfl _ _ w.heap.size _ rfl (HI8.out.r.got Hv.out _)) rfl ⟨rfl, HI8.out.r.fin _⟩
theorem last_255_6 (w : World) (X : Cx) (σ : Sg) (f : Int × Int × Int) (h : RSt X w σ f 255) (hf : σ.fl = none) (hm : (modrm X σ).1.2.1 = 6) :
    Calls Tryz.prog 30 #[.pointer (some ⟨X.S, 0, none⟩)] w fun e w' => e = .returned (.agg (insV { Ins.zero with op := 12, sub := 0, size := (szM 255 σ), a := (pE X (szM 255 σ) (modrm X σ).2).1 })) ∧ RDn X w (pE X (szM 255 σ) (modrm X σ).2).2 (modrm X σ).1 255 w' := by
  obtain ⟨T, nI, fsI, psI, hv, Hv, ⟨vl, vs, vb, va, vx⟩, v1, v2, v3, v4, v5, v6, p0, p1, p2, p3, p4, p5, p6, p7, sz, ne⟩ := vlP
  obtain ⟨U, mU, ho, Ho, ⟨ol, os, oa⟩, o1, o2, o3, o6, so⟩ := vlOP
  have hr := RsQ.no (RsQ.start (T := T) h) (Kp.alloc noB _ (.cells #[.int .i64 2, .int .i64 (-1), .int .i64 (-1), .int .i64 0, .int .i64 1, .int .i64 5, .int .i64 6, .int .i64 3, .int .i64 4] 3))
  have c4 := h.c4
  have d9 := h.c9
  have hS := h.ltS
  have Hsz : Hid (szM 255 σ = 1 ∨ szM 255 σ = 2 ∨ szM 255 σ = 4) := szM_or h.vv
  have cS := rsize_ok _ X σ f 255 hr.st (by decide)
  have cM := rmodrm_ok _ X σ f 255 hr.st hf
  have hfl := rmodrm_fl h hf
  obtain ⟨s, hs⟩ : ∃ s, s = (szM 255 σ) := ⟨_, rfl⟩
  rw [← hs] at cS Hsz ⊢
  generalize modrm X σ = Y at *
  obtain ⟨⟨m, k, r⟩, σ1⟩ := Y
  simp only at cM hfl hm ⊢
  subst hm
  have HE : Hid (∀ W, RSt X W σ1 (m, 6, r) 255 → _) := fun W hW => e_lit W X σ1 (m, 6, r) 255 hW hfl.1 hfl.2.1 s
  obtain ⟨⟨o0, o1', o2', o3', o4, o5, o6', o7, o8⟩, σ2, hY⟩ : ∃ o σ2, pE X s σ1 = (o, σ2) := ⟨_, _, rfl⟩
  rw [hY] at HE ⊢
  simp only at HE ⊢
  have HR : Hid _ := hr
  clear h hv ho hfl hr hf hs hY
  go_enter Tryz.func30, Tryz.ntmps30
  try simp only [vl, vs, va, vb, vx, ol, os, oa]
  clear vl vs va vb vx ol os oa
  go_wp2_with fail
  refine cS.mono ?_; rintro e wn ⟨rfl, rfl⟩
  go_wp2_with fail
  refine cM.mono ?_; rintro e w1 ⟨rfl, hd1⟩
  have hr1 := HR.out.call hd1
  have c7 := hr1.st.c7
  have c4b := hr1.st.c4
  have c9b := hr1.st.c9
  simp only at c7
  have hS1 := hr1.st.ltS
  have HR1 : Hid _ := hr1
  clear cS cM hd1 hr1 HR c4 d9 hS
  have new1 := Hv.out.newQ
  obtain ⟨u0, u1, u2, u3, u4, u5, u6, u7, u8, u9, u10, u11⟩ := ups12
  go_wp2_with fail
  refine (HE.out _ HR1.out.st).mono ?_; rintro e w5 ⟨rfl, hd5⟩
  have hr5 := HR1.out.call hd5
  have hS5 := hr5.st.ltS
  have hI6 : InQ T X w w.heap.size w5.heap.size ((((((((((((Ins.zero.up 0 1).up 1 9).up 2 s).up 3 o0).up 4 o1').up 5 o2').up 6 o3').up 7 o4).up 8 o5).up 9 o6').up 10 o7).up 11 o8) σ2 (m, 6, r) 255 (w5.alloc (.cells (insV ((((((((((((Ins.zero.up 0 1).up 1 9).up 2 s).up 3 o0).up 4 o1').up 5 o2').up 6 o3').up 7 o4).up 8 o5).up 9 o6').up 10 o7).up 11 o8)) T)) := hr5.own _
  have e9 := hI6.r.st.c9
  have e7 := hI6.r.st.c7
  have e4 := hI6.r.st.c4
  simp only at e7
  have hSW := hI6.r.st.ltS
  have HI6 : Hid _ := hI6
  clear hI6 hd5 hr5 c7 c4b c9b
  go_upto_region 30 with fail
  have hI6 := HI6.out
  clear HI6 e9 e4 e7 hSW new1 HE
  generalize (w5.alloc (.cells (insV ((((((((((((Ins.zero.up 0 1).up 1 9).up 2 s).up 3 o0).up 4 o1').up 5 o2').up 6 o3').up 7 o4).up 8 o5).up 9 o6').up 10 o7).up 11 o8)) T)) = W at hI6 ⊢
  generalize w5.heap.size = q at hI6 ⊢
  have e7 := hI6.r.st.c7
  simp only at e7
  have e9 := hI6.r.st.c9
  have a0 := (hI6).cell 0 (.int .i64 1) rfl
  have z0 := (hI6).fz 0
  have hJ0 := (hI6).set 0 (.int .i64 12) _ (insUp0 _ 12)
  have j7_0 := hJ0.r.st.c7
  simp only at j7_0
  have a1 := (hJ0).cell 1 (.int .i64 9) rfl
  have z1 := (hJ0).fz 1
  have hJ1 := (hJ0).set 1 (.int .i64 0) _ (insUp1 _ 0)
  have j7_1 := hJ1.r.st.c7
  simp only at j7_1
  have g8 := Hv.out.get hJ1.op
  have p8 := hJ1.r.put Hv.out
  have HI8 : Hid _ := hJ1
  clear hJ0 hJ1 hI6
  go_wp2
  exact bodyPost_ret (v := _) (res1 rfl _ _ w.heap.size _ rfl (HI8.out.r.got Hv.out _)) rfl ⟨rfl, HI8.out.r.fin _⟩
end Go.Proofs.YtbfccfhjgopnbaaGreat
