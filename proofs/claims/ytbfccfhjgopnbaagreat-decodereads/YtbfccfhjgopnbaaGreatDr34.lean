/- The document's reader, and the code's (RfLastF). -/
import Derived.Test.YtbfccfhjgopnbaaGreatDr26
set_option linter.unusedSimpArgs false
namespace Go.Proofs.YtbfccfhjgopnbaaGreat
open Go.ChangeShapes Go.WideShapes Go.ChangeAt Go.RowKit
set_option linter.unusedVariables false
set_option linter.unusedSimpArgs false
set_option maxHeartbeats 4000000
set_option maxRecDepth 20000
theorem last_246_0 (w : World) (X : Cx) (σ : Sg) (f : Int × Int × Int) (h : RSt X w σ f 246) (hf : σ.fl = none) (hm : (modrm X σ).1.2.1 = 0) :
    Calls Tryz.prog 30 #[.pointer (some ⟨X.S, 0, none⟩)] w fun e w' => e = .returned (.agg (insV { Ins.zero with op := 1, sub := 8, size := (szM 246 σ), a := (pE X (szM 246 σ) (modrm X σ).2).1, b := numO (bytesM X (szM 246 σ) (pE X (szM 246 σ) (modrm X σ).2).2).1 })) ∧ RDn X w (bytesM X (szM 246 σ) (pE X (szM 246 σ) (modrm X σ).2).2).2 (modrm X σ).1 246 w' := by
  obtain ⟨T, nI, fsI, psI, hv, Hv, ⟨vl, vs, vb, va, vx⟩, v1, v2, v3, v4, v5, v6, p0, p1, p2, p3, p4, p5, p6, p7, sz, ne⟩ := vlP
  obtain ⟨U, mU, ho, Ho, ⟨ol, os, oa⟩, o1, o2, o3, o6, so⟩ := vlOP
  have hr := RsQ.no (RsQ.start (T := T) h) (Kp.alloc noB _ (.cells #[.int .i64 2, .int .i64 (-1), .int .i64 (-1), .int .i64 0, .int .i64 1, .int .i64 5, .int .i64 6, .int .i64 3, .int .i64 4] 3))
  have c4 := h.c4
  have d9 := h.c9
  have hS := h.ltS
  have Hsz : Hid (szM 246 σ = 1 ∨ szM 246 σ = 2 ∨ szM 246 σ = 4) := szM_or h.vv
  have cS := rsize_ok _ X σ f 246 hr.st (by decide)
  have cM := rmodrm_ok _ X σ f 246 hr.st hf
  have hfl := rmodrm_fl h hf
  obtain ⟨s, hs⟩ : ∃ s, s = (szM 246 σ) := ⟨_, rfl⟩
  rw [← hs] at cS Hsz ⊢
  generalize modrm X σ = Y at *
  obtain ⟨⟨m, k, r⟩, σ1⟩ := Y
  simp only at cM hfl hm ⊢
  subst hm
  have HE : Hid (∀ W, RSt X W σ1 (m, 0, r) 246 → _) := fun W hW => e_lit W X σ1 (m, 0, r) 246 hW hfl.1 hfl.2.1 s
  obtain ⟨⟨o0, o1', o2', o3', o4, o5, o6', o7, o8⟩, σ2, hY⟩ : ∃ o σ2, pE X s σ1 = (o, σ2) := ⟨_, _, rfl⟩
  rw [hY] at HE ⊢
  simp only at HE ⊢
  obtain ⟨d, σ3, hB⟩ : ∃ d σ3, bytesM X s σ2 = (d, σ3) := ⟨_, _, rfl⟩
  rw [hB]
  simp only
  have HB : Hid _ := hB
  clear hB
  obtain ⟨nO, hn⟩ : ∃ nO, numO d = nO := ⟨_, rfl⟩
  rw [hn]
  have HN : Hid _ := hn
  clear hn
  have HR : Hid _ := hr
  clear h hv ho hfl hr hf hs hY
  go_enter Tryz.func30, Tryz.ntmps30
  try simp only [vl, vs, va, vb, vx, ol, os, oa]
  clear vl vs va vb vx ol os oa
  go_wp2_with fail
  refine cS.mono ?_; rintro e wn ⟨rfl, rfl⟩
  go_wp2_with fail
  refine cM.mono ?_; rintro e w1 ⟨rfl, hd1⟩
  have hr1 := HR.out.call hd1
  have c7 := hr1.st.c7
  have c4b := hr1.st.c4
  have c9b := hr1.st.c9
  simp only at c7
  have hS1 := hr1.st.ltS
  have HR1 : Hid _ := hr1
  clear cS cM hd1 hr1 HR c4 d9 hS
  have new1 := Hv.out.newQ
  obtain ⟨u0, u1, u2, u3, u4, u5, u6, u7, u8, u9, u10, u11⟩ := ups12
  go_wp2_with fail
  refine (HE.out _ HR1.out.st).mono ?_; rintro e w5 ⟨rfl, hd5⟩
  have hr5 := HR1.out.call hd5
  have hS5 := hr5.st.ltS
  have hI6 : InQ T X w w.heap.size w5.heap.size ((((((((((((Ins.zero.up 0 1).up 1 8).up 2 s).up 3 o0).up 4 o1').up 5 o2').up 6 o3').up 7 o4).up 8 o5).up 9 o6').up 10 o7).up 11 o8) σ2 (m, 0, r) 246 (w5.alloc (.cells (insV ((((((((((((Ins.zero.up 0 1).up 1 8).up 2 s).up 3 o0).up 4 o1').up 5 o2').up 6 o3').up 7 o4).up 8 o5).up 9 o6').up 10 o7).up 11 o8)) T)) := hr5.own _
  have e9 := hI6.r.st.c9
  have e7 := hI6.r.st.c7
  have e4 := hI6.r.st.c4
  simp only at e7
  have hSW := hI6.r.st.ltS
  have HI6 : Hid _ := hI6
  clear hI6 hd5 hr5 c7 c4b c9b
  go_wp2_with fail
  have cB := num_okR (w5.alloc (.cells (insV ((((((((((((Ins.zero.up 0 1).up 1 8).up 2 s).up 3 o0).up 4 o1').up 5 o2').up 6 o3').up 7 o4).up 8 o5).up 9 o6').up 10 o7).up 11 o8)) T)) X σ2 (m, 0, r) 246 HI6.out.r.st s (Hsz.out)
  rw [HB.out] at cB
  refine cB.mono ?_; rintro e w6 ⟨rfl, hd6⟩
  have hI6b := HI6.out.call hd6
  have HI6b : Hid _ := hI6b
  have e4b := hI6b.r.st.c4
  have e9b := hI6b.r.st.c9
  clear hI6b cB hd6
  go_wp2_with fail
  have cN := rImm_ok w6 d
  rw [HN.out] at cN
  refine cN.mono ?_; rintro e w7 ⟨rfl, k7⟩
  have hI7 := HI6b.out.no k7
  clear cN k7 HI6b e4b e9b
  have t7 := hI7.putB nO
  have hI8 := hI7.row { ((((((((((((Ins.zero.up 0 1).up 1 8).up 2 s).up 3 o0).up 4 o1').up 5 o2').up 6 o3').up 7 o4).up 8 o5).up 9 o6').up 10 o7).up 11 o8) with b := nO }
  have g8 := Hv.out.get hI8.op
  have p8 := hI8.r.put Hv.out
  have HI8 : Hid _ := hI8
  clear hI8 hI7 HI6 e9 e4 e7
  go_wp2
  exact bodyPost_ret (v := _) (res1 rfl _ _ w.heap.size _ rfl (HI8.out.r.got Hv.out _)) rfl ⟨rfl, HI8.out.r.fin _⟩
theorem last_246_1 (w : World) (X : Cx) (σ : Sg) (f : Int × Int × Int) (h : RSt X w σ f 246) (hf : σ.fl = none) (hm : (modrm X σ).1.2.1 = 1) :
    Calls Tryz.prog 30 #[.pointer (some ⟨X.S, 0, none⟩)] w fun e w' => e = .returned (.agg (insV { Ins.zero with op := 1, sub := 8, size := (szM 246 σ), a := (pE X (szM 246 σ) (modrm X σ).2).1, b := numO (bytesM X (szM 246 σ) (pE X (szM 246 σ) (modrm X σ).2).2).1 })) ∧ RDn X w (bytesM X (szM 246 σ) (pE X (szM 246 σ) (modrm X σ).2).2).2 (modrm X σ).1 246 w' := by
  obtain ⟨T, nI, fsI, psI, hv, Hv, ⟨vl, vs, vb, va, vx⟩, v1, v2, v3, v4, v5, v6, p0, p1, p2, p3, p4, p5, p6, p7, sz, ne⟩ := vlP
  obtain ⟨U, mU, ho, Ho, ⟨ol, os, oa⟩, o1, o2, o3, o6, so⟩ := vlOP
  have hr := RsQ.no (RsQ.start (T := T) h) (Kp.alloc noB _ (.cells #[.int .i64 2, .int .i64 (-1), .int .i64 (-1), .int .i64 0, .int .i64 1, .int .i64 5, .int .i64 6, .int .i64 3, .int .i64 4] 3))
  have c4 := h.c4
  have d9 := h.c9
  have hS := h.ltS
  have Hsz : Hid (szM 246 σ = 1 ∨ szM 246 σ = 2 ∨ szM 246 σ = 4) := szM_or h.vv
  have cS := rsize_ok _ X σ f 246 hr.st (by decide)
  have cM := rmodrm_ok _ X σ f 246 hr.st hf
  have hfl := rmodrm_fl h hf
  obtain ⟨s, hs⟩ : ∃ s, s = (szM 246 σ) := ⟨_, rfl⟩
  rw [← hs] at cS Hsz ⊢
  generalize modrm X σ = Y at *
  obtain ⟨⟨m, k, r⟩, σ1⟩ := Y
  simp only at cM hfl hm ⊢
  subst hm
  have HE : Hid (∀ W, RSt X W σ1 (m, 1, r) 246 → _) := fun W hW => e_lit W X σ1 (m, 1, r) 246 hW hfl.1 hfl.2.1 s
  obtain ⟨⟨o0, o1', o2', o3', o4, o5, o6', o7, o8⟩, σ2, hY⟩ : ∃ o σ2, pE X s σ1 = (o, σ2) := ⟨_, _, rfl⟩
  rw [hY] at HE ⊢
  simp only at HE ⊢
  obtain ⟨d, σ3, hB⟩ : ∃ d σ3, bytesM X s σ2 = (d, σ3) := ⟨_, _, rfl⟩
  rw [hB]
  simp only
  have HB : Hid _ := hB
  clear hB
  obtain ⟨nO, hn⟩ : ∃ nO, numO d = nO := ⟨_, rfl⟩
  rw [hn]
  have HN : Hid _ := hn
  clear hn
  have HR : Hid _ := hr
  clear h hv ho hfl hr hf hs hY
  go_enter Tryz.func30, Tryz.ntmps30
  try simp only [vl, vs, va, vb, vx, ol, os, oa]
  clear vl vs va vb vx ol os oa
  go_wp2_with fail
  refine cS.mono ?_; rintro e wn ⟨rfl, rfl⟩
  go_wp2_with fail
  refine cM.mono ?_; rintro e w1 ⟨rfl, hd1⟩
  have hr1 := HR.out.call hd1
  have c7 := hr1.st.c7
  have c4b := hr1.st.c4
  have c9b := hr1.st.c9
  simp only at c7
  have hS1 := hr1.st.ltS
  have HR1 : Hid _ := hr1
  clear cS cM hd1 hr1 HR c4 d9 hS
  have new1 := Hv.out.newQ
  obtain ⟨u0, u1, u2, u3, u4, u5, u6, u7, u8, u9, u10, u11⟩ := ups12
  go_wp2_with fail
  refine (HE.out _ HR1.out.st).mono ?_; rintro e w5 ⟨rfl, hd5⟩
  have hr5 := HR1.out.call hd5
  have hS5 := hr5.st.ltS
  have hI6 : InQ T X w w.heap.size w5.heap.size ((((((((((((Ins.zero.up 0 1).up 1 8).up 2 s).up 3 o0).up 4 o1').up 5 o2').up 6 o3').up 7 o4).up 8 o5).up 9 o6').up 10 o7).up 11 o8) σ2 (m, 1, r) 246 (w5.alloc (.cells (insV ((((((((((((Ins.zero.up 0 1).up 1 8).up 2 s).up 3 o0).up 4 o1').up 5 o2').up 6 o3').up 7 o4).up 8 o5).up 9 o6').up 10 o7).up 11 o8)) T)) := hr5.own _
  have e9 := hI6.r.st.c9
  have e7 := hI6.r.st.c7
  have e4 := hI6.r.st.c4
  simp only at e7
  have hSW := hI6.r.st.ltS
  have HI6 : Hid _ := hI6
  clear hI6 hd5 hr5 c7 c4b c9b
  go_wp2_with fail
  have cB := num_okR (w5.alloc (.cells (insV ((((((((((((Ins.zero.up 0 1).up 1 8).up 2 s).up 3 o0).up 4 o1').up 5 o2').up 6 o3').up 7 o4).up 8 o5).up 9 o6').up 10 o7).up 11 o8)) T)) X σ2 (m, 1, r) 246 HI6.out.r.st s (Hsz.out)
  rw [HB.out] at cB
  refine cB.mono ?_; rintro e w6 ⟨rfl, hd6⟩
  have hI6b := HI6.out.call hd6
  have HI6b : Hid _ := hI6b
  have e4b := hI6b.r.st.c4
  have e9b := hI6b.r.st.c9
  clear hI6b cB hd6
  go_wp2_with fail
  have cN := rImm_ok w6 d
  rw [HN.out] at cN
  refine cN.mono ?_; rintro e w7 ⟨rfl, k7⟩
  have hI7 := HI6b.out.no k7
  clear cN k7 HI6b e4b e9b
  have t7 := hI7.putB nO
  have hI8 := hI7.row { ((((((((((((Ins.zero.up 0 1).up 1 8).up 2 s).up 3 o0).up 4 o1').up 5 o2').up 6 o3').up 7 o4).up 8 o5).up 9 o6').up 10 o7).up 11 o8) with b := nO }
  have g8 := Hv.out.get hI8.op
  have p8 := hI8.r.put Hv.out
  have HI8 : Hid _ := hI8
  clear hI8 hI7 HI6 e9 e4 e7
  go_wp2
  exact bodyPost_ret (v := _) (res1 rfl _ _ w.heap.size _ rfl (HI8.out.r.got Hv.out _)) rfl ⟨rfl, HI8.out.r.fin _⟩
theorem last_246_2 (w : World) (X : Cx) (σ : Sg) (f : Int × Int × Int) (h : RSt X w σ f 246) (hf : σ.fl = none) (hm : (modrm X σ).1.2.1 = 2) :
    Calls Tryz.prog 30 #[.pointer (some ⟨X.S, 0, none⟩)] w fun e w' => e = .returned (.agg (insV { Ins.zero with op := 1, sub := 12, size := (szM 246 σ), a := (pE X (szM 246 σ) (modrm X σ).2).1 })) ∧ RDn X w (pE X (szM 246 σ) (modrm X σ).2).2 (modrm X σ).1 246 w' := by
  obtain ⟨T, nI, fsI, psI, hv, Hv, ⟨vl, vs, vb, va, vx⟩, v1, v2, v3, v4, v5, v6, p0, p1, p2, p3, p4, p5, p6, p7, sz, ne⟩ := vlP
  obtain ⟨U, mU, ho, Ho, ⟨ol, os, oa⟩, o1, o2, o3, o6, so⟩ := vlOP
  have hr := RsQ.no (RsQ.start (T := T) h) (Kp.alloc noB _ (.cells #[.int .i64 2, .int .i64 (-1), .int .i64 (-1), .int .i64 0, .int .i64 1, .int .i64 5, .int .i64 6, .int .i64 3, .int .i64 4] 3))
  have c4 := h.c4
  have d9 := h.c9
  have hS := h.ltS
  have Hsz : Hid (szM 246 σ = 1 ∨ szM 246 σ = 2 ∨ szM 246 σ = 4) := szM_or h.vv
  have cS := rsize_ok _ X σ f 246 hr.st (by decide)
  have cM := rmodrm_ok _ X σ f 246 hr.st hf
  have hfl := rmodrm_fl h hf
  obtain ⟨s, hs⟩ : ∃ s, s = (szM 246 σ) := ⟨_, rfl⟩
  rw [← hs] at cS Hsz ⊢
  generalize modrm X σ = Y at *
  obtain ⟨⟨m, k, r⟩, σ1⟩ := Y
  simp only at cM hfl hm ⊢
  subst hm
  have HE : Hid (∀ W, RSt X W σ1 (m, 2, r) 246 → _) := fun W hW => e_lit W X σ1 (m, 2, r) 246 hW hfl.1 hfl.2.1 s
  obtain ⟨⟨o0, o1', o2', o3', o4, o5, o6', o7, o8⟩, σ2, hY⟩ : ∃ o σ2, pE X s σ1 = (o, σ2) := ⟨_, _, rfl⟩
  rw [hY] at HE ⊢
  simp only at HE ⊢
  have HR : Hid _ := hr
  clear h hv ho hfl hr hf hs hY
  go_enter Tryz.func30, Tryz.ntmps30
  try simp only [vl, vs, va, vb, vx, ol, os, oa]
  clear vl vs va vb vx ol os oa
  go_wp2_with fail
  refine cS.mono ?_; rintro e wn ⟨rfl, rfl⟩
  go_wp2_with fail
  refine cM.mono ?_; rintro e w1 ⟨rfl, hd1⟩
  have hr1 := HR.out.call hd1
  have c7 := hr1.st.c7
  have c4b := hr1.st.c4
  have c9b := hr1.st.c9
  simp only at c7
  have hS1 := hr1.st.ltS
  have HR1 : Hid _ := hr1
  clear cS cM hd1 hr1 HR c4 d9 hS
  have new1 := Hv.out.newQ
  obtain ⟨u0, u1, u2, u3, u4, u5, u6, u7, u8, u9, u10, u11⟩ := ups12
  go_wp2_with fail
  refine (HE.out _ HR1.out.st).mono ?_; rintro e w5 ⟨rfl, hd5⟩
  have hr5 := HR1.out.call hd5
  have hS5 := hr5.st.ltS
  have hI6 : InQ T X w w.heap.size w5.heap.size ((((((((((((Ins.zero.up 0 1).up 1 8).up 2 s).up 3 o0).up 4 o1').up 5 o2').up 6 o3').up 7 o4).up 8 o5).up 9 o6').up 10 o7).up 11 o8) σ2 (m, 2, r) 246 (w5.alloc (.cells (insV ((((((((((((Ins.zero.up 0 1).up 1 8).up 2 s).up 3 o0).up 4 o1').up 5 o2').up 6 o3').up 7 o4).up 8 o5).up 9 o6').up 10 o7).up 11 o8)) T)) := hr5.own _
  have e9 := hI6.r.st.c9
  have e7 := hI6.r.st.c7
  have e4 := hI6.r.st.c4
  simp only at e7
  have hSW := hI6.r.st.ltS
  have HI6 : Hid _ := hI6
  clear hI6 hd5 hr5 c7 c4b c9b
  go_upto_region 11 with fail
  have hI6 := HI6.out
  clear HI6 e9 e4 e7 hSW new1 HE
  generalize (w5.alloc (.cells (insV ((((((((((((Ins.zero.up 0 1).up 1 8).up 2 s).up 3 o0).up 4 o1').up 5 o2').up 6 o3').up 7 o4).up 8 o5).up 9 o6').up 10 o7).up 11 o8)) T)) = W at hI6 ⊢
  generalize w5.heap.size = q at hI6 ⊢
  have e7 := hI6.r.st.c7
  simp only at e7
  have e9 := hI6.r.st.c9
  have a0 := (hI6).cell 1 (.int .i64 8) rfl
  have z0 := (hI6).fz 1
  have hJ0 := (hI6).set 1 (.int .i64 12) _ (insUp1 _ 12)
  have j7_0 := hJ0.r.st.c7
  simp only at j7_0
  have g8 := Hv.out.get hJ0.op
  have p8 := hJ0.r.put Hv.out
  have HI8 : Hid _ := hJ0
  clear hJ0 hI6
  go_wp2
  exact bodyPost_ret (v := _) (res1 rfl _ _ w.heap.size _ rfl (HI8.out.r.got Hv.out _)) rfl ⟨rfl, HI8.out.r.fin _⟩
theorem last_246_3 (w : World) (X : Cx) (σ : Sg) (f : Int × Int × Int) (h : RSt X w σ f 246) (hf : σ.fl = none) (hm : (modrm X σ).1.2.1 = 3) :
    Calls Tryz.prog 30 #[.pointer (some ⟨X.S, 0, none⟩)] w fun e w' => e = .returned (.agg (insV { Ins.zero with op := 1, sub := 11, size := (szM 246 σ), a := (pE X (szM 246 σ) (modrm X σ).2).1 })) ∧ RDn X w (pE X (szM 246 σ) (modrm X σ).2).2 (modrm X σ).1 246 w' := by
  obtain ⟨T, nI, fsI, psI, hv, Hv, ⟨vl, vs, vb, va, vx⟩, v1, v2, v3, v4, v5, v6, p0, p1, p2, p3, p4, p5, p6, p7, sz, ne⟩ := vlP
  obtain ⟨U, mU, ho, Ho, ⟨ol, os, oa⟩, o1, o2, o3, o6, so⟩ := vlOP
  have hr := RsQ.no (RsQ.start (T := T) h) (Kp.alloc noB _ (.cells #[.int .i64 2, .int .i64 (-1), .int .i64 (-1), .int .i64 0, .int .i64 1, .int .i64 5, .int .i64 6, .int .i64 3, .int .i64 4] 3))
  have c4 := h.c4
  have d9 := h.c9
  have hS := h.ltS
  have Hsz : Hid (szM 246 σ = 1 ∨ szM 246 σ = 2 ∨ szM 246 σ = 4) := szM_or h.vv
  have cS := rsize_ok _ X σ f 246 hr.st (by decide)
  have cM := rmodrm_ok _ X σ f 246 hr.st hf
  have hfl := rmodrm_fl h hf
  obtain ⟨s, hs⟩ : ∃ s, s = (szM 246 σ) := ⟨_, rfl⟩
  rw [← hs] at cS Hsz ⊢
  generalize modrm X σ = Y at *
  obtain ⟨⟨m, k, r⟩, σ1⟩ := Y
  simp only at cM hfl hm ⊢
  subst hm
  have HE : Hid (∀ W, RSt X W σ1 (m, 3, r) 246 → _) := fun W hW => e_lit W X σ1 (m, 3, r) 246 hW hfl.1 hfl.2.1 s
  obtain ⟨⟨o0, o1', o2', o3', o4, o5, o6', o7, o8⟩, σ2, hY⟩ : ∃ o σ2, pE X s σ1 = (o, σ2) := ⟨_, _, rfl⟩
  rw [hY] at HE ⊢
  simp only at HE ⊢
  have HR : Hid _ := hr
  clear h hv ho hfl hr hf hs hY
  go_enter Tryz.func30, Tryz.ntmps30
  try simp only [vl, vs, va, vb, vx, ol, os, oa]
  clear vl vs va vb vx ol os oa
  go_wp2_with fail
  refine cS.mono ?_; rintro e wn ⟨rfl, rfl⟩
  go_wp2_with fail
  refine cM.mono ?_; rintro e w1 ⟨rfl, hd1⟩
  have hr1 := HR.out.call hd1
  have c7 := hr1.st.c7
  have c4b := hr1.st.c4
  have c9b := hr1.st.c9
  simp only at c7
  have hS1 := hr1.st.ltS
  have HR1 : Hid _ := hr1
  clear cS cM hd1 hr1 HR c4 d9 hS
  have new1 := Hv.out.newQ
  obtain ⟨u0, u1, u2, u3, u4, u5, u6, u7, u8, u9, u10, u11⟩ := ups12
  go_wp2_with fail
  refine (HE.out _ HR1.out.st).mono ?_; rintro e w5 ⟨rfl, hd5⟩
  have hr5 := HR1.out.call hd5
  have hS5 := hr5.st.ltS
  have hI6 : InQ T X w w.heap.size w5.heap.size ((((((((((((Ins.zero.up 0 1).up 1 8).up 2 s).up 3 o0).up 4 o1').up 5 o2').up 6 o3').up 7 o4).up 8 o5).up 9 o6').up 10 o7).up 11 o8) σ2 (m, 3, r) 246 (w5.alloc (.cells (insV ((((((((((((Ins.zero.up 0 1).up 1 8).up 2 s).up 3 o0).up 4 o1').up 5 o2').up 6 o3').up 7 o4).up 8 o5).up 9 o6').up 10 o7).up 11 o8)) T)) := hr5.own _
  have e9 := hI6.r.st.c9
  have e7 := hI6.r.st.c7
  have e4 := hI6.r.st.c4
  simp only at e7
  have hSW := hI6.r.st.ltS
  have HI6 : Hid _ := hI6
  clear hI6 hd5 hr5 c7 c4b c9b
  go_upto_region 11 with fail
  have hI6 := HI6.out
  clear HI6 e9 e4 e7 hSW new1 HE
  generalize (w5.alloc (.cells (insV ((((((((((((Ins.zero.up 0 1).up 1 8).up 2 s).up 3 o0).up 4 o1').up 5 o2').up 6 o3').up 7 o4).up 8 o5).up 9 o6').up 10 o7).up 11 o8)) T)) = W at hI6 ⊢
  generalize w5.heap.size = q at hI6 ⊢
  have e7 := hI6.r.st.c7
  simp only at e7
  have e9 := hI6.r.st.c9
  have a0 := (hI6).cell 1 (.int .i64 8) rfl
  have z0 := (hI6).fz 1
  have hJ0 := (hI6).set 1 (.int .i64 11) _ (insUp1 _ 11)
  have j7_0 := hJ0.r.st.c7
  simp only at j7_0
  have g8 := Hv.out.get hJ0.op
  have p8 := hJ0.r.put Hv.out
  have HI8 : Hid _ := hJ0
  clear hJ0 hI6
  go_wp2
  exact bodyPost_ret (v := _) (res1 rfl _ _ w.heap.size _ rfl (HI8.out.r.got Hv.out _)) rfl ⟨rfl, HI8.out.r.fin _⟩
theorem last_246_4 (w : World) (X : Cx) (σ : Sg) (f : Int × Int × Int) (h : RSt X w σ f 246) (hf : σ.fl = none) (hm : (modrm X σ).1.2.1 = 4) :
    Calls Tryz.prog 30 #[.pointer (some ⟨X.S, 0, none⟩)] w fun e w' => e = .returned (.agg (insV { Ins.zero with op := 4, sub := 0, size := (szM 246 σ), a := (pE X (szM 246 σ) (modrm X σ).2).1 })) ∧ RDn X w (pE X (szM 246 σ) (modrm X σ).2).2 (modrm X σ).1 246 w' := by
  obtain ⟨T, nI, fsI, psI, hv, Hv, ⟨vl, vs, vb, va, vx⟩, v1, v2, v3, v4, v5, v6, p0, p1, p2, p3, p4, p5, p6, p7, sz, ne⟩ := vlP
  obtain ⟨U, mU, ho, Ho, ⟨ol, os, oa⟩, o1, o2, o3, o6, so⟩ := vlOP
  have hr := RsQ.no (RsQ.start (T := T) h) (Kp.alloc noB _ (.cells #[.int .i64 2, .int .i64 (-1), .int .i64 (-1), .int .i64 0, .int .i64 1, .int .i64 5, .int .i64 6, .int .i64 3, .int .i64 4] 3))
  have c4 := h.c4
  have d9 := h.c9
  have hS := h.ltS
  have Hsz : Hid (szM 246 σ = 1 ∨ szM 246 σ = 2 ∨ szM 246 σ = 4) := szM_or h.vv
  have cS := rsize_ok _ X σ f 246 hr.st (by decide)
  have cM := rmodrm_ok _ X σ f 246 hr.st hf
  have hfl := rmodrm_fl h hf
  obtain ⟨s, hs⟩ : ∃ s, s = (szM 246 σ) := ⟨_, rfl⟩
  rw [← hs] at cS Hsz ⊢
  generalize modrm X σ = Y at *
  obtain ⟨⟨m, k, r⟩, σ1⟩ := Y
  simp only at cM hfl hm ⊢
  subst hm
  have HE : Hid (∀ W, RSt X W σ1 (m, 4, r) 246 → _) := fun W hW => e_lit W X σ1 (m, 4, r) 246 hW hfl.1 hfl.2.1 s
  obtain ⟨⟨o0, o1', o2', o3', o4, o5, o6', o7, o8⟩, σ2, hY⟩ : ∃ o σ2, pE X s σ1 = (o, σ2) := ⟨_, _, rfl⟩
  rw [hY] at HE ⊢
  simp only at HE ⊢
  have HR : Hid _ := hr
  clear h hv ho hfl hr hf hs hY
  go_enter Tryz.func30, Tryz.ntmps30
  try simp only [vl, vs, va, vb, vx, ol, os, oa]
  clear vl vs va vb vx ol os oa
  go_wp2_with fail
  refine cS.mono ?_; rintro e wn ⟨rfl, rfl⟩
  go_wp2_with fail
  refine cM.mono ?_; rintro e w1 ⟨rfl, hd1⟩
  have hr1 := HR.out.call hd1
  have c7 := hr1.st.c7
  have c4b := hr1.st.c4
  have c9b := hr1.st.c9
  simp only at c7
  have hS1 := hr1.st.ltS
  have HR1 : Hid _ := hr1
  clear cS cM hd1 hr1 HR c4 d9 hS
  have new1 := Hv.out.newQ
  obtain ⟨u0, u1, u2, u3, u4, u5, u6, u7, u8, u9, u10, u11⟩ := ups12
  go_wp2_with fail
  refine (HE.out _ HR1.out.st).mono ?_; rintro e w5 ⟨rfl, hd5⟩
  have hr5 := HR1.out.call hd5
  have hS5 := hr5.st.ltS
  have hI6 : InQ T X w w.heap.size w5.heap.size ((((((((((((Ins.zero.up 0 1).up 1 8).up 2 s).up 3 o0).up 4 o1').up 5 o2').up 6 o3').up 7 o4).up 8 o5).up 9 o6').up 10 o7).up 11 o8) σ2 (m, 4, r) 246 (w5.alloc (.cells (insV ((((((((((((Ins.zero.up 0 1).up 1 8).up 2 s).up 3 o0).up 4 o1').up 5 o2').up 6 o3').up 7 o4).up 8 o5).up 9 o6').up 10 o7).up 11 o8)) T)) := hr5.own _
  have e9 := hI6.r.st.c9
  have e7 := hI6.r.st.c7
  have e4 := hI6.r.st.c4
  simp only at e7
  have hSW := hI6.r.st.ltS
  have HI6 : Hid _ := hI6
  clear hI6 hd5 hr5 c7 c4b c9b
  go_upto_region 11 with fail
  have hI6 := HI6.out
  clear HI6 e9 e4 e7 hSW new1 HE
  generalize (w5.alloc (.cells (insV ((((((((((((Ins.zero.up 0 1).up 1 8).up 2 s).up 3 o0).up 4 o1').up 5 o2').up 6 o3').up 7 o4).up 8 o5).up 9 o6').up 10 o7).up 11 o8)) T)) = W at hI6 ⊢
  generalize w5.heap.size = q at hI6 ⊢
  have e7 := hI6.r.st.c7
  simp only at e7
  have e9 := hI6.r.st.c9
  have a0 := (hI6).cell 0 (.int .i64 1) rfl
  have z0 := (hI6).fz 0
  have hJ0 := (hI6).set 0 (.int .i64 4) _ (insUp0 _ 4)
  have j7_0 := hJ0.r.st.c7
  simp only at j7_0
  have a1 := (hJ0).cell 1 (.int .i64 8) rfl
  have z1 := (hJ0).fz 1
  have hJ1 := (hJ0).set 1 (.int .i64 0) _ (insUp1 _ 0)
  have j7_1 := hJ1.r.st.c7
  simp only at j7_1
  have g8 := Hv.out.get hJ1.op
  have p8 := hJ1.r.put Hv.out
  have HI8 : Hid _ := hJ1
  clear hJ0 hJ1 hI6
  go_wp2
  exact bodyPost_ret (v := _) (res1 rfl _ _ w.heap.size _ rfl (HI8.out.r.got Hv.out _)) rfl ⟨rfl, HI8.out.r.fin _⟩
theorem last_246_5 (w : World) (X : Cx) (σ : Sg) (f : Int × Int × Int) (h : RSt X w σ f 246) (hf : σ.fl = none) (hm : (modrm X σ).1.2.1 = 5) :
    Calls Tryz.prog 30 #[.pointer (some ⟨X.S, 0, none⟩)] w fun e w' => e = .returned (.agg (insV { Ins.zero with op := 4, sub := 1, size := (szM 246 σ), a := (pE X (szM 246 σ) (modrm X σ).2).1 })) ∧ RDn X w (pE X (szM 246 σ) (modrm X σ).2).2 (modrm X σ).1 246 w' := by
  obtain ⟨T, nI, fsI, psI, hv, Hv, ⟨vl, vs, vb, va, vx⟩, v1, v2, v3, v4, v5, v6, p0, p1, p2, p3, p4, p5, p6, p7, sz, ne⟩ := vlP
  obtain ⟨U, mU, ho, Ho, ⟨ol, os, oa⟩, o1, o2, o3, o6, so⟩ := vlOP
  have hr := RsQ.no (RsQ.start (T := T) h) (Kp.alloc noB _ (.cells #[.int .i64 2, .int .i64 (-1), .int .i64 (-1), .int .i64 0, .int .i64 1, .int .i64 5, .int .i64 6, .int .i64 3, .int .i64 4] 3))
  have c4 := h.c4
  have d9 := h.c9
  have hS := h.ltS
  have Hsz : Hid (szM 246 σ = 1 ∨ szM 246 σ = 2 ∨ szM 246 σ = 4) := szM_or h.vv
  have cS := rsize_ok _ X σ f 246 hr.st (by decide)
  have cM := rmodrm_ok _ X σ f 246 hr.st hf
  have hfl := rmodrm_fl h hf
  obtain ⟨s, hs⟩ : ∃ s, s = (szM 246 σ) := ⟨_, rfl⟩
  rw [← hs] at cS Hsz ⊢
  generalize modrm X σ = Y at *
  obtain ⟨⟨m, k, r⟩, σ1⟩ := Y
  simp only at cM hfl hm ⊢
  subst hm
  have HE : Hid (∀ W, RSt X W σ1 (m, 5, r) 246 → _) := fun W hW => e_lit W X σ1 (m, 5, r) 246 hW hfl.1 hfl.2.1 s
  obtain ⟨⟨o0, o1', o2', o3', o4, o5, o6', o7, o8⟩, σ2, hY⟩ : ∃ o σ2, pE X s σ1 = (o, σ2) := ⟨_, _, rfl⟩
  rw [hY] at HE ⊢
  simp only at HE ⊢
  have HR : Hid _ := hr
  clear h hv ho hfl hr hf hs hY
  go_enter Tryz.func30, Tryz.ntmps30
  try simp only [vl, vs, va, vb, vx, ol, os, oa]
  clear vl vs va vb vx ol os oa
  go_wp2_with fail
  refine cS.mono ?_; rintro e wn ⟨rfl, rfl⟩
  go_wp2_with fail
  refine cM.mono ?_; rintro e w1 ⟨rfl, hd1⟩
  have hr1 := HR.out.call hd1
  have c7 := hr1.st.c7
  have c4b := hr1.st.c4
  have c9b := hr1.st.c9
  simp only at c7
  have hS1 := hr1.st.ltS
  have HR1 : Hid _ := hr1
  clear cS cM hd1 hr1 HR c4 d9 hS
  have new1 := Hv.out.newQ
  obtain ⟨u0, u1, u2, u3, u4, u5, u6, u7, u8, u9, u10, u11⟩ := ups12
  go_wp2_with fail
  refine (HE.out _ HR1.out.st).mono ?_; rintro e w5 ⟨rfl, hd5⟩
  have hr5 := HR1.out.call hd5
  have hS5 := hr5.st.ltS
  have hI6 : InQ T X w w.heap.size w5.heap.size ((((((((((((Ins.zero.up 0 1).up 1 8).up 2 s).up 3 o0).up 4 o1').up 5 o2').up 6 o3').up 7 o4).up 8 o5).up 9 o6').up 10 o7).up 11 o8) σ2 (m, 5, r) 246 (w5.alloc (.cells (insV ((((((((((((Ins.zero.up 0 1).up 1 8).up 2 s).up 3 o0).up 4 o1').up 5 o2').up 6 o3').up 7 o4).up 8 o5).up 9 o6').up 10 o7).up 11 o8)) T)) := hr5.own _
  have e9 := hI6.r.st.c9
  have e7 := hI6.r.st.c7
  have e4 := hI6.r.st.c4
  simp only at e7
  have hSW := hI6.r.st.ltS
  have HI6 : Hid _ := hI6
  clear hI6 hd5 hr5 c7 c4b c9b
  go_upto_region 11 with fail
  have hI6 := HI6.out
  clear HI6 e9 e4 e7 hSW new1 HE
  generalize (w5.alloc (.cells (insV ((((((((((((Ins.zero.up 0 1).up 1 8).up 2 s).up 3 o0).up 4 o1').up 5 o2').up 6 o3').up 7 o4).up 8 o5).up 9 o6').up 10 o7).up 11 o8)) T)) = W at hI6 ⊢
  generalize w5.heap.size = q at hI6 ⊢
  have e7 := hI6.r.st.c7
  simp only at e7
  have e9 := hI6.r.st.c9
  have a0 := (hI6).cell 0 (.int .i64 1) rfl
  have z0 := (hI6).fz 0
  have hJ0 := (hI6).set 0 (.int .i64 4) _ (insUp0 _ 4)
  have j7_0 := hJ0.r.st.c7
  simp only at j7_0
  have a1 := (hJ0).cell 1 (.int .i64 8) rfl
  have z1 := (hJ0).fz 1
  have hJ1 := (hJ0).set 1 (.int .i64 1) _ (insUp1 _ 1)
  have j7_1 := hJ1.r.st.c7
  simp only at j7_1
  have g8 := Hv.out.get hJ1.op
  have p8 := hJ1.r.put Hv.out
  have HI8 : Hid _ := hJ1
  clear hJ0 hJ1 hI6
  go_wp2
  exact bodyPost_ret (v := _) (res1 rfl _ _ w.heap.size _ rfl (HI8.out.r.got Hv.out _)) rfl ⟨rfl, HI8.out.r.fin _⟩
theorem last_246_6 (w : World) (X : Cx) (σ : Sg) (f : Int × Int × Int) (h : RSt X w σ f 246) (hf : σ.fl = none) (hm : (modrm X σ).1.2.1 = 6) :
    Calls Tryz.prog 30 #[.pointer (some ⟨X.S, 0, none⟩)] w fun e w' => e = .returned (.agg (insV { Ins.zero with op := 6, sub := 0, size := (szM 246 σ), a := (pE X (szM 246 σ) (modrm X σ).2).1 })) ∧ RDn X w (pE X (szM 246 σ) (modrm X σ).2).2 (modrm X σ).1 246 w' := by
  obtain ⟨T, nI, fsI, psI, hv, Hv, ⟨vl, vs, vb, va, vx⟩, v1, v2, v3, v4, v5, v6, p0, p1, p2, p3, p4, p5, p6, p7, sz, ne⟩ := vlP
  obtain ⟨U, mU, ho, Ho, ⟨ol, os, oa⟩, o1, o2, o3, o6, so⟩ := vlOP
  have hr := RsQ.no (RsQ.start (T := T) h) (Kp.alloc noB _ (.cells #[.int .i64 2, .int .i64 (-1), .int .i64 (-1), .int .i64 0, .int .i64 1, .int .i64 5, .int .i64 6, .int .i64 3, .int .i64 4] 3))
  have c4 := h.c4
  have d9 := h.c9
  have hS := h.ltS
  have Hsz : Hid (szM 246 σ = 1 ∨ szM 246 σ = 2 ∨ szM 246 σ = 4) := szM_or h.vv
  have cS := rsize_ok _ X σ f 246 hr.st (by decide)
  have cM := rmodrm_ok _ X σ f 246 hr.st hf
  have hfl := rmodrm_fl h hf
  obtain ⟨s, hs⟩ : ∃ s, s = (szM 246 σ) := ⟨_, rfl⟩
  rw [← hs] at cS Hsz ⊢
  generalize modrm X σ = Y at *
  obtain ⟨⟨m, k, r⟩, σ1⟩ := Y
  simp only at cM hfl hm ⊢
  subst hm
  have HE : Hid (∀ W, RSt X W σ1 (m, 6, r) 246 → _) := fun W hW => e_lit W X σ1 (m, 6, r) 246 hW hfl.1 hfl.2.1 s
  obtain ⟨⟨o0, o1', o2', o3', o4, o5, o6', o7, o8⟩, σ2, hY⟩ : ∃ o σ2, pE X s σ1 = (o, σ2) := ⟨_, _, rfl⟩
  rw [hY] at HE ⊢
  simp only at HE ⊢
  have HR : Hid _ := hr
  clear h hv ho hfl hr hf hs hY
  go_enter Tryz.func30, Tryz.ntmps30
  try simp only [vl, vs, va, vb, vx, ol, os, oa]
  clear vl vs va vb vx ol os oa
  go_wp2_with fail
  refine cS.mono ?_; rintro e wn ⟨rfl, rfl⟩
  go_wp2_with fail
  refine cM.mono ?_; rintro e w1 ⟨rfl, hd1⟩
  have hr1 := HR.out.call hd1
  have c7 := hr1.st.c7
  have c4b := hr1.st.c4
  have c9b := hr1.st.c9
  simp only at c7
  have hS1 := hr1.st.ltS
  have HR1 : Hid _ := hr1
  clear cS cM hd1 hr1 HR c4 d9 hS
  have new1 := Hv.out.newQ
  obtain ⟨u0, u1, u2, u3, u4, u5, u6, u7, u8, u9, u10, u11⟩ := ups12
  go_wp2_with fail
  refine (HE.out _ HR1.out.st).mono ?_; rintro e w5 ⟨rfl, hd5⟩
  have hr5 := HR1.out.call hd5
  have hS5 := hr5.st.ltS
  have hI6 : InQ T X w w.heap.size w5.heap.size ((((((((((((Ins.zero.up 0 1).up 1 8).up 2 s).up 3 o0).up 4 o1').up 5 o2').up 6 o3').up 7 o4).up 8 o5).up 9 o6').up 10 o7).up 11 o8) σ2 (m, 6, r) 246 (w5.alloc (.cells (insV ((((((((((((Ins.zero.up 0 1).up 1 8).up 2 s).up 3 o0).up 4 o1').up 5 o2').up 6 o3').up 7 o4).up 8 o5).up 9 o6').up 10 o7).up 11 o8)) T)) := hr5.own _
  have e9 := hI6.r.st.c9
  have e7 := hI6.r.st.c7
  have e4 := hI6.r.st.c4
  simp only at e7
  have hSW := hI6.r.st.ltS
  have HI6 : Hid _ := hI6
  clear hI6 hd5 hr5 c7 c4b c9b
  go_upto_region 11 with fail
  have hI6 := HI6.out
  clear HI6 e9 e4 e7 hSW new1 HE
  generalize (w5.alloc (.cells (insV ((((((((((((Ins.zero.up 0 1).up 1 8).up 2 s).up 3 o0).up 4 o1').up 5 o2').up 6 o3').up 7 o4).up 8 o5).up 9 o6').up 10 o7).up 11 o8)) T)) = W at hI6 ⊢
  generalize w5.heap.size = q at hI6 ⊢
  have e7 := hI6.r.st.c7
  simp only at e7
  have e9 := hI6.r.st.c9
  have a0 := (hI6).cell 0 (.int .i64 1) rfl
  have z0 := (hI6).fz 0
  have hJ0 := (hI6).set 0 (.int .i64 6) _ (insUp0 _ 6)
  have j7_0 := hJ0.r.st.c7
  simp only at j7_0
  have a1 := (hJ0).cell 1 (.int .i64 8) rfl
  have z1 := (hJ0).fz 1
  have hJ1 := (hJ0).set 1 (.int .i64 0) _ (insUp1 _ 0)
  have j7_1 := hJ1.r.st.c7
  simp only at j7_1
  have g8 := Hv.out.get hJ1.op
  have p8 := hJ1.r.put Hv.out
  have HI8 : Hid _ := hJ1
  clear hJ0 hJ1 hI6
  go_wp2
  exact bodyPost_ret (v := _) (res1 rfl _ _ w.heap.size _ rfl (HI8.out.r.got Hv.out _)) rfl ⟨rfl, HI8.out.r.fin _⟩
theorem last_246_7 (w : World) (X : Cx) (σ : Sg) (f : Int × Int × Int) (h : RSt X w σ f 246) (hf : σ.fl = none) (hm : (modrm X σ).1.2.1 = 7) :
    Calls Tryz.prog 30 #[.pointer (some ⟨X.S, 0, none⟩)] w fun e w' => e = .returned (.agg (insV { Ins.zero with op := 6, sub := 1, size := (szM 246 σ), a := (pE X (szM 246 σ) (modrm X σ).2).1 })) ∧ RDn X w (pE X (szM 246 σ) (modrm X σ).2).2 (modrm X σ).1 246 w' := by
  obtain ⟨T, nI, fsI, psI, hv, Hv, ⟨vl, vs, vb, va, vx⟩, v1, v2, v3, v4, v5, v6, p0, p1, p2, p3, p4, p5, p6, p7, sz, ne⟩ := vlP
  obtain ⟨U, mU, ho, Ho, ⟨ol, os, oa⟩, o1, o2, o3, o6, so⟩ := vlOP
  have hr := RsQ.no (RsQ.start (T := T) h) (Kp.alloc noB _ (.cells #[.int .i64 2, .int .i64 (-1), .int .i64 (-1), .int .i64 0, .int .i64 1, .int .i64 5, .int .i64 6, .int .i64 3, .int .i64 4] 3))
  have c4 := h.c4
  have d9 := h.c9
  have hS := h.ltS
  have Hsz : Hid (szM 246 σ = 1 ∨ szM 246 σ = 2 ∨ szM 246 σ = 4) := szM_or h.vv
  have cS := rsize_ok _ X σ f 246 hr.st (by decide)
  have cM := rmodrm_ok _ X σ f 246 hr.st hf
  have hfl := rmodrm_fl h hf
  obtain ⟨s, hs⟩ : ∃ s, s = (szM 246 σ) := ⟨_, rfl⟩
  rw [← hs] at cS Hsz ⊢
  generalize modrm X σ = Y at *
  obtain ⟨⟨m, k, r⟩, σ1⟩ := Y
  simp only at cM hfl hm ⊢
  subst hm
  have HE : Hid (∀ W, RSt X W σ1 (m, 7, r) 246 → _) := fun W hW => e_lit W X σ1 (m, 7, r) 246 hW hfl.1 hfl.2.1 s
  obtain ⟨⟨o0, o1', o2', o3', o4, o5, o6', o7, o8⟩, σ2, hY⟩ : ∃ o σ2, pE X s σ1 = (o, σ2) := ⟨_, _, rfl⟩
  rw [hY] at HE ⊢
  simp only at HE ⊢
  have HR : Hid _ := hr
  clear h hv ho hfl hr hf hs hY
  go_enter Tryz.func30, Tryz.ntmps30
  try simp only [vl, vs, va, vb, vx, ol, os, oa]
  clear vl vs va vb vx ol os oa
  go_wp2_with fail
  refine cS.mono ?_; rintro e wn ⟨rfl, rfl⟩
  go_wp2_with fail
  refine cM.mono ?_; rintro e w1 ⟨rfl, hd1⟩
  have hr1 := HR.out.call hd1
  have c7 := hr1.st.c7
  have c4b := hr1.st.c4
  have c9b := hr1.st.c9
  simp only at c7
  have hS1 := hr1.st.ltS
  have HR1 : Hid _ := hr1
  clear cS cM hd1 hr1 HR c4 d9 hS
  have new1 := Hv.out.newQ
  obtain ⟨u0, u1, u2, u3, u4, u5, u6, u7, u8, u9, u10, u11⟩ := ups12
  go_wp2_with fail
  refine (HE.out _ HR1.out.st).mono ?_; rintro e w5 ⟨rfl, hd5⟩
  have hr5 := HR1.out.call hd5
  have hS5 := hr5.st.ltS
  have hI6 : InQ T X w w.heap.size w5.heap.size ((((((((((((Ins.zero.up 0 1).up 1 8).up 2 s).up 3 o0).up 4 o1').up 5 o2').up 6 o3').up 7 o4).up 8 o5).up 9 o6').up 10 o7).up 11 o8) σ2 (m, 7, r) 246 (w5.alloc (.cells (insV ((((((((((((Ins.zero.up 0 1).up 1 8).up 2 s).up 3 o0).up 4 o1').up 5 o2').up 6 o3').up 7 o4).up 8 o5).up 9 o6').up 10 o7).up 11 o8)) T)) := hr5.own _
  have e9 := hI6.r.st.c9
  have e7 := hI6.r.st.c7
  have e4 := hI6.r.st.c4
  simp only at e7
  have hSW := hI6.r.st.ltS
  have HI6 : Hid _ := hI6
  clear hI6 hd5 hr5 c7 c4b c9b
  go_upto_region 11 with fail
  have hI6 := HI6.out
  clear HI6 e9 e4 e7 hSW new1 HE
  generalize (w5.alloc (.cells (insV ((((((((((((Ins.zero.up 0 1).up 1 8).up 2 s).up 3 o0).up 4 o1').up 5 o2').up 6 o3').up 7 o4).up 8 o5).up 9 o6').up 10 o7).up 11 o8)) T)) = W at hI6 ⊢
  generalize w5.heap.size = q at hI6 ⊢
  have e7 := hI6.r.st.c7
  simp only at e7
  have e9 := hI6.r.st.c9
  have a0 := (hI6).cell 0 (.int .i64 1) rfl
  have z0 := (hI6).fz 0
  have hJ0 := (hI6).set 0 (.int .i64 6) _ (insUp0 _ 6)
  have j7_0 := hJ0.r.st.c7
  simp only at j7_0
  have a1 := (hJ0).cell 1 (.int .i64 8) rfl
  have z1 := (hJ0).fz 1
  have hJ1 := (hJ0).set 1 (.int .i64 1) _ (insUp1 _ 1)
  have j7_1 := hJ1.r.st.c7
  simp only at j7_1
  have g8 := Hv.out.get hJ1.op
  have p8 := hJ1.r.put Hv.out
  have HI8 : Hid _ := hJ1
  clear hJ0 hJ1 hI6
  go_wp2
  exact bodyPost_ret (v := _) (res1 rfl _ _ w.heap.size _ rfl (HI8.out.r.got Hv.out _)) rfl ⟨rfl, HI8.out.r.fin _⟩
theorem last_247_0 (w : World) (X : Cx) (σ : Sg) (f : Int × Int × Int) (h : RSt X w σ f 247) (hf : σ.fl = none) (hm : (modrm X σ).1.2.1 = 0) :
    Calls Tryz.prog 30 #[.pointer (some ⟨X.S, 0, none⟩)] w fun e w' => e = .returned (.agg (insV { Ins.zero with op := 1, sub := 8, size := (szM 247 σ), a := (pE X (szM 247 σ) (modrm X σ).2).1, b := numO (bytesM X (szM 247 σ) (pE X (szM 247 σ) (modrm X σ).2).2).1 })) ∧ RDn X w (bytesM X (szM 247 σ) (pE X (szM 247 σ) (modrm X σ).2).2).2 (modrm X σ).1 247 w' := by
  obtain ⟨T, nI, fsI, psI, hv, Hv, ⟨vl, vs, vb, va, vx⟩, v1, v2, v3, v4, v5, v6, p0, p1, p2, p3, p4, p5, p6, p7, sz, ne⟩ := vlP
  obtain ⟨U, mU, ho, Ho, ⟨ol, os, oa⟩, o1, o2, o3, o6, so⟩ := vlOP
  have hr := RsQ.no (RsQ.start (T := T) h) (Kp.alloc noB _ (.cells #[.int .i64 2, .int .i64 (-1), .int .i64 (-1), .int .i64 0, .int .i64 1, .int .i64 5, .int .i64 6, .int .i64 3, .int .i64 4] 3))
  have c4 := h.c4
  have d9 := h.c9
  have hS := h.ltS
  have Hsz : Hid (szM 247 σ = 1 ∨ szM 247 σ = 2 ∨ szM 247 σ = 4) := szM_or h.vv
  have cS := rsize_ok _ X σ f 247 hr.st (by decide)
  have cM := rmodrm_ok _ X σ f 247 hr.st hf
  have hfl := rmodrm_fl h hf
  obtain ⟨s, hs⟩ : ∃ s, s = (szM 247 σ) := ⟨_, rfl⟩
  rw [← hs] at cS Hsz ⊢
  generalize modrm X σ = Y at *
  obtain ⟨⟨m, k, r⟩, σ1⟩ := Y
  simp only at cM hfl hm ⊢
  subst hm
  have HE : Hid (∀ W, RSt X W σ1 (m, 0, r) 247 → _) := fun W hW => e_lit W X σ1 (m, 0, r) 247 hW hfl.1 hfl.2.1 s
  obtain ⟨⟨o0, o1', o2', o3', o4, o5, o6', o7, o8⟩, σ2, hY⟩ : ∃ o σ2, pE X s σ1 = (o, σ2) := ⟨_, _, rfl⟩
  rw [hY] at HE ⊢
  simp only at HE ⊢
  obtain ⟨d, σ3, hB⟩ : ∃ d σ3, bytesM X s σ2 = (d, σ3) := ⟨_, _, rfl⟩
  rw [hB]
  simp only
  have HB : Hid _ := hB
  clear hB
  obtain ⟨nO, hn⟩ : ∃ nO, numO d = nO := ⟨_, rfl⟩
  rw [hn]
  have HN : Hid _ := hn
  clear hn
  have HR : Hid _ := hr
  clear h hv ho hfl hr hf hs hY
  go_enter Tryz.func30, Tryz.ntmps30
  try simp only [vl, vs, va, vb, vx, ol, os, oa]
  clear vl vs va vb vx ol os oa
  go_wp2_with fail
  refine cS.mono ?_; rintro e wn ⟨rfl, rfl⟩
  go_wp2_with fail
  refine cM.mono ?_; rintro e w1 ⟨rfl, hd1⟩
  have hr1 := HR.out.call hd1
  have c7 := hr1.st.c7
  have c4b := hr1.st.c4
  have c9b := hr1.st.c9
  simp only at c7
  have hS1 := hr1.st.ltS
  have HR1 : Hid _ := hr1
  clear cS cM hd1 hr1 HR c4 d9 hS
  have new1 := Hv.out.newQ
  obtain ⟨u0, u1, u2, u3, u4, u5, u6, u7, u8, u9, u10, u11⟩ := ups12
  go_wp2_with fail
  refine (HE.out _ HR1.out.st).mono ?_; rintro e w5 ⟨rfl, hd5⟩
  have hr5 := HR1.out.call hd5
  have hS5 := hr5.st.ltS
  have hI6 : InQ T X w w.heap.size w5.heap.size ((((((((((((Ins.zero.up 0 1).up 1 8).up 2 s).up 3 o0).up 4 o1').up 5 o2').up 6 o3').up 7 o4).up 8 o5).up 9 o6').up 10 o7).up 11 o8) σ2 (m, 0, r) 247 (w5.alloc (.cells (insV ((((((((((((Ins.zero.up 0 1).up 1 8).up 2 s).up 3 o0).up 4 o1').up 5 o2').up 6 o3').up 7 o4).up 8 o5).up 9 o6').up 10 o7).up 11 o8)) T)) := hr5.own _
  have e9 := hI6.r.st.c9
  have e7 := hI6.r.st.c7
  have e4 := hI6.r.st.c4
  simp only at e7
  have hSW := hI6.r.st.ltS
  have HI6 : Hid _ := hI6
  clear hI6 hd5 hr5 c7 c4b c9b
  go_wp2_with fail
  have cB := num_okR (w5.alloc (.cells (insV ((((((((((((Ins.zero.up 0 1).up 1 8).up 2 s).up 3 o0).up 4 o1').up 5 o2').up 6 o3').up 7 o4).up 8 o5).up 9 o6').up 10 o7).up 11 o8)) T)) X σ2 (m, 0, r) 247 HI6.out.r.st s (Hsz.out)
  rw [HB.out] at cB
  refine cB.mono ?_; rintro e w6 ⟨rfl, hd6⟩
  have hI6b := HI6.out.call hd6
  have HI6b : Hid _ := hI6b
  have e4b := hI6b.r.st.c4
  have e9b := hI6b.r.st.c9
  clear hI6b cB hd6
  go_wp2_with fail
  have cN := rImm_ok w6 d
  rw [HN.out] at cN
  refine cN.mono ?_; rintro e w7 ⟨rfl, k7⟩
  have hI7 := HI6b.out.no k7
  clear cN k7 HI6b e4b e9b
  have t7 := hI7.putB nO
  have hI8 := hI7.row { ((((((((((((Ins.zero.up 0 1).up 1 8).up 2 s).up 3 o0).up 4 o1').up 5 o2').up 6 o3').up 7 o4).up 8 o5).up 9 o6').up 10 o7).up 11 o8) with b := nO }
  have g8 := Hv.out.get hI8.op
  have p8 := hI8.r.put Hv.out
  have HI8 : Hid _ := hI8
  clear hI8 hI7 HI6 e9 e4 e7
  go_wp2
  exact bodyPost_ret (v := _) (res1 rfl _ _ w.heap.size _ rfl (HI8.out.r.got Hv.out _)) rfl ⟨rfl, HI8.out.r.fin _⟩
theorem last_247_1 (w : World) (X : Cx) (σ : Sg) (f : Int × Int × Int) (h : RSt X w σ f 247) (hf : σ.fl = none) (hm : (modrm X σ).1.2.1 = 1) :
    Calls Tryz.prog 30 #[.pointer (some ⟨X.S, 0, none⟩)] w fun e w' => e = .returned (.agg (insV { Ins.zero with op := 1, sub := 8, size := (szM 247 σ), a := (pE X (szM 247 σ) (modrm X σ).2).1, b := numO (bytesM X (szM 247 σ) (pE X (szM 247 σ) (modrm X σ).2).2).1 })) ∧ RDn X w (bytesM X (szM 247 σ) (pE X (szM 247 σ) (modrm X σ).2).2).2 (modrm X σ).1 247 w' := by
  obtain ⟨T, nI, fsI, psI, hv, Hv, ⟨vl, vs, vb, va, vx⟩, v1, v2, v3, v4, v5, v6, p0, p1, p2, p3, p4, p5, p6, p7, sz, ne⟩ := vlP
  obtain ⟨U, mU, ho, Ho, ⟨ol, os, oa⟩, o1, o2, o3, o6, so⟩ := vlOP
  have hr := RsQ.no (RsQ.start (T := T) h) (Kp.alloc noB _ (.cells #[.int .i64 2, .int .i64 (-1), .int .i64 (-1), .int .i64 0, .int .i64 1, .int .i64 5, .int .i64 6, .int .i64 3, .int .i64 4] 3))
  have c4 := h.c4
  have d9 := h.c9
  have hS := h.ltS
  have Hsz : Hid (szM 247 σ = 1 ∨ szM 247 σ = 2 ∨ szM 247 σ = 4) := szM_or h.vv
  have cS := rsize_ok _ X σ f 247 hr.st (by decide)
  have cM := rmodrm_ok _ X σ f 247 hr.st hf
  have hfl := rmodrm_fl h hf
  obtain ⟨s, hs⟩ : ∃ s, s = (szM 247 σ) := ⟨_, rfl⟩
  rw [← hs] at cS Hsz ⊢
  generalize modrm X σ = Y at *
  obtain ⟨⟨m, k, r⟩, σ1⟩ := Y
  simp only at cM hfl hm ⊢
  subst hm
  have HE : Hid (∀ W, RSt X W σ1 (m, 1, r) 247 → _) := fun W hW => e_lit W X σ1 (m, 1, r) 247 hW hfl.1 hfl.2.1 s
  obtain ⟨⟨o0, o1', o2', o3', o4, o5, o6', o7, o8⟩, σ2, hY⟩ : ∃ o σ2, pE X s σ1 = (o, σ2) := ⟨_, _, rfl⟩
  rw [hY] at HE ⊢
  simp only at HE ⊢
  obtain ⟨d, σ3, hB⟩ : ∃ d σ3, bytesM X s σ2 = (d, σ3) := ⟨_, _, rfl⟩
  rw [hB]
  simp only
  have HB : Hid _ := hB
  clear hB
  obtain ⟨nO, hn⟩ : ∃ nO, numO d = nO := ⟨_, rfl⟩
  rw [hn]
  have HN : Hid _ := hn
  clear hn
  have HR : Hid _ := hr
  clear h hv ho hfl hr hf hs hY
  go_enter Tryz.func30, Tryz.ntmps30
  try simp only [vl, vs, va, vb, vx, ol, os, oa]
  clear vl vs va vb vx ol os oa
  go_wp2_with fail
  refine cS.mono ?_; rintro e wn ⟨rfl, rfl⟩
  go_wp2_with fail
  refine cM.mono ?_; rintro e w1 ⟨rfl, hd1⟩
  have hr1 := HR.out.call hd1
  have c7 := hr1.st.c7
  have c4b := hr1.st.c4
  have c9b := hr1.st.c9
  simp only at c7
  have hS1 := hr1.st.ltS
  have HR1 : Hid _ := hr1
  clear cS cM hd1 hr1 HR c4 d9 hS
  have new1 := Hv.out.newQ
  obtain ⟨u0, u1, u2, u3, u4, u5, u6, u7, u8, u9, u10, u11⟩ := ups12
  go_wp2_with fail
  refine (HE.out _ HR1.out.st).mono ?_; rintro e w5 ⟨rfl, hd5⟩
  have hr5 := HR1.out.call hd5
  have hS5 := hr5.st.ltS
  have hI6 : InQ T X w w.heap.size w5.heap.size ((((((((((((Ins.zero.up 0 1).up 1 8).up 2 s).up 3 o0).up 4 o1').up 5 o2').up 6 o3').up 7 o4).up 8 o5).up 9 o6').up 10 o7).up 11 o8) σ2 (m, 1, r) 247 (w5.alloc (.cells (insV ((((((((((((Ins.zero.up 0 1).up 1 8).up 2 s).up 3 o0).up 4 o1').up 5 o2').up 6 o3').up 7 o4).up 8 o5).up 9 o6').up 10 o7).up 11 o8)) T)) := hr5.own _
  have e9 := hI6.r.st.c9
  have e7 := hI6.r.st.c7
  have e4 := hI6.r.st.c4
  simp only at e7
  have hSW := hI6.r.st.ltS
  have HI6 : Hid _ := hI6
  clear hI6 hd5 hr5 c7 c4b c9b
  go_wp2_with fail
  have cB := num_okR (w5.alloc (.cells (insV ((((((((((((Ins.zero.up 0 1).up 1 8).up 2 s).up 3 o0).up 4 o1').up 5 o2').up 6 o3').up 7 o4).up 8 o5).up 9 o6').up 10 o7).up 11 o8)) T)) X σ2 (m, 1, r) 247 HI6.out.r.st s (Hsz.out)
  rw [HB.out] at cB
  refine cB.mono ?_; rintro e w6 ⟨rfl, hd6⟩
  have hI6b := HI6.out.call hd6
  have HI6b : Hid _ := hI6b
  have e4b := hI6b.r.st.c4
  have e9b := hI6b.r.st.c9
  clear hI6b cB hd6
  go_wp2_with fail
  have cN := rImm_ok w6 d
  rw [HN.out] at cN
  refine cN.mono ?_; rintro e w7 ⟨rfl, k7⟩
  have hI7 := HI6b.out.no k7
  clear cN k7 HI6b e4b e9b
  have t7 := hI7.putB nO
  have hI8 := hI7.row { ((((((((((((Ins.zero.up 0 1).up 1 8).up 2 s).up 3 o0).up 4 o1').up 5 o2').up 6 o3').up 7 o4).up 8 o5).up 9 o6').up 10 o7).up 11 o8) with b := nO }
  have g8 := Hv.out.get hI8.op
  have p8 := hI8.r.put Hv.out
  have HI8 : Hid _ := hI8
  clear hI8 hI7 HI6 e9 e4 e7
  go_wp2
  exact bodyPost_ret (v := _) (res1 rfl _ _ w.heap.size _ rfl (HI8.out.r.got Hv.out _)) rfl ⟨rfl, HI8.out.r.fin _⟩
theorem last_247_2 (w : World) (X : Cx) (σ : Sg) (f : Int × Int × Int) (h : RSt X w σ f 247) (hf : σ.fl = none) (hm : (modrm X σ).1.2.1 = 2) :
    Calls Tryz.prog 30 #[.pointer (some ⟨X.S, 0, none⟩)] w fun e w' => e = .returned (.agg (insV { Ins.zero with op := 1, sub := 12, size := (szM 247 σ), a := (pE X (szM 247 σ) (modrm X σ).2).1 })) ∧ RDn X w (pE X (szM 247 σ) (modrm X σ).2).2 (modrm X σ).1 247 w' := by
  obtain ⟨T, nI, fsI, psI, hv, Hv, ⟨vl, vs, vb, va, vx⟩, v1, v2, v3, v4, v5, v6, p0, p1, p2, p3, p4, p5, p6, p7, sz, ne⟩ := vlP
  obtain ⟨U, mU, ho, Ho, ⟨ol, os, oa⟩, o1, o2, o3, o6, so⟩ := vlOP
  have hr := RsQ.no (RsQ.start (T := T) h) (Kp.alloc noB _ (.cells #[.int .i64 2, .int .i64 (-1), .int .i64 (-1), .int .i64 0, .int .i64 1, .int .i64 5, .int .i64 6, .int .i64 3, .int .i64 4] 3))
  have c4 := h.c4
  have d9 := h.c9
  have hS := h.ltS
  have Hsz : Hid (szM 247 σ = 1 ∨ szM 247 σ = 2 ∨ szM 247 σ = 4) := szM_or h.vv
  have cS := rsize_ok _ X σ f 247 hr.st (by decide)
  have cM := rmodrm_ok _ X σ f 247 hr.st hf
  have hfl := rmodrm_fl h hf
  obtain ⟨s, hs⟩ : ∃ s, s = (szM 247 σ) := ⟨_, rfl⟩
  rw [← hs] at cS Hsz ⊢
  generalize modrm X σ = Y at *
  obtain ⟨⟨m, k, r⟩, σ1⟩ := Y
  simp only at cM hfl hm ⊢
  subst hm
  have HE : Hid (∀ W, RSt X W σ1 (m, 2, r) 247 → _) := fun W hW => e_lit W X σ1 (m, 2, r) 247 hW hfl.1 hfl.2.1 s
  obtain ⟨⟨o0, o1', o2', o3', o4, o5, o6', o7, o8⟩, σ2, hY⟩ : ∃ o σ2, pE X s σ1 = (o, σ2) := ⟨_, _, rfl⟩
  rw [hY] at HE ⊢
  simp only at HE ⊢
  have HR : Hid _ := hr
  clear h hv ho hfl hr hf hs hY
  go_enter Tryz.func30, Tryz.ntmps30
  try simp only [vl, vs, va, vb, vx, ol, os, oa]
  clear vl vs va vb vx ol os oa
  go_wp2_with fail
  refine cS.mono ?_; rintro e wn ⟨rfl, rfl⟩
  go_wp2_with fail
  refine cM.mono ?_; rintro e w1 ⟨rfl, hd1⟩
  have hr1 := HR.out.call hd1
  have c7 := hr1.st.c7
  have c4b := hr1.st.c4
  have c9b := hr1.st.c9
  simp only at c7
  have hS1 := hr1.st.ltS
  have HR1 : Hid _ := hr1
  clear cS cM hd1 hr1 HR c4 d9 hS
  have new1 := Hv.out.newQ
  obtain ⟨u0, u1, u2, u3, u4, u5, u6, u7, u8, u9, u10, u11⟩ := ups12
  go_wp2_with fail
  refine (HE.out _ HR1.out.st).mono ?_; rintro e w5 ⟨rfl, hd5⟩
  have hr5 := HR1.out.call hd5
  have hS5 := hr5.st.ltS
  have hI6 : InQ T X w w.heap.size w5.heap.size ((((((((((((Ins.zero.up 0 1).up 1 8).up 2 s).up 3 o0).up 4 o1').up 5 o2').up 6 o3').up 7 o4).up 8 o5).up 9 o6').up 10 o7).up 11 o8) σ2 (m, 2, r) 247 (w5.alloc (.cells (insV ((((((((((((Ins.zero.up 0 1).up 1 8).up 2 s).up 3 o0).up 4 o1').up 5 o2').up 6 o3').up 7 o4).up 8 o5).up 9 o6').up 10 o7).up 11 o8)) T)) := hr5.own _
  have e9 := hI6.r.st.c9
  have e7 := hI6.r.st.c7
  have e4 := hI6.r.st.c4
  simp only at e7
  have hSW := hI6.r.st.ltS
  have HI6 : Hid _ := hI6
  clear hI6 hd5 hr5 c7 c4b c9b
  go_upto_region 11 with fail
  have hI6 := HI6.out
  clear HI6 e9 e4 e7 hSW new1 HE
  generalize (w5.alloc (.cells (insV ((((((((((((Ins.zero.up 0 1).up 1 8).up 2 s).up 3 o0).up 4 o1').up 5 o2').up 6 o3').up 7 o4).up 8 o5).up 9 o6').up 10 o7).up 11 o8)) T)) = W at hI6 ⊢
  generalize w5.heap.size = q at hI6 ⊢
  have e7 := hI6.r.st.c7
  simp only at e7
  have e9 := hI6.r.st.c9
  have a0 := (hI6).cell 1 (.int .i64 8) rfl
  have z0 := (hI6).fz 1
  have hJ0 := (hI6).set 1 (.int .i64 12) _ (insUp1 _ 12)
  have j7_0 := hJ0.r.st.c7
  simp only at j7_0
  have g8 := Hv.out.get hJ0.op
  have p8 := hJ0.r.put Hv.out
  have HI8 : Hid _ := hJ0
  clear hJ0 hI6
  go_wp2
  exact bodyPost_ret (v := _) (res1 rfl _ _ w.heap.size _ rfl (HI8.out.r.got Hv.out _)) rfl ⟨rfl, HI8.out.r.fin _⟩
theorem last_247_3 (w : World) (X : Cx) (σ : Sg) (f : Int × Int × Int) (h : RSt X w σ f 247) (hf : σ.fl = none) (hm : (modrm X σ).1.2.1 = 3) :
    Calls Tryz.prog 30 #[.pointer (some ⟨X.S, 0, none⟩)] w fun e w' => e = .returned (.agg (insV { Ins.zero with op := 1, sub := 11, size := (szM 247 σ), a := (pE X (szM 247 σ) (modrm X σ).2).1 })) ∧ RDn X w (pE X (szM 247 σ) (modrm X σ).2).2 (modrm X σ).1 247 w' := by
  obtain ⟨T, nI, fsI, psI, hv, Hv, ⟨vl, vs, vb, va, vx⟩, v1, v2, v3, v4, v5, v6, p0, p1, p2, p3, p4, p5, p6, p7, sz, ne⟩ := vlP
  obtain ⟨U, mU, ho, Ho, ⟨ol, os, oa⟩, o1, o2, o3, o6, so⟩ := vlOP
  have hr := RsQ.no (RsQ.start (T := T) h) (Kp.alloc noB _ (.cells #[.int .i64 2, .int .i64 (-1), .int .i64 (-1), .int .i64 0, .int .i64 1, .int .i64 5, .int .i64 6, .int .i64 3, .int .i64 4] 3))
  have c4 := h.c4
  have d9 := h.c9
  have hS := h.ltS
  have Hsz : Hid (szM 247 σ = 1 ∨ szM 247 σ = 2 ∨ szM 247 σ = 4) := szM_or h.vv
  have cS := rsize_ok _ X σ f 247 hr.st (by decide)
  have cM := rmodrm_ok _ X σ f 247 hr.st hf
  have hfl := rmodrm_fl h hf
  obtain ⟨s, hs⟩ : ∃ s, s = (szM 247 σ) := ⟨_, rfl⟩
  rw [← hs] at cS Hsz ⊢
  generalize modrm X σ = Y at *
  obtain ⟨⟨m, k, r⟩, σ1⟩ := Y
  simp only at cM hfl hm ⊢
  subst hm
  have HE : Hid (∀ W, RSt X W σ1 (m, 3, r) 247 → _) := fun W hW => e_lit W X σ1 (m, 3, r) 247 hW hfl.1 hfl.2.1 s
  obtain ⟨⟨o0, o1', o2', o3', o4, o5, o6', o7, o8⟩, σ2, hY⟩ : ∃ o σ2, pE X s σ1 = (o, σ2) := ⟨_, _, rfl⟩
  rw [hY] at HE ⊢
  simp only at HE ⊢
  have HR : Hid _ := hr
  clear h hv ho hfl hr hf hs hY
  go_enter Tryz.func30, Tryz.ntmps30
  try simp only [vl, vs, va, vb, vx, ol, os, oa]
  clear vl vs va vb vx ol os oa
  go_wp2_with fail
  refine cS.mono ?_; rintro e wn ⟨rfl, rfl⟩
  go_wp2_with fail
  refine cM.mono ?_; rintro e w1 ⟨rfl, hd1⟩
  have hr1 := HR.out.call hd1
  have c7 := hr1.st.c7
  have c4b := hr1.st.c4
  have c9b := hr1.st.c9
  simp only at c7
  have hS1 := hr1.st.ltS
  have HR1 : Hid _ := hr1
  clear cS cM hd1 hr1 HR c4 d9 hS
  have new1 := Hv.out.newQ
  obtain ⟨u0, u1, u2, u3, u4, u5, u6, u7, u8, u9, u10, u11⟩ := ups12
  go_wp2_with fail
  refine (HE.out _ HR1.out.st).mono ?_; rintro e w5 ⟨rfl, hd5⟩
  have hr5 := HR1.out.call hd5
  have hS5 := hr5.st.ltS
  have hI6 : InQ T X w w.heap.size w5.heap.size ((((((((((((Ins.zero.up 0 1).up 1 8).up 2 s).up 3 o0).up 4 o1').up 5 o2').up 6 o3').up 7 o4).up 8 o5).up 9 o6').up 10 o7).up 11 o8) σ2 (m, 3, r) 247 (w5.alloc (.cells (insV ((((((((((((Ins.zero.up 0 1).up 1 8).up 2 s).up 3 o0).up 4 o1').up 5 o2').up 6 o3').up 7 o4).up 8 o5).up 9 o6').up 10 o7).up 11 o8)) T)) := hr5.own _
  have e9 := hI6.r.st.c9
  have e7 := hI6.r.st.c7
  have e4 := hI6.r.st.c4
  simp only at e7
  have hSW := hI6.r.st.ltS
  have HI6 : Hid _ := hI6
  clear hI6 hd5 hr5 c7 c4b c9b
  go_upto_region 11 with fail
  have hI6 := HI6.out
  clear HI6 e9 e4 e7 hSW new1 HE
  generalize (w5.alloc (.cells (insV ((((((((((((Ins.zero.up 0 1).up 1 8).up 2 s).up 3 o0).up 4 o1').up 5 o2').up 6 o3').up 7 o4).up 8 o5).up 9 o6').up 10 o7).up 11 o8)) T)) = W at hI6 ⊢
  generalize w5.heap.size = q at hI6 ⊢
  have e7 := hI6.r.st.c7
  simp only at e7
  have e9 := hI6.r.st.c9
  have a0 := (hI6).cell 1 (.int .i64 8) rfl
  have z0 := (hI6).fz 1
  have hJ0 := (hI6).set 1 (.int .i64 11) _ (insUp1 _ 11)
  have j7_0 := hJ0.r.st.c7
  simp only at j7_0
  have g8 := Hv.out.get hJ0.op
  have p8 := hJ0.r.put Hv.out
  have HI8 : Hid _ := hJ0
  clear hJ0 hI6
  go_wp2
  exact bodyPost_ret (v := _) (res1 rfl _ _ w.heap.size _ rfl (HI8.out.r.got Hv.out _)) rfl ⟨rfl, HI8.out.r.fin _⟩
theorem last_247_4 (w : World) (X : Cx) (σ : Sg) (f : Int × Int × Int) (h : RSt X w σ f 247) (hf : σ.fl = none) (hm : (modrm X σ).1.2.1 = 4) :
    Calls Tryz.prog 30 #[.pointer (some ⟨X.S, 0, none⟩)] w fun e w' => e = .returned (.agg (insV { Ins.zero with op := 4, sub := 0, size := (szM 247 σ), a := (pE X (szM 247 σ) (modrm X σ).2).1 })) ∧ RDn X w (pE X (szM 247 σ) (modrm X σ).2).2 (modrm X σ).1 247 w' := by
  obtain ⟨T, nI, fsI, psI, hv, Hv, ⟨vl, vs, vb, va, vx⟩, v1, v2, v3, v4, v5, v6, p0, p1, p2, p3, p4, p5, p6, p7, sz, ne⟩ := vlP
  obtain ⟨U, mU, ho, Ho, ⟨ol, os, oa⟩, o1, o2, o3, o6, so⟩ := vlOP
  have hr := RsQ.no (RsQ.start (T := T) h) (Kp.alloc noB _ (.cells #[.int .i64 2, .int .i64 (-1), .int .i64 (-1), .int .i64 0, .int .i64 1, .int .i64 5, .int .i64 6, .int .i64 3, .int .i64 4] 3))
  have c4 := h.c4
  have d9 := h.c9
  have hS := h.ltS
  have Hsz : Hid (szM 247 σ = 1 ∨ szM 247 σ = 2 ∨ szM 247 σ = 4) := szM_or h.vv
  have cS := rsize_ok _ X σ f 247 hr.st (by decide)
  have cM := rmodrm_ok _ X σ f 247 hr.st hf
  have hfl := rmodrm_fl h hf
  obtain ⟨s, hs⟩ : ∃ s, s = (szM 247 σ) := ⟨_, rfl⟩
  rw [← hs] at cS Hsz ⊢
  generalize modrm X σ = Y at *
  obtain ⟨⟨m, k, r⟩, σ1⟩ := Y
  simp only at cM hfl hm ⊢
  subst hm
  have HE : Hid (∀ W, RSt X W σ1 (m, 4, r) 247 → _) := fun W hW => e_lit W X σ1 (m, 4, r) 247 hW hfl.1 hfl.2.1 s
  obtain ⟨⟨o0, o1', o2', o3', o4, o5, o6', o7, o8⟩, σ2, hY⟩ : ∃ o σ2, pE X s σ1 = (o, σ2) := ⟨_, _, rfl⟩
  rw [hY] at HE ⊢
  simp only at HE ⊢
  have HR : Hid _ := hr
  clear h hv ho hfl hr hf hs hY
  go_enter Tryz.func30, Tryz.ntmps30
  try simp only [vl, vs, va, vb, vx, ol, os, oa]
  clear vl vs va vb vx ol os oa
  go_wp2_with fail
  refine cS.mono ?_; rintro e wn ⟨rfl, rfl⟩
  go_wp2_with fail
  refine cM.mono ?_; rintro e w1 ⟨rfl, hd1⟩
  have hr1 := HR.out.call hd1
  have c7 := hr1.st.c7
  have c4b := hr1.st.c4
  have c9b := hr1.st.c9
  simp only at c7
  have hS1 := hr1.st.ltS
  have HR1 : Hid _ := hr1
  clear cS cM hd1 hr1 HR c4 d9 hS
  have new1 := Hv.out.newQ
  obtain ⟨u0, u1, u2, u3, u4, u5, u6, u7, u8, u9, u10, u11⟩ := ups12
  go_wp2_with fail
  refine (HE.out _ HR1.out.st).mono ?_; rintro e w5 ⟨rfl, hd5⟩
  have hr5 := HR1.out.call hd5
  have hS5 := hr5.st.ltS
  have hI6 : InQ T X w w.heap.size w5.heap.size ((((((((((((Ins.zero.up 0 1).up 1 8).up 2 s).up 3 o0).up 4 o1').up 5 o2').up 6 o3').up 7 o4).up 8 o5).up 9 o6').up 10 o7).up 11 o8) σ2 (m, 4, r) 247 (w5.alloc (.cells (insV ((((((((((((Ins.zero.up 0 1).up 1 8).up 2 s).up 3 o0).up 4 o1').up 5 o2').up 6 o3').up 7 o4).up 8 o5).up 9 o6').up 10 o7).up 11 o8)) T)) := hr5.own _
  have e9 := hI6.r.st.c9
  have e7 := hI6.r.st.c7
  have e4 := hI6.r.st.c4
  simp only at e7
  have hSW := hI6.r.st.ltS
  have HI6 : Hid _ := hI6
  clear hI6 hd5 hr5 c7 c4b c9b
  go_upto_region 11 with fail
  have hI6 := HI6.out
  clear HI6 e9 e4 e7 hSW new1 HE
  generalize (w5.alloc (.cells (insV ((((((((((((Ins.zero.up 0 1).up 1 8).up 2 s).up 3 o0).up 4 o1').up 5 o2').up 6 o3').up 7 o4).up 8 o5).up 9 o6').up 10 o7).up 11 o8)) T)) = W at hI6 ⊢
  generalize w5.heap.size = q at hI6 ⊢
  have e7 := hI6.r.st.c7
  simp only at e7
  have e9 := hI6.r.st.c9
  have a0 := (hI6).cell 0 (.int .i64 1) rfl
  have z0 := (hI6).fz 0
  have hJ0 := (hI6).set 0 (.int .i64 4) _ (insUp0 _ 4)
  have j7_0 := hJ0.r.st.c7
  simp only at j7_0
  have a1 := (hJ0).cell 1 (.int .i64 8) rfl
  have z1 := (hJ0).fz 1
  have hJ1 := (hJ0).set 1 (.int .i64 0) _ (insUp1 _ 0)
  have j7_1 := hJ1.r.st.c7
  simp only at j7_1
  have g8 := Hv.out.get hJ1.op
  have p8 := hJ1.r.put Hv.out
  have HI8 : Hid _ := hJ1
  clear hJ0 hJ1 hI6
  go_wp2
  exact bodyPost_ret (v := _) (res1 rfl _ _ w.heap.size _ rfl (HI8.out.r.got Hv.out _)) rfl ⟨rfl, HI8.out.r.fin _⟩
theorem last_247_5 (w : World) (X : Cx) (σ : Sg) (f : Int × Int × Int) (h : RSt X w σ f 247) (hf : σ.fl = none) (hm : (modrm X σ).1.2.1 = 5) :
    Calls Tryz.prog 30 #[.pointer (some ⟨X.S, 0, none⟩)] w fun e w' => e = .returned (.agg (insV { Ins.zero with op := 4, sub := 1, size := (szM 247 σ), a := (pE X (szM 247 σ) (modrm X σ).2).1 })) ∧ RDn X w (pE X (szM 247 σ) (modrm X σ).2).2 (modrm X σ).1 247 w' := by
  obtain ⟨T, nI, fsI, psI, hv, Hv, ⟨vl, vs, vb, va, vx⟩, v1, v2, v3, v4, v5, v6, p0, p1, p2, p3, p4, p5, p6, p7, sz, ne⟩ := vlP
  obtain ⟨U, mU, ho, Ho, ⟨ol, os, oa⟩, o1, o2, o3, o6, so⟩ := vlOP
  have hr := RsQ.no (RsQ.start (T := T) h) (Kp.alloc noB _ (.cells #[.int .i64 2, .int .i64 (-1), .int .i64 (-1), .int .i64 0, .int .i64 1, .int .i64 5, .int .i64 6, .int .i64 3, .int .i64 4] 3))
  have c4 := h.c4
  have d9 := h.c9
  have hS := h.ltS
  have Hsz : Hid (szM 247 σ = 1 ∨ szM 247 σ = 2 ∨ szM 247 σ = 4) := szM_or h.vv
  have cS := rsize_ok _ X σ f 247 hr.st (by decide)
  have cM := rmodrm_ok _ X σ f 247 hr.st hf
  have hfl := rmodrm_fl h hf
  obtain ⟨s, hs⟩ : ∃ s, s = (szM 247 σ) := ⟨_, rfl⟩
  rw [← hs] at cS Hsz ⊢
  generalize modrm X σ = Y at *
  obtain ⟨⟨m, k, r⟩, σ1⟩ := Y
  simp only at cM hfl hm ⊢
  subst hm
  have HE : Hid (∀ W, RSt X W σ1 (m, 5, r) 247 → _) := fun W hW => e_lit W X σ1 (m, 5, r) 247 hW hfl.1 hfl.2.1 s
  obtain ⟨⟨o0, o1', o2', o3', o4, o5, o6', o7, o8⟩, σ2, hY⟩ : ∃ o σ2, pE X s σ1 = (o, σ2) := ⟨_, _, rfl⟩
  rw [hY] at HE ⊢
  simp only at HE ⊢
  have HR : Hid _ := hr
  clear h hv ho hfl hr hf hs hY
  go_enter Tryz.func30, Tryz.ntmps30
  try simp only [vl, vs, va, vb, vx, ol, os, oa]
  clear vl vs va vb vx ol os oa
  go_wp2_with fail
  refine cS.mono ?_; rintro e wn ⟨rfl, rfl⟩
  go_wp2_with fail
  refine cM.mono ?_; rintro e w1 ⟨rfl, hd1⟩
  have hr1 := HR.out.call hd1
  have c7 := hr1.st.c7
  have c4b := hr1.st.c4
  have c9b := hr1.st.c9
  simp only at c7
  have hS1 := hr1.st.ltS
  have HR1 : Hid _ := hr1
  clear cS cM hd1 hr1 HR c4 d9 hS
  have new1 := Hv.out.newQ
  obtain ⟨u0, u1, u2, u3, u4, u5, u6, u7, u8, u9, u10, u11⟩ := ups12
  go_wp2_with fail
  refine (HE.out _ HR1.out.st).mono ?_; rintro e w5 ⟨rfl, hd5⟩
  have hr5 := HR1.out.call hd5
  have hS5 := hr5.st.ltS
  have hI6 : InQ T X w w.heap.size w5.heap.size ((((((((((((Ins.zero.up 0 1).up 1 8).up 2 s).up 3 o0).up 4 o1').up 5 o2').up 6 o3').up 7 o4).up 8 o5).up 9 o6').up 10 o7).up 11 o8) σ2 (m, 5, r) 247 (w5.alloc (.cells (insV ((((((((((((Ins.zero.up 0 1).up 1 8).up 2 s).up 3 o0).up 4 o1').up 5 o2').up 6 o3').up 7 o4).up 8 o5).up 9 o6').up 10 o7).up 11 o8)) T)) := hr5.own _
  have e9 := hI6.r.st.c9
  have e7 := hI6.r.st.c7
  have e4 := hI6.r.st.c4
  simp only at e7
  have hSW := hI6.r.st.ltS
  have HI6 : Hid _ := hI6
  clear hI6 hd5 hr5 c7 c4b c9b
  go_upto_region 11 with fail
  have hI6 := HI6.out
  clear HI6 e9 e4 e7 hSW new1 HE
  generalize (w5.alloc (.cells (insV ((((((((((((Ins.zero.up 0 1).up 1 8).up 2 s).up 3 o0).up 4 o1').up 5 o2').up 6 o3').up 7 o4).up 8 o5).up 9 o6').up 10 o7).up 11 o8)) T)) = W at hI6 ⊢
  generalize w5.heap.size = q at hI6 ⊢
  have e7 := hI6.r.st.c7
  simp only at e7
  have e9 := hI6.r.st.c9
  have a0 := (hI6).cell 0 (.int .i64 1) rfl
  have z0 := (hI6).fz 0
  have hJ0 := (hI6).set 0 (.int .i64 4) _ (insUp0 _ 4)
  have j7_0 := hJ0.r.st.c7
  simp only at j7_0
  have a1 := (hJ0).cell 1 (.int .i64 8) rfl
  have z1 := (hJ0).fz 1
  have hJ1 := (hJ0).set 1 (.int .i64 1) _ (insUp1 _ 1)
  have j7_1 := hJ1.r.st.c7
  simp only at j7_1
  have g8 := Hv.out.get hJ1.op
  have p8 := hJ1.r.put Hv.out
  have HI8 : Hid _ := hJ1
  clear hJ0 hJ1 hI6
  go_wp2
  exact bodyPost_ret (v := _) (res1 rfl _ _ w.heap.size _ rfl (HI8.out.r.got Hv.out _)) rfl ⟨rfl, HI8.out.r.fin _⟩
theorem last_247_6 (w : World) (X : Cx) (σ : Sg) (f : Int × Int × Int) (h : RSt X w σ f 247) (hf : σ.fl = none) (hm : (modrm X σ).1.2.1 = 6) :
    Calls Tryz.prog 30 #[.pointer (some ⟨X.S, 0, none⟩)] w fun e w' => e = .returned (.agg (insV { Ins.zero with op := 6, sub := 0, size := (szM 247 σ), a := (pE X (szM 247 σ) (modrm X σ).2).1 })) ∧ RDn X w (pE X (szM 247 σ) (modrm X σ).2).2 (modrm X σ).1 247 w' := by
  obtain ⟨T, nI, fsI, psI, hv, Hv, ⟨vl, vs, vb, va, vx⟩, v1, v2, v3, v4, v5, v6, p0, p1, p2, p3, p4, p5, p6, p7, sz, ne⟩ := vlP
  obtain ⟨U, mU, ho, Ho, ⟨ol, os, oa⟩, o1, o2, o3, o6, so⟩ := vlOP
  have hr := RsQ.no (RsQ.start (T := T) h) (Kp.alloc noB _ (.cells #[.int .i64 2, .int .i64 (-1), .int .i64 (-1), .int .i64 0, .int .i64 1, .int .i64 5, .int .i64 6, .int .i64 3, .int .i64 4] 3))
  have c4 := h.c4
  have d9 := h.c9
  have hS := h.ltS
  have Hsz : Hid (szM 247 σ = 1 ∨ szM 247 σ = 2 ∨ szM 247 σ = 4) := szM_or h.vv
  have cS := rsize_ok _ X σ f 247 hr.st (by decide)
  have cM := rmodrm_ok _ X σ f 247 hr.st hf
  have hfl := rmodrm_fl h hf
  obtain ⟨s, hs⟩ : ∃ s, s = (szM 247 σ) := ⟨_, rfl⟩
  rw [← hs] at cS Hsz ⊢
  generalize modrm X σ = Y at *
  obtain ⟨⟨m, k, r⟩, σ1⟩ := Y
  simp only at cM hfl hm ⊢
  subst hm
  have HE : Hid (∀ W, RSt X W σ1 (m, 6, r) 247 → _) := fun W hW => e_lit W X σ1 (m, 6, r) 247 hW hfl.1 hfl.2.1 s
  obtain ⟨⟨o0, o1', o2', o3', o4, o5, o6', o7, o8⟩, σ2, hY⟩ : ∃ o σ2, pE X s σ1 = (o, σ2) := ⟨_, _, rfl⟩
  rw [hY] at HE ⊢
  simp only at HE ⊢
  have HR : Hid _ := hr
  clear h hv ho hfl hr hf hs hY
  go_enter Tryz.func30, Tryz.ntmps30
  try simp only [vl, vs, va, vb, vx, ol, os, oa]
  clear vl vs va vb vx ol os oa
  go_wp2_with fail
  refine cS.mono ?_; rintro e wn ⟨rfl, rfl⟩
  go_wp2_with fail
  refine cM.mono ?_; rintro e w1 ⟨rfl, hd1⟩
  have hr1 := HR.out.call hd1
  have c7 := hr1.st.c7
  have c4b := hr1.st.c4
  have c9b := hr1.st.c9
  simp only at c7
  have hS1 := hr1.st.ltS
  have HR1 : Hid _ := hr1
  clear cS cM hd1 hr1 HR c4 d9 hS
  have new1 := Hv.out.newQ
  obtain ⟨u0, u1, u2, u3, u4, u5, u6, u7, u8, u9, u10, u11⟩ := ups12
  go_wp2_with fail
  refine (HE.out _ HR1.out.st).mono ?_; rintro e w5 ⟨rfl, hd5⟩
  have hr5 := HR1.out.call hd5
  have hS5 := hr5.st.ltS
  have hI6 : InQ T X w w.heap.size w5.heap.size ((((((((((((Ins.zero.up 0 1).up 1 8).up 2 s).up 3 o0).up 4 o1').up 5 o2').up 6 o3').up 7 o4).up 8 o5).up 9 o6').up 10 o7).up 11 o8) σ2 (m, 6, r) 247 (w5.alloc (.cells (insV ((((((((((((Ins.zero.up 0 1).up 1 8).up 2 s).up 3 o0).up 4 o1').up 5 o2').up 6 o3').up 7 o4).up 8 o5).up 9 o6').up 10 o7).up 11 o8)) T)) := hr5.own _
  have e9 := hI6.r.st.c9
  have e7 := hI6.r.st.c7
  have e4 := hI6.r.st.c4
  simp only at e7
  have hSW := hI6.r.st.ltS
  have HI6 : Hid _ := hI6
  clear hI6 hd5 hr5 c7 c4b c9b
  go_upto_region 11 with fail
  have hI6 := HI6.out
  clear HI6 e9 e4 e7 hSW new1 HE
  generalize (w5.alloc (.cells (insV ((((((((((((Ins.zero.up 0 1).up 1 8).up 2 s).up 3 o0).up 4 o1').up 5 o2').up 6 o3').up 7 o4).up 8 o5).up 9 o6').up 10 o7).up 11 o8)) T)) = W at hI6 ⊢
  generalize w5.heap.size = q at hI6 ⊢
  have e7 := hI6.r.st.c7
  simp only at e7
  have e9 := hI6.r.st.c9
  have a0 := (hI6).cell 0 (.int .i64 1) rfl
  have z0 := (hI6).fz 0
  have hJ0 := (hI6).set 0 (.int .i64 6) _ (insUp0 _ 6)
  have j7_0 := hJ0.r.st.c7
  simp only at j7_0
  have a1 := (hJ0).cell 1 (.int .i64 8) rfl
  have z1 := (hJ0).fz 1
  have hJ1 := (hJ0).set 1 (.int .i64 0) _ (insUp1 _ 0)
  have j7_1 := hJ1.r.st.c7
  simp only at j7_1
  have g8 := Hv.out.get hJ1.op
  have p8 := hJ1.r.put Hv.out
  have HI8 : Hid _ := hJ1
  clear hJ0 hJ1 hI6
  go_wp2
  exact bodyPost_ret (v := _) (res1 rfl _ _ w.heap.size _ rfl (HI8.out.r.got Hv.out _)) rfl ⟨rfl, HI8.out.r.fin _⟩
theorem last_247_7 (w : World) (X : Cx) (σ : Sg) (f : Int × Int × Int) (h : RSt X w σ f 247) (hf : σ.fl = none) (hm : (modrm X σ).1.2.1 = 7) :
    Calls Tryz.prog 30 #[.pointer (some ⟨X.S, 0, none⟩)] w fun e w' => e = .returned (.agg (insV { Ins.zero with op := 6, sub := 1, size := (szM 247 σ), a := (pE X (szM 247 σ) (modrm X σ).2).1 })) ∧ RDn X w (pE X (szM 247 σ) (modrm X σ).2).2 (modrm X σ).1 247 w' := by
  obtain ⟨T, nI, fsI, psI, hv, Hv, ⟨vl, vs, vb, va, vx⟩, v1, v2, v3, v4, v5, v6, p0, p1, p2, p3, p4, p5, p6, p7, sz, ne⟩ := vlP
  obtain ⟨U, mU, ho, Ho, ⟨ol, os, oa⟩, o1, o2, o3, o6, so⟩ := vlOP
  have hr := RsQ.no (RsQ.start (T := T) h) (Kp.alloc noB _ (.cells #[.int .i64 2, .int .i64 (-1), .int .i64 (-1), .int .i64 0, .int .i64 1, .int .i64 5, .int .i64 6, .int .i64 3, .int .i64 4] 3))
  have c4 := h.c4
  have d9 := h.c9
  have hS := h.ltS
  have Hsz : Hid (szM 247 σ = 1 ∨ szM 247 σ = 2 ∨ szM 247 σ = 4) := szM_or h.vv
  have cS := rsize_ok _ X σ f 247 hr.st (by decide)
  have cM := rmodrm_ok _ X σ f 247 hr.st hf
  have hfl := rmodrm_fl h hf
  obtain ⟨s, hs⟩ : ∃ s, s = (szM 247 σ) := ⟨_, rfl⟩
  rw [← hs] at cS Hsz ⊢
  generalize modrm X σ = Y at *
  obtain ⟨⟨m, k, r⟩, σ1⟩ := Y
  simp only at cM hfl hm ⊢
  subst hm
  have HE : Hid (∀ W, RSt X W σ1 (m, 7, r) 247 → _) := fun W hW => e_lit W X σ1 (m, 7, r) 247 hW hfl.1 hfl.2.1 s
  obtain ⟨⟨o0, o1', o2', o3', o4, o5, o6', o7, o8⟩, σ2, hY⟩ : ∃ o σ2, pE X s σ1 = (o, σ2) := ⟨_, _, rfl⟩
  rw [hY] at HE ⊢
  simp only at HE ⊢
  have HR : Hid _ := hr
  clear h hv ho hfl hr hf hs hY
  go_enter Tryz.func30, Tryz.ntmps30
  try simp only [vl, vs, va, vb, vx, ol, os, oa]
  clear vl vs va vb vx ol os oa
  go_wp2_with fail
  refine cS.mono ?_; rintro e wn ⟨rfl, rfl⟩
  go_wp2_with fail
  refine cM.mono ?_; rintro e w1 ⟨rfl, hd1⟩
  have hr1 := HR.out.call hd1
  have c7 := hr1.st.c7
  have c4b := hr1.st.c4
  have c9b := hr1.st.c9
  simp only at c7
  have hS1 := hr1.st.ltS
  have HR1 : Hid _ := hr1
  clear cS cM hd1 hr1 HR c4 d9 hS
  have new1 := Hv.out.newQ
  obtain ⟨u0, u1, u2, u3, u4, u5, u6, u7, u8, u9, u10, u11⟩ := ups12
  go_wp2_with fail
  refine (HE.out _ HR1.out.st).mono ?_; rintro e w5 ⟨rfl, hd5⟩
  have hr5 := HR1.out.call hd5
  have hS5 := hr5.st.ltS
  have hI6 : InQ T X w w.heap.size w5.heap.size ((((((((((((Ins.zero.up 0 1).up 1 8).up 2 s).up 3 o0).up 4 o1').up 5 o2').up 6 o3').up 7 o4).up 8 o5).up 9 o6').up 10 o7).up 11 o8) σ2 (m, 7, r) 247 (w5.alloc (.cells (insV ((((((((((((Ins.zero.up 0 1).up 1 8).up 2 s).up 3 o0).up 4 o1').up 5 o2').up 6 o3').up 7 o4).up 8 o5).up 9 o6').up 10 o7).up 11 o8)) T)) := hr5.own _
  have e9 := hI6.r.st.c9
  have e7 := hI6.r.st.c7
  have e4 := hI6.r.st.c4
  simp only at e7
  have hSW := hI6.r.st.ltS
  have HI6 : Hid _ := hI6
  clear hI6 hd5 hr5 c7 c4b c9b
  go_upto_region 11 with fail
  have hI6 := HI6.out
  clear HI6 e9 e4 e7 hSW new1 HE
  generalize (w5.alloc (.cells (insV ((((((((((((Ins.zero.up 0 1).up 1 8).up 2 s).up 3 o0).up 4 o1').up 5 o2').up 6 o3').up 7 o4).up 8 o5).up 9 o6').up 10 o7).up 11 o8)) T)) = W at hI6 ⊢
  generalize w5.heap.size = q at hI6 ⊢
  have e7 := hI6.r.st.c7
  simp only at e7
  have e9 := hI6.r.st.c9
  have a0 := (hI6).cell 0 (.int .i64 1) rfl
  have z0 := (hI6).fz 0
  have hJ0 := (hI6).set 0 (.int .i64 6) _ (insUp0 _ 6)
  have j7_0 := hJ0.r.st.c7
  simp only at j7_0
  have a1 := (hJ0).cell 1 (.int .i64 8) rfl
  have z1 := (hJ0).fz 1
  have hJ1 := (hJ0).set 1 (.int .i64 1) _ (insUp1 _ 1)
  have j7_1 := hJ1.r.st.c7
  simp only at j7_1
  have g8 := Hv.out.get hJ1.op
  have p8 := hJ1.r.put Hv.out
  have HI8 : Hid _ := hJ1
  clear hJ0 hJ1 hI6
  go_wp2
  exact bodyPost_ret (v := _) (res1 rfl _ _ w.heap.size _ rfl (HI8.out.r.got Hv.out _)) rfl ⟨rfl, HI8.out.r.fin _⟩
end Go.Proofs.YtbfccfhjgopnbaaGreat
