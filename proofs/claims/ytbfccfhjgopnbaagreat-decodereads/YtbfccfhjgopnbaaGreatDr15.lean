/- The document's reader, and the code's (RfGroup, RfMovs). -/
import Derived.Test.YtbfccfhjgopnbaaGreatDr26
set_option linter.unusedSimpArgs false
namespace Go.Proofs.YtbfccfhjgopnbaaGreat
open Go.ChangeShapes Go.WideShapes Go.ChangeAt Go.RowKit
set_option linter.unusedVariables false
set_option linter.unusedSimpArgs false
set_option maxHeartbeats 4000000
set_option maxRecDepth 20000
theorem group_128 (w : World) (X : Cx) (σ : Sg) (f : Int × Int × Int) (h : RSt X w σ f 128) (hf : σ.fl = none) :
    Calls Tryz.prog 25 #[.pointer (some ⟨X.S, 0, none⟩)] w fun e w' => e = .returned (.agg (insV { Ins.zero with op := 1, sub := (modrm X σ).1.2.1, size := (szM 128 σ), a := (pE X (szM 128 σ) (modrm X σ).2).1, b := numO (bytesM X (szM 128 σ) (pE X (szM 128 σ) (modrm X σ).2).2).1 })) ∧ RDn X w (bytesM X (szM 128 σ) (pE X (szM 128 σ) (modrm X σ).2).2).2 (modrm X σ).1 128 w' := by
  obtain ⟨T, nI, fsI, psI, hv, Hv, ⟨vl, vs, vb, va, vx⟩, v1, v2, v3, v4, v5, v6, p0, p1, p2, p3, p4, p5, p6, p7, sz, ne⟩ := vlP
  obtain ⟨U, mU, ho, Ho, ⟨ol, os, oa⟩, o1, o2, o3, o6, so⟩ := vlOP
  have hr := RsQ.start (T := T) h
  have c4 := h.c4
  have d9 := h.c9
  have hS := h.ltS
  have Hsz : Hid (szM 128 σ = 1 ∨ szM 128 σ = 2 ∨ szM 128 σ = 4) := szM_or h.vv
  have cS := rsize_ok _ X σ f 128 hr.st (by decide)
  have cM := rmodrm_ok _ X σ f 128 hr.st hf
  have hfl := rmodrm_fl h hf
  obtain ⟨s, hs⟩ : ∃ s, s = (szM 128 σ) := ⟨_, rfl⟩
  rw [← hs] at cS Hsz ⊢
  generalize modrm X σ = Y at *
  obtain ⟨⟨m, k, r⟩, σ1⟩ := Y
  simp only at cM hfl ⊢
  have HE : Hid (∀ W, RSt X W σ1 (m, k, r) 128 → _) := fun W hW => e_lit W X σ1 (m, k, r) 128 hW hfl.1 hfl.2.1 s
  obtain ⟨⟨o0, o1', o2', o3', o4, o5, o6', o7, o8⟩, σ2, hY⟩ : ∃ o σ2, pE X s σ1 = (o, σ2) := ⟨_, _, rfl⟩
  rw [hY] at HE ⊢
  simp only at HE ⊢
  obtain ⟨d, σ3, hB⟩ : ∃ d σ3, bytesM X s σ2 = (d, σ3) := ⟨_, _, rfl⟩
  rw [hB]
  simp only
  have HB : Hid _ := hB
  clear hB
  obtain ⟨nO, hn⟩ : ∃ nO, numO d = nO := ⟨_, rfl⟩
  rw [hn]
  have HN : Hid _ := hn
  clear hn
  have HR : Hid _ := hr
  clear h hv ho hfl hr hf hs hY
  go_enter Tryz.func25, Tryz.ntmps25
  try simp only [vl, vs, va, vb, vx, ol, os, oa]
  clear vl vs va vb vx ol os oa
  go_wp2_with fail
  refine cS.mono ?_; rintro e wn ⟨rfl, rfl⟩
  go_wp2_with fail
  refine cM.mono ?_; rintro e w1 ⟨rfl, hd1⟩
  have hr1 := HR.out.call hd1
  have c7 := hr1.st.c7
  simp only at c7
  have hS1 := hr1.st.ltS
  have HR1 : Hid _ := hr1
  clear cS cM hd1 hr1 HR c4 d9 hS
  have hIA : InQ T X w w.heap.size w1.heap.size Ins.zero σ1 (m, k, r) 128 (w1.drew.alloc (.cells (insV Ins.zero) T)) := HR1.out.drew.own Ins.zero
  have HIA : Hid _ := hIA
  have HD : Hid (RSt X w1.drew σ1 (m, k, r) 128) := HR1.out.drew.st
  have HS0 : Hid (w1.drew.cell? ⟨X.S, 7, none⟩ = some (.int .i64 k)) := c7
  have new1 := Hv.out.newQ
  obtain ⟨u0, u1, u2, u3, u4, u5, u6, u7, u8, u9, u10, u11⟩ := ups12
  clear hIA
  go_wp2
  go_region_held3 (fun W => W.cell? ⟨X.S, 7, none⟩ = some (.int .i64 k))
    (first | exact HS0.out | assumption | (simp [go_sem, *]; done))
    (first | (go_at_call 206; refine (HE.out _ (by first | exact HD.out | exact HIA.out.r.st)).mono ?_; rintro e w5 ⟨rfl, hd5⟩; have c7n := hd5.1.c7; simp only at c7n; have hS5 := hd5.1.ltS; first | (have hI5 := InQ.call HIA.out hd5; have pt5 := hI5.put Hv.out; have c7r : ∀ y, (w5.setRow w1.heap.size (insV y)).cell? ⟨X.S, 7, none⟩ = some (.int .i64 k) := fun y => (hI5.row y).r.st.c7) | (have hr5 := RsQ.call HR1.out.drew hd5)))
  all_goals
    first
    | (have hI6 : InQ T X w w.heap.size w1.heap.size ((((((((((((Ins.zero.up 0 1).up 1 k).up 2 s).up 3 o0).up 4 o1').up 5 o2').up 6 o3').up 7 o4).up 8 o5).up 9 o6').up 10 o7).up 11 o8) σ2 (m, k, r) 128 (w5.setRow w1.heap.size (insV ((((((((((((Ins.zero.up 0 1).up 1 k).up 2 s).up 3 o0).up 4 o1').up 5 o2').up 6 o3').up 7 o4).up 8 o5).up 9 o6').up 10 o7).up 11 o8))) := hI5.row _
       generalize (w5.setRow w1.heap.size (insV ((((((((((((Ins.zero.up 0 1).up 1 k).up 2 s).up 3 o0).up 4 o1').up 5 o2').up 6 o3').up 7 o4).up 8 o5).up 9 o6').up 10 o7).up 11 o8))) = W at hI6 ⊢
       generalize w1.heap.size = q at hI6 ⊢)
    | (have hI6 : InQ T X w w.heap.size w5.heap.size ((((((((((((Ins.zero.up 0 1).up 1 k).up 2 s).up 3 o0).up 4 o1').up 5 o2').up 6 o3').up 7 o4).up 8 o5).up 9 o6').up 10 o7).up 11 o8) σ2 (m, k, r) 128 (w5.alloc (.cells (insV ((((((((((((Ins.zero.up 0 1).up 1 k).up 2 s).up 3 o0).up 4 o1').up 5 o2').up 6 o3').up 7 o4).up 8 o5).up 9 o6').up 10 o7).up 11 o8)) T)) := hr5.own _
       generalize (w5.alloc (.cells (insV ((((((((((((Ins.zero.up 0 1).up 1 k).up 2 s).up 3 o0).up 4 o1').up 5 o2').up 6 o3').up 7 o4).up 8 o5).up 9 o6').up 10 o7).up 11 o8)) T)) = W at hI6 ⊢
       generalize w5.heap.size = q at hI6 ⊢)
    have e9 := hI6.r.st.c9
    have e4 := hI6.r.st.c4
    have hSW := hI6.r.st.ltS
    have HI6 : Hid _ := hI6
    clear hI6
    go_wp2_with fail
    have cB := num_okR W X σ2 (m, k, r) 128 HI6.out.r.st s (Hsz.out)
    rw [HB.out] at cB
    refine cB.mono ?_; rintro e w6 ⟨rfl, hd6⟩
    have hI6b := HI6.out.call hd6
    have HI6b : Hid _ := hI6b
    have e4b := hI6b.r.st.c4
    have e9b := hI6b.r.st.c9
    clear hI6b cB hd6
    go_wp2_with fail
    have cN := rImm_ok w6 d
    rw [HN.out] at cN
    refine cN.mono ?_; rintro e w7 ⟨rfl, k7⟩
    have hI7 := HI6b.out.no k7
    clear cN k7 HI6b e4b e9b
    have t7 := hI7.putB nO
    have hI8 := hI7.row { ((((((((((((Ins.zero.up 0 1).up 1 k).up 2 s).up 3 o0).up 4 o1').up 5 o2').up 6 o3').up 7 o4).up 8 o5).up 9 o6').up 10 o7).up 11 o8) with b := nO }
    have g8 := Hv.out.get hI8.op
    have p8 := hI8.r.put Hv.out
    have HI8 : Hid _ := hI8
    clear hI8 hI7 HI6 e9 e4
    go_wp2
    exact bodyPost_ret (v := _) (res1 rfl _ _ w.heap.size _ rfl (HI8.out.r.got Hv.out _)) rfl ⟨rfl, HI8.out.r.fin _⟩
theorem group_129 (w : World) (X : Cx) (σ : Sg) (f : Int × Int × Int) (h : RSt X w σ f 129) (hf : σ.fl = none) :
    Calls Tryz.prog 25 #[.pointer (some ⟨X.S, 0, none⟩)] w fun e w' => e = .returned (.agg (insV { Ins.zero with op := 1, sub := (modrm X σ).1.2.1, size := (szM 129 σ), a := (pE X (szM 129 σ) (modrm X σ).2).1, b := numO (bytesM X (szM 129 σ) (pE X (szM 129 σ) (modrm X σ).2).2).1 })) ∧ RDn X w (bytesM X (szM 129 σ) (pE X (szM 129 σ) (modrm X σ).2).2).2 (modrm X σ).1 129 w' := by
  obtain ⟨T, nI, fsI, psI, hv, Hv, ⟨vl, vs, vb, va, vx⟩, v1, v2, v3, v4, v5, v6, p0, p1, p2, p3, p4, p5, p6, p7, sz, ne⟩ := vlP
  obtain ⟨U, mU, ho, Ho, ⟨ol, os, oa⟩, o1, o2, o3, o6, so⟩ := vlOP
  have hr := RsQ.start (T := T) h
  have c4 := h.c4
  have d9 := h.c9
  have hS := h.ltS
  have Hsz : Hid (szM 129 σ = 1 ∨ szM 129 σ = 2 ∨ szM 129 σ = 4) := szM_or h.vv
  have cS := rsize_ok _ X σ f 129 hr.st (by decide)
  have cM := rmodrm_ok _ X σ f 129 hr.st hf
  have hfl := rmodrm_fl h hf
  obtain ⟨s, hs⟩ : ∃ s, s = (szM 129 σ) := ⟨_, rfl⟩
  rw [← hs] at cS Hsz ⊢
  generalize modrm X σ = Y at *
  obtain ⟨⟨m, k, r⟩, σ1⟩ := Y
  simp only at cM hfl ⊢
  have HE : Hid (∀ W, RSt X W σ1 (m, k, r) 129 → _) := fun W hW => e_lit W X σ1 (m, k, r) 129 hW hfl.1 hfl.2.1 s
  obtain ⟨⟨o0, o1', o2', o3', o4, o5, o6', o7, o8⟩, σ2, hY⟩ : ∃ o σ2, pE X s σ1 = (o, σ2) := ⟨_, _, rfl⟩
  rw [hY] at HE ⊢
  simp only at HE ⊢
  obtain ⟨d, σ3, hB⟩ : ∃ d σ3, bytesM X s σ2 = (d, σ3) := ⟨_, _, rfl⟩
  rw [hB]
  simp only
  have HB : Hid _ := hB
  clear hB
  obtain ⟨nO, hn⟩ : ∃ nO, numO d = nO := ⟨_, rfl⟩
  rw [hn]
  have HN : Hid _ := hn
  clear hn
  have HR : Hid _ := hr
  clear h hv ho hfl hr hf hs hY
  go_enter Tryz.func25, Tryz.ntmps25
  try simp only [vl, vs, va, vb, vx, ol, os, oa]
  clear vl vs va vb vx ol os oa
  go_wp2_with fail
  refine cS.mono ?_; rintro e wn ⟨rfl, rfl⟩
  go_wp2_with fail
  refine cM.mono ?_; rintro e w1 ⟨rfl, hd1⟩
  have hr1 := HR.out.call hd1
  have c7 := hr1.st.c7
  simp only at c7
  have hS1 := hr1.st.ltS
  have HR1 : Hid _ := hr1
  clear cS cM hd1 hr1 HR c4 d9 hS
  have hIA : InQ T X w w.heap.size w1.heap.size Ins.zero σ1 (m, k, r) 129 (w1.drew.alloc (.cells (insV Ins.zero) T)) := HR1.out.drew.own Ins.zero
  have HIA : Hid _ := hIA
  have HD : Hid (RSt X w1.drew σ1 (m, k, r) 129) := HR1.out.drew.st
  have HS0 : Hid (w1.drew.cell? ⟨X.S, 7, none⟩ = some (.int .i64 k)) := c7
  have new1 := Hv.out.newQ
  obtain ⟨u0, u1, u2, u3, u4, u5, u6, u7, u8, u9, u10, u11⟩ := ups12
  clear hIA
  go_wp2
  go_region_held3 (fun W => W.cell? ⟨X.S, 7, none⟩ = some (.int .i64 k))
    (first | exact HS0.out | assumption | (simp [go_sem, *]; done))
    (first | (go_at_call 206; refine (HE.out _ (by first | exact HD.out | exact HIA.out.r.st)).mono ?_; rintro e w5 ⟨rfl, hd5⟩; have c7n := hd5.1.c7; simp only at c7n; have hS5 := hd5.1.ltS; first | (have hI5 := InQ.call HIA.out hd5; have pt5 := hI5.put Hv.out; have c7r : ∀ y, (w5.setRow w1.heap.size (insV y)).cell? ⟨X.S, 7, none⟩ = some (.int .i64 k) := fun y => (hI5.row y).r.st.c7) | (have hr5 := RsQ.call HR1.out.drew hd5)))
  all_goals
    first
    | (have hI6 : InQ T X w w.heap.size w1.heap.size ((((((((((((Ins.zero.up 0 1).up 1 k).up 2 s).up 3 o0).up 4 o1').up 5 o2').up 6 o3').up 7 o4).up 8 o5).up 9 o6').up 10 o7).up 11 o8) σ2 (m, k, r) 129 (w5.setRow w1.heap.size (insV ((((((((((((Ins.zero.up 0 1).up 1 k).up 2 s).up 3 o0).up 4 o1').up 5 o2').up 6 o3').up 7 o4).up 8 o5).up 9 o6').up 10 o7).up 11 o8))) := hI5.row _
       generalize (w5.setRow w1.heap.size (insV ((((((((((((Ins.zero.up 0 1).up 1 k).up 2 s).up 3 o0).up 4 o1').up 5 o2').up 6 o3').up 7 o4).up 8 o5).up 9 o6').up 10 o7).up 11 o8))) = W at hI6 ⊢
       generalize w1.heap.size = q at hI6 ⊢)
    | (have hI6 : InQ T X w w.heap.size w5.heap.size ((((((((((((Ins.zero.up 0 1).up 1 k).up 2 s).up 3 o0).up 4 o1').up 5 o2').up 6 o3').up 7 o4).up 8 o5).up 9 o6').up 10 o7).up 11 o8) σ2 (m, k, r) 129 (w5.alloc (.cells (insV ((((((((((((Ins.zero.up 0 1).up 1 k).up 2 s).up 3 o0).up 4 o1').up 5 o2').up 6 o3').up 7 o4).up 8 o5).up 9 o6').up 10 o7).up 11 o8)) T)) := hr5.own _
       generalize (w5.alloc (.cells (insV ((((((((((((Ins.zero.up 0 1).up 1 k).up 2 s).up 3 o0).up 4 o1').up 5 o2').up 6 o3').up 7 o4).up 8 o5).up 9 o6').up 10 o7).up 11 o8)) T)) = W at hI6 ⊢
       generalize w5.heap.size = q at hI6 ⊢)
    have e9 := hI6.r.st.c9
    have e4 := hI6.r.st.c4
    have hSW := hI6.r.st.ltS
    have HI6 : Hid _ := hI6
    clear hI6
    go_wp2_with fail
    have cB := num_okR W X σ2 (m, k, r) 129 HI6.out.r.st s (Hsz.out)
    rw [HB.out] at cB
    refine cB.mono ?_; rintro e w6 ⟨rfl, hd6⟩
    have hI6b := HI6.out.call hd6
    have HI6b : Hid _ := hI6b
    have e4b := hI6b.r.st.c4
    have e9b := hI6b.r.st.c9
    clear hI6b cB hd6
    go_wp2_with fail
    have cN := rImm_ok w6 d
    rw [HN.out] at cN
    refine cN.mono ?_; rintro e w7 ⟨rfl, k7⟩
    have hI7 := HI6b.out.no k7
    clear cN k7 HI6b e4b e9b
    have t7 := hI7.putB nO
    have hI8 := hI7.row { ((((((((((((Ins.zero.up 0 1).up 1 k).up 2 s).up 3 o0).up 4 o1').up 5 o2').up 6 o3').up 7 o4).up 8 o5).up 9 o6').up 10 o7).up 11 o8) with b := nO }
    have g8 := Hv.out.get hI8.op
    have p8 := hI8.r.put Hv.out
    have HI8 : Hid _ := hI8
    clear hI8 hI7 HI6 e9 e4
    go_wp2
    exact bodyPost_ret (v := _) (res1 rfl _ _ w.heap.size _ rfl (HI8.out.r.got Hv.out _)) rfl ⟨rfl, HI8.out.r.fin _⟩
theorem group_131 (w : World) (X : Cx) (σ : Sg) (f : Int × Int × Int) (h : RSt X w σ f 131) (hf : σ.fl = none) :
    Calls Tryz.prog 25 #[.pointer (some ⟨X.S, 0, none⟩)] w fun e w' => e = .returned (.agg (insV { Ins.zero with op := 1, sub := (modrm X σ).1.2.1, size := (szM 131 σ), a := (pE X (szM 131 σ) (modrm X σ).2).1, b := numO (cutM (bytesM X 1 (pE X (szM 131 σ) (modrm X σ).2).2).2.v (sgnM 1 (bytesM X 1 (pE X (szM 131 σ) (modrm X σ).2).2).1)) })) ∧ RDn X w (bytesM X 1 (pE X (szM 131 σ) (modrm X σ).2).2).2 (modrm X σ).1 131 w' := by
  obtain ⟨T, nI, fsI, psI, hv, Hv, ⟨vl, vs, vb, va, vx⟩, v1, v2, v3, v4, v5, v6, p0, p1, p2, p3, p4, p5, p6, p7, sz, ne⟩ := vlP
  obtain ⟨U, mU, ho, Ho, ⟨ol, os, oa⟩, o1, o2, o3, o6, so⟩ := vlOP
  have hr := RsQ.start (T := T) h
  have c4 := h.c4
  have d9 := h.c9
  have hS := h.ltS
  have Hsz : Hid (szM 131 σ = 1 ∨ szM 131 σ = 2 ∨ szM 131 σ = 4) := szM_or h.vv
  have cS := rsize_ok _ X σ f 131 hr.st (by decide)
  have cM := rmodrm_ok _ X σ f 131 hr.st hf
  have hfl := rmodrm_fl h hf
  obtain ⟨s, hs⟩ : ∃ s, s = (szM 131 σ) := ⟨_, rfl⟩
  rw [← hs] at cS Hsz ⊢
  generalize modrm X σ = Y at *
  obtain ⟨⟨m, k, r⟩, σ1⟩ := Y
  simp only at cM hfl ⊢
  have HE : Hid (∀ W, RSt X W σ1 (m, k, r) 131 → _) := fun W hW => e_lit W X σ1 (m, k, r) 131 hW hfl.1 hfl.2.1 s
  obtain ⟨⟨o0, o1', o2', o3', o4, o5, o6', o7, o8⟩, σ2, hY⟩ : ∃ o σ2, pE X s σ1 = (o, σ2) := ⟨_, _, rfl⟩
  rw [hY] at HE ⊢
  simp only at HE ⊢
  obtain ⟨d, σ3, hB⟩ : ∃ d σ3, bytesM X 1 σ2 = (d, σ3) := ⟨_, _, rfl⟩
  rw [hB]
  simp only
  have HB : Hid _ := hB
  clear hB
  obtain ⟨nO, hn⟩ : ∃ nO, numO (cutM σ3.v (sgnM 1 d)) = nO := ⟨_, rfl⟩
  rw [hn]
  have HN : Hid _ := hn
  clear hn
  have HR : Hid _ := hr
  clear h hv ho hfl hr hf hs hY
  go_enter Tryz.func25, Tryz.ntmps25
  try simp only [vl, vs, va, vb, vx, ol, os, oa]
  clear vl vs va vb vx ol os oa
  go_wp2_with fail
  refine cS.mono ?_; rintro e wn ⟨rfl, rfl⟩
  go_wp2_with fail
  refine cM.mono ?_; rintro e w1 ⟨rfl, hd1⟩
  have hr1 := HR.out.call hd1
  have c7 := hr1.st.c7
  simp only at c7
  have hS1 := hr1.st.ltS
  have HR1 : Hid _ := hr1
  clear cS cM hd1 hr1 HR c4 d9 hS
  have hIA : InQ T X w w.heap.size w1.heap.size Ins.zero σ1 (m, k, r) 131 (w1.drew.alloc (.cells (insV Ins.zero) T)) := HR1.out.drew.own Ins.zero
  have HIA : Hid _ := hIA
  have HD : Hid (RSt X w1.drew σ1 (m, k, r) 131) := HR1.out.drew.st
  have HS0 : Hid (w1.drew.cell? ⟨X.S, 7, none⟩ = some (.int .i64 k)) := c7
  have new1 := Hv.out.newQ
  obtain ⟨u0, u1, u2, u3, u4, u5, u6, u7, u8, u9, u10, u11⟩ := ups12
  clear hIA
  go_wp2
  go_region_held3 (fun W => W.cell? ⟨X.S, 7, none⟩ = some (.int .i64 k))
    (first | exact HS0.out | assumption | (simp [go_sem, *]; done))
    (first | (go_at_call 206; refine (HE.out _ (by first | exact HD.out | exact HIA.out.r.st)).mono ?_; rintro e w5 ⟨rfl, hd5⟩; have c7n := hd5.1.c7; simp only at c7n; have hS5 := hd5.1.ltS; first | (have hI5 := InQ.call HIA.out hd5; have pt5 := hI5.put Hv.out; have c7r : ∀ y, (w5.setRow w1.heap.size (insV y)).cell? ⟨X.S, 7, none⟩ = some (.int .i64 k) := fun y => (hI5.row y).r.st.c7) | (have hr5 := RsQ.call HR1.out.drew hd5)))
  all_goals
    first
    | (have hI6 : InQ T X w w.heap.size w1.heap.size ((((((((((((Ins.zero.up 0 1).up 1 k).up 2 s).up 3 o0).up 4 o1').up 5 o2').up 6 o3').up 7 o4).up 8 o5).up 9 o6').up 10 o7).up 11 o8) σ2 (m, k, r) 131 (w5.setRow w1.heap.size (insV ((((((((((((Ins.zero.up 0 1).up 1 k).up 2 s).up 3 o0).up 4 o1').up 5 o2').up 6 o3').up 7 o4).up 8 o5).up 9 o6').up 10 o7).up 11 o8))) := hI5.row _
       generalize (w5.setRow w1.heap.size (insV ((((((((((((Ins.zero.up 0 1).up 1 k).up 2 s).up 3 o0).up 4 o1').up 5 o2').up 6 o3').up 7 o4).up 8 o5).up 9 o6').up 10 o7).up 11 o8))) = W at hI6 ⊢
       generalize w1.heap.size = q at hI6 ⊢)
    | (have hI6 : InQ T X w w.heap.size w5.heap.size ((((((((((((Ins.zero.up 0 1).up 1 k).up 2 s).up 3 o0).up 4 o1').up 5 o2').up 6 o3').up 7 o4).up 8 o5).up 9 o6').up 10 o7).up 11 o8) σ2 (m, k, r) 131 (w5.alloc (.cells (insV ((((((((((((Ins.zero.up 0 1).up 1 k).up 2 s).up 3 o0).up 4 o1').up 5 o2').up 6 o3').up 7 o4).up 8 o5).up 9 o6').up 10 o7).up 11 o8)) T)) := hr5.own _
       generalize (w5.alloc (.cells (insV ((((((((((((Ins.zero.up 0 1).up 1 k).up 2 s).up 3 o0).up 4 o1').up 5 o2').up 6 o3').up 7 o4).up 8 o5).up 9 o6').up 10 o7).up 11 o8)) T)) = W at hI6 ⊢
       generalize w5.heap.size = q at hI6 ⊢)
    have e9 := hI6.r.st.c9
    have e4 := hI6.r.st.c4
    have hSW := hI6.r.st.ltS
    have HI6 : Hid _ := hI6
    clear hI6
    go_wp2_with fail
    have cB := signed_okR W X σ2 (m, k, r) 131 HI6.out.r.st 1 (by decide)
    rw [HB.out] at cB
    simp only at cB
    refine cB.mono ?_; rintro e w6 ⟨rfl, hd6⟩
    have hI6b := HI6.out.call hd6
    have HI6b : Hid _ := hI6b
    have e4b := hI6b.r.st.c4
    have e9b := hI6b.r.st.c9
    have hSb := hI6b.r.st.ltS
    clear hI6b cB hd6
    go_wp2_with fail
    have hsg := sgn_bd HI6.out.r.st
    rw [HB.out] at hsg
    have cC := rcut_ok w6 X σ3 (m, k, r) 131 HI6b.out.r.st (sgnM 1 d) hsg.1 hsg.2
    clear hsg
    refine cC.mono ?_; rintro e w6' ⟨rfl, hw6⟩
    replace hw6 := hw6.symm
    subst hw6
    clear cC
    go_wp2_with fail
    have cN := rImm_ok w6 (cutM σ3.v (sgnM 1 d))
    rw [HN.out] at cN
    refine cN.mono ?_; rintro e w7 ⟨rfl, k7⟩
    have hI7 := HI6b.out.no k7
    clear cN k7 HI6b e4b e9b
    have t7 := hI7.putB nO
    have hI8 := hI7.row { ((((((((((((Ins.zero.up 0 1).up 1 k).up 2 s).up 3 o0).up 4 o1').up 5 o2').up 6 o3').up 7 o4).up 8 o5).up 9 o6').up 10 o7).up 11 o8) with b := nO }
    have g8 := Hv.out.get hI8.op
    have p8 := hI8.r.put Hv.out
    have HI8 : Hid _ := hI8
    clear hI8 hI7 HI6 e9 e4
    go_wp2
    exact bodyPost_ret (v := _) (res1 rfl _ _ w.heap.size _ rfl (HI8.out.r.got Hv.out _)) rfl ⟨rfl, HI8.out.r.fin _⟩
end Go.Proofs.YtbfccfhjgopnbaaGreat
namespace Go.Proofs.YtbfccfhjgopnbaaGreat
open Go.ChangeShapes Go.WideShapes Go.ChangeAt Go.RowKit
set_option linter.unusedVariables false
set_option linter.unusedSimpArgs false
set_option maxHeartbeats 4000000
set_option maxRecDepth 20000
theorem jumps_198 (w : World) (X : Cx) (σ : Sg) (f : Int × Int × Int) (h : RSt X w σ f 198) (hf : σ.fl = none) (hm : (modrm X σ).1.2.1 = 0) :
    Calls Tryz.prog 29 #[.pointer (some ⟨X.S, 0, none⟩)] w fun e w' => e = .returned (.agg (insV { Ins.zero with op := 8, size := (szM 198 σ), a := (pE X (szM 198 σ) (modrm X σ).2).1, b := numO (bytesM X (szM 198 σ) (pE X (szM 198 σ) (modrm X σ).2).2).1 })) ∧ RDn X w (bytesM X (szM 198 σ) (pE X (szM 198 σ) (modrm X σ).2).2).2 (modrm X σ).1 198 w' := by
  obtain ⟨T, nI, fsI, psI, hv, Hv, ⟨vl, vs, vb, va, vx⟩, v1, v2, v3, v4, v5, v6, p0, p1, p2, p3, p4, p5, p6, p7, sz, ne⟩ := vlP
  obtain ⟨U, mU, ho, Ho, ⟨ol, os, oa⟩, o1, o2, o3, o6, so⟩ := vlOP
  have hr := RsQ.start (T := T) h
  have c4 := h.c4
  have d9 := h.c9
  have hS := h.ltS
  have Hsz : Hid (szM 198 σ = 1 ∨ szM 198 σ = 2 ∨ szM 198 σ = 4) := szM_or h.vv
  have cS := rsize_ok _ X σ f 198 hr.st (by decide)
  have cM := rmodrm_ok _ X σ f 198 hr.st hf
  have hfl := rmodrm_fl h hf
  obtain ⟨s, hs⟩ : ∃ s, s = (szM 198 σ) := ⟨_, rfl⟩
  rw [← hs] at cS Hsz ⊢
  generalize modrm X σ = Y at *
  obtain ⟨⟨m, k, r⟩, σ1⟩ := Y
  simp only at cM hfl hm ⊢
  subst hm
  have HE : Hid (∀ W, RSt X W σ1 (m, 0, r) 198 → _) := fun W hW => e_lit W X σ1 (m, 0, r) 198 hW hfl.1 hfl.2.1 s
  obtain ⟨⟨o0, o1', o2', o3', o4, o5, o6', o7, o8⟩, σ2, hY⟩ : ∃ o σ2, pE X s σ1 = (o, σ2) := ⟨_, _, rfl⟩
  rw [hY] at HE ⊢
  simp only at HE ⊢
  obtain ⟨d, σ3, hB⟩ : ∃ d σ3, bytesM X s σ2 = (d, σ3) := ⟨_, _, rfl⟩
  rw [hB]
  simp only
  have HB : Hid _ := hB
  clear hB
  obtain ⟨nO, hn⟩ : ∃ nO, numO d = nO := ⟨_, rfl⟩
  rw [hn]
  have HN : Hid _ := hn
  clear hn
  have HR : Hid _ := hr
  clear h hv ho hfl hr hf hs hY
  go_enter Tryz.func29, Tryz.ntmps29
  try simp only [vl, vs, va, vb, vx, ol, os, oa]
  clear vl vs va vb vx ol os oa
  go_wp2_with fail
  refine cS.mono ?_; rintro e wn ⟨rfl, rfl⟩
  go_wp2_with fail
  refine cM.mono ?_; rintro e w1 ⟨rfl, hd1⟩
  have hr1 := HR.out.call hd1
  have c7 := hr1.st.c7
  have c4b := hr1.st.c4
  have c9b := hr1.st.c9
  simp only at c7
  have hS1 := hr1.st.ltS
  have HR1 : Hid _ := hr1
  clear cS cM hd1 hr1 HR c4 d9 hS
  have new1 := Hv.out.newQ
  obtain ⟨u0, u1, u2, u3, u4, u5, u6, u7, u8, u9, u10, u11⟩ := ups12
  go_wp2_with fail
  refine (HE.out _ HR1.out.st).mono ?_; rintro e w5 ⟨rfl, hd5⟩
  have hr5 := HR1.out.call hd5
  have hS5 := hr5.st.ltS
  have hI6 : InQ T X w w.heap.size w5.heap.size (((((((((((Ins.zero.up 0 8).up 2 s).up 3 o0).up 4 o1').up 5 o2').up 6 o3').up 7 o4).up 8 o5).up 9 o6').up 10 o7).up 11 o8) σ2 (m, 0, r) 198 (w5.alloc (.cells (insV (((((((((((Ins.zero.up 0 8).up 2 s).up 3 o0).up 4 o1').up 5 o2').up 6 o3').up 7 o4).up 8 o5).up 9 o6').up 10 o7).up 11 o8)) T)) := hr5.own _
  have e9 := hI6.r.st.c9
  have e7 := hI6.r.st.c7
  have e4 := hI6.r.st.c4
  simp only at e7
  have hSW := hI6.r.st.ltS
  have HI6 : Hid _ := hI6
  clear hI6 hd5 hr5 c7 c4b c9b
  go_wp2_with fail
  have cB := num_okR (w5.alloc (.cells (insV (((((((((((Ins.zero.up 0 8).up 2 s).up 3 o0).up 4 o1').up 5 o2').up 6 o3').up 7 o4).up 8 o5).up 9 o6').up 10 o7).up 11 o8)) T)) X σ2 (m, 0, r) 198 HI6.out.r.st s (Hsz.out)
  rw [HB.out] at cB
  refine cB.mono ?_; rintro e w6 ⟨rfl, hd6⟩
  have hI6b := HI6.out.call hd6
  have HI6b : Hid _ := hI6b
  have e4b := hI6b.r.st.c4
  have e9b := hI6b.r.st.c9
  clear hI6b cB hd6
  go_wp2_with fail
  have cN := rImm_ok w6 d
  rw [HN.out] at cN
  refine cN.mono ?_; rintro e w7 ⟨rfl, k7⟩
  have hI7 := HI6b.out.no k7
  clear cN k7 HI6b e4b e9b
  have t7 := hI7.putB nO
  have hI8 := hI7.row { (((((((((((Ins.zero.up 0 8).up 2 s).up 3 o0).up 4 o1').up 5 o2').up 6 o3').up 7 o4).up 8 o5).up 9 o6').up 10 o7).up 11 o8) with b := nO }
  have g8 := Hv.out.get hI8.op
  have p8 := hI8.r.put Hv.out
  have HI8 : Hid _ := hI8
  clear hI8 hI7 HI6 e9 e4 e7
  go_wp2
  exact bodyPost_ret (v := _) (res1 rfl _ _ w.heap.size _ rfl (HI8.out.r.got Hv.out _)) rfl ⟨rfl, HI8.out.r.fin _⟩
theorem jumps_199 (w : World) (X : Cx) (σ : Sg) (f : Int × Int × Int) (h : RSt X w σ f 199) (hf : σ.fl = none) (hm : (modrm X σ).1.2.1 = 0) :
    Calls Tryz.prog 29 #[.pointer (some ⟨X.S, 0, none⟩)] w fun e w' => e = .returned (.agg (insV { Ins.zero with op := 8, size := (szM 199 σ), a := (pE X (szM 199 σ) (modrm X σ).2).1, b := numO (bytesM X (szM 199 σ) (pE X (szM 199 σ) (modrm X σ).2).2).1 })) ∧ RDn X w (bytesM X (szM 199 σ) (pE X (szM 199 σ) (modrm X σ).2).2).2 (modrm X σ).1 199 w' := by
  obtain ⟨T, nI, fsI, psI, hv, Hv, ⟨vl, vs, vb, va, vx⟩, v1, v2, v3, v4, v5, v6, p0, p1, p2, p3, p4, p5, p6, p7, sz, ne⟩ := vlP
  obtain ⟨U, mU, ho, Ho, ⟨ol, os, oa⟩, o1, o2, o3, o6, so⟩ := vlOP
  have hr := RsQ.start (T := T) h
  have c4 := h.c4
  have d9 := h.c9
  have hS := h.ltS
  have Hsz : Hid (szM 199 σ = 1 ∨ szM 199 σ = 2 ∨ szM 199 σ = 4) := szM_or h.vv
  have cS := rsize_ok _ X σ f 199 hr.st (by decide)
  have cM := rmodrm_ok _ X σ f 199 hr.st hf
  have hfl := rmodrm_fl h hf
  obtain ⟨s, hs⟩ : ∃ s, s = (szM 199 σ) := ⟨_, rfl⟩
  rw [← hs] at cS Hsz ⊢
  generalize modrm X σ = Y at *
  obtain ⟨⟨m, k, r⟩, σ1⟩ := Y
  simp only at cM hfl hm ⊢
  subst hm
  have HE : Hid (∀ W, RSt X W σ1 (m, 0, r) 199 → _) := fun W hW => e_lit W X σ1 (m, 0, r) 199 hW hfl.1 hfl.2.1 s
  obtain ⟨⟨o0, o1', o2', o3', o4, o5, o6', o7, o8⟩, σ2, hY⟩ : ∃ o σ2, pE X s σ1 = (o, σ2) := ⟨_, _, rfl⟩
  rw [hY] at HE ⊢
  simp only at HE ⊢
  obtain ⟨d, σ3, hB⟩ : ∃ d σ3, bytesM X s σ2 = (d, σ3) := ⟨_, _, rfl⟩
  rw [hB]
  simp only
  have HB : Hid _ := hB
  clear hB
  obtain ⟨nO, hn⟩ : ∃ nO, numO d = nO := ⟨_, rfl⟩
  rw [hn]
  have HN : Hid _ := hn
  clear hn
  have HR : Hid _ := hr
  clear h hv ho hfl hr hf hs hY
  go_enter Tryz.func29, Tryz.ntmps29
  try simp only [vl, vs, va, vb, vx, ol, os, oa]
  clear vl vs va vb vx ol os oa
  go_wp2_with fail
  refine cS.mono ?_; rintro e wn ⟨rfl, rfl⟩
  go_wp2_with fail
  refine cM.mono ?_; rintro e w1 ⟨rfl, hd1⟩
  have hr1 := HR.out.call hd1
  have c7 := hr1.st.c7
  have c4b := hr1.st.c4
  have c9b := hr1.st.c9
  simp only at c7
  have hS1 := hr1.st.ltS
  have HR1 : Hid _ := hr1
  clear cS cM hd1 hr1 HR c4 d9 hS
  have new1 := Hv.out.newQ
  obtain ⟨u0, u1, u2, u3, u4, u5, u6, u7, u8, u9, u10, u11⟩ := ups12
  go_wp2_with fail
  refine (HE.out _ HR1.out.st).mono ?_; rintro e w5 ⟨rfl, hd5⟩
  have hr5 := HR1.out.call hd5
  have hS5 := hr5.st.ltS
  have hI6 : InQ T X w w.heap.size w5.heap.size (((((((((((Ins.zero.up 0 8).up 2 s).up 3 o0).up 4 o1').up 5 o2').up 6 o3').up 7 o4).up 8 o5).up 9 o6').up 10 o7).up 11 o8) σ2 (m, 0, r) 199 (w5.alloc (.cells (insV (((((((((((Ins.zero.up 0 8).up 2 s).up 3 o0).up 4 o1').up 5 o2').up 6 o3').up 7 o4).up 8 o5).up 9 o6').up 10 o7).up 11 o8)) T)) := hr5.own _
  have e9 := hI6.r.st.c9
  have e7 := hI6.r.st.c7
  have e4 := hI6.r.st.c4
  simp only at e7
  have hSW := hI6.r.st.ltS
  have HI6 : Hid _ := hI6
  clear hI6 hd5 hr5 c7 c4b c9b
  go_wp2_with fail
  have cB := num_okR (w5.alloc (.cells (insV (((((((((((Ins.zero.up 0 8).up 2 s).up 3 o0).up 4 o1').up 5 o2').up 6 o3').up 7 o4).up 8 o5).up 9 o6').up 10 o7).up 11 o8)) T)) X σ2 (m, 0, r) 199 HI6.out.r.st s (Hsz.out)
  rw [HB.out] at cB
  refine cB.mono ?_; rintro e w6 ⟨rfl, hd6⟩
  have hI6b := HI6.out.call hd6
  have HI6b : Hid _ := hI6b
  have e4b := hI6b.r.st.c4
  have e9b := hI6b.r.st.c9
  clear hI6b cB hd6
  go_wp2_with fail
  have cN := rImm_ok w6 d
  rw [HN.out] at cN
  refine cN.mono ?_; rintro e w7 ⟨rfl, k7⟩
  have hI7 := HI6b.out.no k7
  clear cN k7 HI6b e4b e9b
  have t7 := hI7.putB nO
  have hI8 := hI7.row { (((((((((((Ins.zero.up 0 8).up 2 s).up 3 o0).up 4 o1').up 5 o2').up 6 o3').up 7 o4).up 8 o5).up 9 o6').up 10 o7).up 11 o8) with b := nO }
  have g8 := Hv.out.get hI8.op
  have p8 := hI8.r.put Hv.out
  have HI8 : Hid _ := hI8
  clear hI8 hI7 HI6 e9 e4 e7
  go_wp2
  exact bodyPost_ret (v := _) (res1 rfl _ _ w.heap.size _ rfl (HI8.out.r.got Hv.out _)) rfl ⟨rfl, HI8.out.r.fin _⟩
end Go.Proofs.YtbfccfhjgopnbaaGreat
