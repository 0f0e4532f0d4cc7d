/- The document's reader, and the code's (RfBa). -/
import Derived.Test.YtbfccfhjgopnbaaGreatDr26
import Derived.Test.YtbfccfhjgopnbaaGreatDr12
set_option linter.unusedSimpArgs false
namespace Go.Proofs.YtbfccfhjgopnbaaGreat
open Go.ChangeShapes Go.WideShapes Go.ChangeAt Go.RowKit
set_option linter.unusedVariables false
set_option linter.unusedSimpArgs false
set_option maxHeartbeats 4000000
set_option maxRecDepth 20000
theorem bits_186_u (w : World) (X : Cx) (σ : Sg) (f : Int × Int × Int) (h : RSt X w σ f 186) (hf : σ.fl = none) (hm : (modrm X σ).1.2.1 = 0 ∨ (modrm X σ).1.2.1 = 1 ∨ (modrm X σ).1.2.1 = 2 ∨ (modrm X σ).1.2.1 = 3) :
    Calls Tryz.prog 208 #[.pointer (some ⟨X.S, 0, none⟩)] w fun e w' => e = .returned (.agg (insV Ins.zero)) ∧ RDn X w (refuse (modrm X σ).2) (modrm X σ).1 186 w' := by
  rcases hm with hm | hm | hm | hm
  all_goals
    obtain ⟨T, nI, fsI, psI, hv, Hv, ⟨vl, vs, vb, va, vx⟩, v1, v2, v3, v4, v5, v6, p0, p1, p2, p3, p4, p5, p6, p7, sz, ne⟩ := vlP
    have hr := RsQ.no (RsQ.start (T := T) h) (Kp.alloc noB _ (.cells #[.int .i64 4, .int .i64 5, .int .i64 0, .int .i64 0, .int .i64 0, .int .i64 0, .int .i64 0, .int .u32 0, .int .u32 0] 26))
    have hS := h.ltS
    have c9 := h.c9
    skip
    have cM := rmodrm_ok _ X σ f 186 hr.st hf
    generalize modrm X σ = Y at *
    obtain ⟨⟨m, k, r⟩, σ1⟩ := Y
    simp only at cM hm ⊢
    subst hm
    have Hr : Hid _ := hr
    clear h hv hf
    go_enter Tryz.func208, Tryz.ntmps208
    try simp only [vl, vs, va, vb, vx]
    clear vl vs va vb vx
    go_wp2_with fail
    refine cM.mono ?_; rintro e w1 ⟨rfl, hd1⟩
    have hr1 := Hr.out.call hd1
    have c71 := hr1.st.c7
    have c61 := hr1.st.c6
    simp only at c71 c61
    have hS1 := hr1.st.ltS
    have hrA := fun o => RsQ.no hr1 (Kp.alloc noB _ o)
    have Hr1 : Hid _ := hr1
    clear hd1 cM hr1
    go_wp2_with (go_at_call 31; refine (ud_ok _ X σ1 _ 186 (RsQ.st (by first | exact Hr1.out | exact hrA _))).mono ?_; rintro e w2 ⟨rfl, hd2⟩; have hr2 := RsQ.call (by first | exact Hr1.out | exact hrA _) hd2; have p2' := hr2.put Hv.out)
    exact bodyPost_ret (v := _) (res1 rfl _ _ w.heap.size _ rfl (RsQ.got Hv.out (by assumption) _)) rfl ⟨rfl, RsQ.fin (by assumption) _⟩
theorem bits_186_4 (w : World) (X : Cx) (σ : Sg) (f : Int × Int × Int) (h : RSt X w σ f 186) (hf : σ.fl = none) (hm : (modrm X σ).1.2.1 = 4) :
    Calls Tryz.prog 208 #[.pointer (some ⟨X.S, 0, none⟩)] w fun e w' => e = .returned (.agg (insV { Ins.zero with op := 23, sub := 0, size := σ.v, a := (pE X σ.v (modrm X σ).2).1, b := numO (bytesM X 1 (pE X σ.v (modrm X σ).2).2).1 })) ∧ RDn X w (bytesM X 1 (pE X σ.v (modrm X σ).2).2).2 (modrm X σ).1 186 w' := by
  obtain ⟨T, nI, fsI, psI, hv, Hv, ⟨vl, vs, vb, va, vx⟩, v1, v2, v3, v4, v5, v6, p0, p1, p2, p3, p4, p5, p6, p7, sz, ne⟩ := vlP
  obtain ⟨U, mU, ho, Ho, ⟨ol, os, oa⟩, o1, o2, o3, o6, so⟩ := vlOP
  have hr := RsQ.no (RsQ.start (T := T) h) (Kp.alloc noB _ (.cells #[.int .i64 4, .int .i64 5, .int .i64 0, .int .i64 0, .int .i64 0, .int .i64 0, .int .i64 0, .int .u32 0, .int .u32 0] U))
  have newS : ∀ W : World, (storeCells ⟨W.heap.size, 0, none⟩ [.int .i64 4, .int .i64 4, .int .i64 0, .int .i64 0, .int .i64 0, .int .i64 0, .int .i64 0, .int .u32 0, .int .u32 0]).run Tryz.prog (W.alloc (.cells Opd.zero.vals U)) = .ok () (W.alloc (.cells #[.int .i64 4, .int .i64 4, .int .i64 0, .int .i64 0, .int .i64 0, .int .i64 0, .int .i64 0, .int .u32 0, .int .u32 0] U)) := fun W => Ho.out.new W _ rfl (segO 4)
  have newT := newS (w.alloc (.cells (insV Ins.zero) T))
  rw [show (w.alloc (.cells (insV Ins.zero) T)).heap.size = w.heap.size + 1 by simp] at newT
  have d9 := h.c9
  have hS := h.ltS
  have cM := rmodrm_ok _ X σ f 186 hr.st hf
  have hfl := rmodrm_fl h hf
  have hkm := (kept_modrm X σ).v
  generalize modrm X σ = Y at *
  obtain ⟨⟨m, k, r⟩, σ1⟩ := Y
  simp only at cM hfl hm hkm ⊢
  subst hm
  have HE : Hid (∀ W, RSt X W σ1 (m, 4, r) 186 → _) := fun W hW => e_lit W X σ1 (m, 4, r) 186 hW hfl.1 hfl.2.1 σ.v
  have hke := (kept_E X σ.v σ1).v
  obtain ⟨⟨o0, o1', o2', o3', o4, o5, o6', o7, o8⟩, σ2, hY⟩ : ∃ o σ2, pE X σ.v σ1 = (o, σ2) := ⟨_, _, rfl⟩
  rw [hY] at HE hke ⊢
  simp only at HE hke ⊢
  obtain ⟨d, σ3, hB⟩ : ∃ d σ3, bytesM X 1 σ2 = (d, σ3) := ⟨_, _, rfl⟩
  rw [hB]
  simp only
  have HB : Hid _ := hB
  clear hB
  obtain ⟨nO, hn⟩ : ∃ nO, numO d = nO := ⟨_, rfl⟩
  rw [hn]
  have HN : Hid _ := hn
  clear hn
  have HR : Hid _ := hr
  have HKM : Hid (σ1.v = σ.v) := hkm
  have HKE : Hid (σ2.v = σ.v) := hke.trans hkm
  clear h hv ho hfl hr hf hY hkm hke newS
  go_enter Tryz.func208, Tryz.ntmps208
  try simp only [vl, vs, va, vb, vx, ol, os, oa]
  clear vl vs va vb vx ol os oa
  go_wp2_with fail
  refine cM.mono ?_; rintro e w1 ⟨rfl, hd1⟩
  have hr1 := HR.out.call hd1
  have c7 := hr1.st.c7
  simp only at c7
  have c4 := hr1.st.c4
  rw [HKM.out] at c4
  have hS1 := hr1.st.ltS
  have HR1 : Hid _ := hr1
  clear cM hd1 hr1 HR d9 hS newT
  have hIA : InQ T X w w.heap.size w1.heap.size Ins.zero σ1 (m, 4, r) 186 (w1.drew.alloc (.cells (insV Ins.zero) T)) := HR1.out.drew.own Ins.zero
  have HIA : Hid _ := hIA
  have HD : Hid (RSt X w1.drew σ1 (m, 4, r) 186) := HR1.out.drew.st
  have HS0 : Hid (w1.drew.cell? ⟨X.S, 7, none⟩ = some (.int .i64 4) ∧ w1.drew.cell? ⟨X.S, 4, none⟩ = some (.int .i64 σ.v)) := ⟨c7, c4⟩
  have HSA : Hid ((w1.alloc (.cells (insV Ins.zero) T)).drew.cell? ⟨X.S, 7, none⟩ = some (.int .i64 4) ∧ (w1.alloc (.cells (insV Ins.zero) T)).drew.cell? ⟨X.S, 4, none⟩ = some (.int .i64 σ.v)) := ⟨by have := hIA.r.st.c7; exact this, by have := hIA.r.st.c4; rw [HKM.out] at this; exact this⟩
  have HSD : Hid (∀ W W', RDn X W σ2 (m, 4, r) 186 W' → (W'.cell? ⟨X.S, 7, none⟩ = some (.int .i64 4) ∧ W'.cell? ⟨X.S, 4, none⟩ = some (.int .i64 σ.v))) := fun W W' d => ⟨d.1.c7, by have := d.1.c4; rw [HKE.out] at this; exact this⟩
  have HSI : Hid (∀ (W : World) (q : Nat) (y : Ins), InQ T X w w.heap.size q y σ2 (m, 4, r) 186 W → (W.cell? ⟨X.S, 7, none⟩ = some (.int .i64 4) ∧ W.cell? ⟨X.S, 4, none⟩ = some (.int .i64 σ.v))) := fun W q y d => ⟨d.r.st.c7, by have := d.r.st.c4; rw [HKE.out] at this; exact this⟩
  have new1 := Hv.out.newQ
  obtain ⟨u0, u1, u2, u3, u4, u5, u6, u7, u8, u9, u10, u11⟩ := ups12
  clear hIA
  go_wp2
  go_region_held3 (fun W => (W.cell? ⟨X.S, 7, none⟩ = some (.int .i64 4) ∧ W.cell? ⟨X.S, 4, none⟩ = some (.int .i64 σ.v)))
    (first | with_reducible exact HS0.out | with_reducible exact HSA.out | with_reducible exact HSD.out _ _ hd5 | exact HSI.out _ _ _ (hI5.row _) | exact HSI.out _ _ _ (hr5.own _))
    (first | (go_at_call 206; refine (HE.out _ (by first | exact HD.out | exact HIA.out.r.st)).mono ?_; rintro e w5 ⟨rfl, hd5⟩; have hS5 := hd5.1.ltS; first | (have hI5 := InQ.call HIA.out hd5; have pt5 := hI5.put Hv.out) | (have hr5 := RsQ.call HR1.out.drew hd5)))
  all_goals
    first
    | (have hI6 : InQ T X w w.heap.size w1.heap.size ((((((((((((Ins.zero.up 0 23).up 1 0).up 2 σ.v).up 3 o0).up 4 o1').up 5 o2').up 6 o3').up 7 o4).up 8 o5).up 9 o6').up 10 o7).up 11 o8) σ2 (m, 4, r) 186 (w5.setRow w1.heap.size (insV ((((((((((((Ins.zero.up 0 23).up 1 0).up 2 σ.v).up 3 o0).up 4 o1').up 5 o2').up 6 o3').up 7 o4).up 8 o5).up 9 o6').up 10 o7).up 11 o8))) := hI5.row _)
    | (have hI6 : InQ T X w w.heap.size w5.heap.size ((((((((((((Ins.zero.up 0 23).up 1 0).up 2 σ.v).up 3 o0).up 4 o1').up 5 o2').up 6 o3').up 7 o4).up 8 o5).up 9 o6').up 10 o7).up 11 o8) σ2 (m, 4, r) 186 (w5.alloc (.cells (insV ((((((((((((Ins.zero.up 0 23).up 1 0).up 2 σ.v).up 3 o0).up 4 o1').up 5 o2').up 6 o3').up 7 o4).up 8 o5).up 9 o6').up 10 o7).up 11 o8)) T)) := hr5.own _)
    have e9 := hI6.r.st.c9
    have e4 := hI6.r.st.c4
    have hSW := hI6.r.st.ltS
    have HI6 : Hid _ := hI6
    clear hI6
    go_wp2_with fail
    have cB := num_okR _ X σ2 (m, 4, r) 186 HI6.out.r.st 1 (by decide)
    rw [HB.out] at cB
    refine cB.mono ?_; rintro e w6 ⟨rfl, hd6⟩
    have hI6b := HI6.out.call hd6
    have HI6b : Hid _ := hI6b
    have e4b := hI6b.r.st.c4
    have e9b := hI6b.r.st.c9
    clear hI6b cB hd6
    go_wp2_with fail
    have cN := rImm_ok w6 d
    rw [HN.out] at cN
    refine cN.mono ?_; rintro e w7 ⟨rfl, k7⟩
    have hI7 := HI6b.out.no k7
    clear cN k7 HI6b e4b e9b
    have t7 := hI7.putB nO
    have hI8 := hI7.row { ((((((((((((Ins.zero.up 0 23).up 1 0).up 2 σ.v).up 3 o0).up 4 o1').up 5 o2').up 6 o3').up 7 o4).up 8 o5).up 9 o6').up 10 o7).up 11 o8) with b := nO }
    have g8 := Hv.out.get hI8.op
    have p8 := hI8.r.put Hv.out
    have HI8 : Hid _ := hI8
    clear hI8 hI7 HI6 e9 e4
    go_wp2
    exact bodyPost_ret (v := _) (res1 rfl _ _ w.heap.size _ rfl (HI8.out.r.got Hv.out _)) rfl ⟨rfl, HI8.out.r.fin _⟩
theorem bits_186_5 (w : World) (X : Cx) (σ : Sg) (f : Int × Int × Int) (h : RSt X w σ f 186) (hf : σ.fl = none) (hm : (modrm X σ).1.2.1 = 5) :
    Calls Tryz.prog 208 #[.pointer (some ⟨X.S, 0, none⟩)] w fun e w' => e = .returned (.agg (insV { Ins.zero with op := 23, sub := 1, size := σ.v, a := (pE X σ.v (modrm X σ).2).1, b := numO (bytesM X 1 (pE X σ.v (modrm X σ).2).2).1 })) ∧ RDn X w (bytesM X 1 (pE X σ.v (modrm X σ).2).2).2 (modrm X σ).1 186 w' := by
  obtain ⟨T, nI, fsI, psI, hv, Hv, ⟨vl, vs, vb, va, vx⟩, v1, v2, v3, v4, v5, v6, p0, p1, p2, p3, p4, p5, p6, p7, sz, ne⟩ := vlP
  obtain ⟨U, mU, ho, Ho, ⟨ol, os, oa⟩, o1, o2, o3, o6, so⟩ := vlOP
  have hr := RsQ.no (RsQ.start (T := T) h) (Kp.alloc noB _ (.cells #[.int .i64 4, .int .i64 5, .int .i64 0, .int .i64 0, .int .i64 0, .int .i64 0, .int .i64 0, .int .u32 0, .int .u32 0] U))
  have newS : ∀ W : World, (storeCells ⟨W.heap.size, 0, none⟩ [.int .i64 4, .int .i64 4, .int .i64 0, .int .i64 0, .int .i64 0, .int .i64 0, .int .i64 0, .int .u32 0, .int .u32 0]).run Tryz.prog (W.alloc (.cells Opd.zero.vals U)) = .ok () (W.alloc (.cells #[.int .i64 4, .int .i64 4, .int .i64 0, .int .i64 0, .int .i64 0, .int .i64 0, .int .i64 0, .int .u32 0, .int .u32 0] U)) := fun W => Ho.out.new W _ rfl (segO 4)
  have newT := newS (w.alloc (.cells (insV Ins.zero) T))
  rw [show (w.alloc (.cells (insV Ins.zero) T)).heap.size = w.heap.size + 1 by simp] at newT
  have d9 := h.c9
  have hS := h.ltS
  have cM := rmodrm_ok _ X σ f 186 hr.st hf
  have hfl := rmodrm_fl h hf
  have hkm := (kept_modrm X σ).v
  generalize modrm X σ = Y at *
  obtain ⟨⟨m, k, r⟩, σ1⟩ := Y
  simp only at cM hfl hm hkm ⊢
  subst hm
  have HE : Hid (∀ W, RSt X W σ1 (m, 5, r) 186 → _) := fun W hW => e_lit W X σ1 (m, 5, r) 186 hW hfl.1 hfl.2.1 σ.v
  have hke := (kept_E X σ.v σ1).v
  obtain ⟨⟨o0, o1', o2', o3', o4, o5, o6', o7, o8⟩, σ2, hY⟩ : ∃ o σ2, pE X σ.v σ1 = (o, σ2) := ⟨_, _, rfl⟩
  rw [hY] at HE hke ⊢
  simp only at HE hke ⊢
  obtain ⟨d, σ3, hB⟩ : ∃ d σ3, bytesM X 1 σ2 = (d, σ3) := ⟨_, _, rfl⟩
  rw [hB]
  simp only
  have HB : Hid _ := hB
  clear hB
  obtain ⟨nO, hn⟩ : ∃ nO, numO d = nO := ⟨_, rfl⟩
  rw [hn]
  have HN : Hid _ := hn
  clear hn
  have HR : Hid _ := hr
  have HKM : Hid (σ1.v = σ.v) := hkm
  have HKE : Hid (σ2.v = σ.v) := hke.trans hkm
  clear h hv ho hfl hr hf hY hkm hke newS
  go_enter Tryz.func208, Tryz.ntmps208
  try simp only [vl, vs, va, vb, vx, ol, os, oa]
  clear vl vs va vb vx ol os oa
  go_wp2_with fail
  refine cM.mono ?_; rintro e w1 ⟨rfl, hd1⟩
  have hr1 := HR.out.call hd1
  have c7 := hr1.st.c7
  simp only at c7
  have c4 := hr1.st.c4
  rw [HKM.out] at c4
  have hS1 := hr1.st.ltS
  have HR1 : Hid _ := hr1
  clear cM hd1 hr1 HR d9 hS newT
  have hIA : InQ T X w w.heap.size w1.heap.size Ins.zero σ1 (m, 5, r) 186 (w1.drew.alloc (.cells (insV Ins.zero) T)) := HR1.out.drew.own Ins.zero
  have HIA : Hid _ := hIA
  have HD : Hid (RSt X w1.drew σ1 (m, 5, r) 186) := HR1.out.drew.st
  have HS0 : Hid (w1.drew.cell? ⟨X.S, 7, none⟩ = some (.int .i64 5) ∧ w1.drew.cell? ⟨X.S, 4, none⟩ = some (.int .i64 σ.v)) := ⟨c7, c4⟩
  have HSA : Hid ((w1.alloc (.cells (insV Ins.zero) T)).drew.cell? ⟨X.S, 7, none⟩ = some (.int .i64 5) ∧ (w1.alloc (.cells (insV Ins.zero) T)).drew.cell? ⟨X.S, 4, none⟩ = some (.int .i64 σ.v)) := ⟨by have := hIA.r.st.c7; exact this, by have := hIA.r.st.c4; rw [HKM.out] at this; exact this⟩
  have HSD : Hid (∀ W W', RDn X W σ2 (m, 5, r) 186 W' → (W'.cell? ⟨X.S, 7, none⟩ = some (.int .i64 5) ∧ W'.cell? ⟨X.S, 4, none⟩ = some (.int .i64 σ.v))) := fun W W' d => ⟨d.1.c7, by have := d.1.c4; rw [HKE.out] at this; exact this⟩
  have HSI : Hid (∀ (W : World) (q : Nat) (y : Ins), InQ T X w w.heap.size q y σ2 (m, 5, r) 186 W → (W.cell? ⟨X.S, 7, none⟩ = some (.int .i64 5) ∧ W.cell? ⟨X.S, 4, none⟩ = some (.int .i64 σ.v))) := fun W q y d => ⟨d.r.st.c7, by have := d.r.st.c4; rw [HKE.out] at this; exact this⟩
  have new1 := Hv.out.newQ
  obtain ⟨u0, u1, u2, u3, u4, u5, u6, u7, u8, u9, u10, u11⟩ := ups12
  clear hIA
  go_wp2
  go_region_held3 (fun W => (W.cell? ⟨X.S, 7, none⟩ = some (.int .i64 5) ∧ W.cell? ⟨X.S, 4, none⟩ = some (.int .i64 σ.v)))
    (first | with_reducible exact HS0.out | with_reducible exact HSA.out | with_reducible exact HSD.out _ _ hd5 | exact HSI.out _ _ _ (hI5.row _) | exact HSI.out _ _ _ (hr5.own _))
    (first | (go_at_call 206; refine (HE.out _ (by first | exact HD.out | exact HIA.out.r.st)).mono ?_; rintro e w5 ⟨rfl, hd5⟩; have hS5 := hd5.1.ltS; first | (have hI5 := InQ.call HIA.out hd5; have pt5 := hI5.put Hv.out) | (have hr5 := RsQ.call HR1.out.drew hd5)))
  all_goals
    first
    | (have hI6 : InQ T X w w.heap.size w1.heap.size ((((((((((((Ins.zero.up 0 23).up 1 1).up 2 σ.v).up 3 o0).up 4 o1').up 5 o2').up 6 o3').up 7 o4).up 8 o5).up 9 o6').up 10 o7).up 11 o8) σ2 (m, 5, r) 186 (w5.setRow w1.heap.size (insV ((((((((((((Ins.zero.up 0 23).up 1 1).up 2 σ.v).up 3 o0).up 4 o1').up 5 o2').up 6 o3').up 7 o4).up 8 o5).up 9 o6').up 10 o7).up 11 o8))) := hI5.row _)
    | (have hI6 : InQ T X w w.heap.size w5.heap.size ((((((((((((Ins.zero.up 0 23).up 1 1).up 2 σ.v).up 3 o0).up 4 o1').up 5 o2').up 6 o3').up 7 o4).up 8 o5).up 9 o6').up 10 o7).up 11 o8) σ2 (m, 5, r) 186 (w5.alloc (.cells (insV ((((((((((((Ins.zero.up 0 23).up 1 1).up 2 σ.v).up 3 o0).up 4 o1').up 5 o2').up 6 o3').up 7 o4).up 8 o5).up 9 o6').up 10 o7).up 11 o8)) T)) := hr5.own _)
    have e9 := hI6.r.st.c9
    have e4 := hI6.r.st.c4
    have hSW := hI6.r.st.ltS
    have HI6 : Hid _ := hI6
    clear hI6
    go_wp2_with fail
    have cB := num_okR _ X σ2 (m, 5, r) 186 HI6.out.r.st 1 (by decide)
    rw [HB.out] at cB
    refine cB.mono ?_; rintro e w6 ⟨rfl, hd6⟩
    have hI6b := HI6.out.call hd6
    have HI6b : Hid _ := hI6b
    have e4b := hI6b.r.st.c4
    have e9b := hI6b.r.st.c9
    clear hI6b cB hd6
    go_wp2_with fail
    have cN := rImm_ok w6 d
    rw [HN.out] at cN
    refine cN.mono ?_; rintro e w7 ⟨rfl, k7⟩
    have hI7 := HI6b.out.no k7
    clear cN k7 HI6b e4b e9b
    have t7 := hI7.putB nO
    have hI8 := hI7.row { ((((((((((((Ins.zero.up 0 23).up 1 1).up 2 σ.v).up 3 o0).up 4 o1').up 5 o2').up 6 o3').up 7 o4).up 8 o5).up 9 o6').up 10 o7).up 11 o8) with b := nO }
    have g8 := Hv.out.get hI8.op
    have p8 := hI8.r.put Hv.out
    have HI8 : Hid _ := hI8
    clear hI8 hI7 HI6 e9 e4
    go_wp2
    exact bodyPost_ret (v := _) (res1 rfl _ _ w.heap.size _ rfl (HI8.out.r.got Hv.out _)) rfl ⟨rfl, HI8.out.r.fin _⟩
theorem bits_186_6 (w : World) (X : Cx) (σ : Sg) (f : Int × Int × Int) (h : RSt X w σ f 186) (hf : σ.fl = none) (hm : (modrm X σ).1.2.1 = 6) :
    Calls Tryz.prog 208 #[.pointer (some ⟨X.S, 0, none⟩)] w fun e w' => e = .returned (.agg (insV { Ins.zero with op := 23, sub := 2, size := σ.v, a := (pE X σ.v (modrm X σ).2).1, b := numO (bytesM X 1 (pE X σ.v (modrm X σ).2).2).1 })) ∧ RDn X w (bytesM X 1 (pE X σ.v (modrm X σ).2).2).2 (modrm X σ).1 186 w' := by
  obtain ⟨T, nI, fsI, psI, hv, Hv, ⟨vl, vs, vb, va, vx⟩, v1, v2, v3, v4, v5, v6, p0, p1, p2, p3, p4, p5, p6, p7, sz, ne⟩ := vlP
  obtain ⟨U, mU, ho, Ho, ⟨ol, os, oa⟩, o1, o2, o3, o6, so⟩ := vlOP
  have hr := RsQ.no (RsQ.start (T := T) h) (Kp.alloc noB _ (.cells #[.int .i64 4, .int .i64 5, .int .i64 0, .int .i64 0, .int .i64 0, .int .i64 0, .int .i64 0, .int .u32 0, .int .u32 0] U))
  have newS : ∀ W : World, (storeCells ⟨W.heap.size, 0, none⟩ [.int .i64 4, .int .i64 4, .int .i64 0, .int .i64 0, .int .i64 0, .int .i64 0, .int .i64 0, .int .u32 0, .int .u32 0]).run Tryz.prog (W.alloc (.cells Opd.zero.vals U)) = .ok () (W.alloc (.cells #[.int .i64 4, .int .i64 4, .int .i64 0, .int .i64 0, .int .i64 0, .int .i64 0, .int .i64 0, .int .u32 0, .int .u32 0] U)) := fun W => Ho.out.new W _ rfl (segO 4)
  have newT := newS (w.alloc (.cells (insV Ins.zero) T))
  rw [show (w.alloc (.cells (insV Ins.zero) T)).heap.size = w.heap.size + 1 by simp] at newT
  have d9 := h.c9
  have hS := h.ltS
  have cM := rmodrm_ok _ X σ f 186 hr.st hf
  have hfl := rmodrm_fl h hf
  have hkm := (kept_modrm X σ).v
  generalize modrm X σ = Y at *
  obtain ⟨⟨m, k, r⟩, σ1⟩ := Y
  simp only at cM hfl hm hkm ⊢
  subst hm
  have HE : Hid (∀ W, RSt X W σ1 (m, 6, r) 186 → _) := fun W hW => e_lit W X σ1 (m, 6, r) 186 hW hfl.1 hfl.2.1 σ.v
  have hke := (kept_E X σ.v σ1).v
  obtain ⟨⟨o0, o1', o2', o3', o4, o5, o6', o7, o8⟩, σ2, hY⟩ : ∃ o σ2, pE X σ.v σ1 = (o, σ2) := ⟨_, _, rfl⟩
  rw [hY] at HE hke ⊢
  simp only at HE hke ⊢
  obtain ⟨d, σ3, hB⟩ : ∃ d σ3, bytesM X 1 σ2 = (d, σ3) := ⟨_, _, rfl⟩
  rw [hB]
  simp only
  have HB : Hid _ := hB
  clear hB
  obtain ⟨nO, hn⟩ : ∃ nO, numO d = nO := ⟨_, rfl⟩
  rw [hn]
  have HN : Hid _ := hn
  clear hn
  have HR : Hid _ := hr
  have HKM : Hid (σ1.v = σ.v) := hkm
  have HKE : Hid (σ2.v = σ.v) := hke.trans hkm
  clear h hv ho hfl hr hf hY hkm hke newS
  go_enter Tryz.func208, Tryz.ntmps208
  try simp only [vl, vs, va, vb, vx, ol, os, oa]
  clear vl vs va vb vx ol os oa
  go_wp2_with fail
  refine cM.mono ?_; rintro e w1 ⟨rfl, hd1⟩
  have hr1 := HR.out.call hd1
  have c7 := hr1.st.c7
  simp only at c7
  have c4 := hr1.st.c4
  rw [HKM.out] at c4
  have hS1 := hr1.st.ltS
  have HR1 : Hid _ := hr1
  clear cM hd1 hr1 HR d9 hS newT
  have hIA : InQ T X w w.heap.size w1.heap.size Ins.zero σ1 (m, 6, r) 186 (w1.drew.alloc (.cells (insV Ins.zero) T)) := HR1.out.drew.own Ins.zero
  have HIA : Hid _ := hIA
  have HD : Hid (RSt X w1.drew σ1 (m, 6, r) 186) := HR1.out.drew.st
  have HS0 : Hid (w1.drew.cell? ⟨X.S, 7, none⟩ = some (.int .i64 6) ∧ w1.drew.cell? ⟨X.S, 4, none⟩ = some (.int .i64 σ.v)) := ⟨c7, c4⟩
  have HSA : Hid ((w1.alloc (.cells (insV Ins.zero) T)).drew.cell? ⟨X.S, 7, none⟩ = some (.int .i64 6) ∧ (w1.alloc (.cells (insV Ins.zero) T)).drew.cell? ⟨X.S, 4, none⟩ = some (.int .i64 σ.v)) := ⟨by have := hIA.r.st.c7; exact this, by have := hIA.r.st.c4; rw [HKM.out] at this; exact this⟩
  have HSD : Hid (∀ W W', RDn X W σ2 (m, 6, r) 186 W' → (W'.cell? ⟨X.S, 7, none⟩ = some (.int .i64 6) ∧ W'.cell? ⟨X.S, 4, none⟩ = some (.int .i64 σ.v))) := fun W W' d => ⟨d.1.c7, by have := d.1.c4; rw [HKE.out] at this; exact this⟩
  have HSI : Hid (∀ (W : World) (q : Nat) (y : Ins), InQ T X w w.heap.size q y σ2 (m, 6, r) 186 W → (W.cell? ⟨X.S, 7, none⟩ = some (.int .i64 6) ∧ W.cell? ⟨X.S, 4, none⟩ = some (.int .i64 σ.v))) := fun W q y d => ⟨d.r.st.c7, by have := d.r.st.c4; rw [HKE.out] at this; exact this⟩
  have new1 := Hv.out.newQ
  obtain ⟨u0, u1, u2, u3, u4, u5, u6, u7, u8, u9, u10, u11⟩ := ups12
  clear hIA
  go_wp2
  go_region_held3 (fun W => (W.cell? ⟨X.S, 7, none⟩ = some (.int .i64 6) ∧ W.cell? ⟨X.S, 4, none⟩ = some (.int .i64 σ.v)))
    (first | with_reducible exact HS0.out | with_reducible exact HSA.out | with_reducible exact HSD.out _ _ hd5 | exact HSI.out _ _ _ (hI5.row _) | exact HSI.out _ _ _ (hr5.own _))
    (first | (go_at_call 206; refine (HE.out _ (by first | exact HD.out | exact HIA.out.r.st)).mono ?_; rintro e w5 ⟨rfl, hd5⟩; have hS5 := hd5.1.ltS; first | (have hI5 := InQ.call HIA.out hd5; have pt5 := hI5.put Hv.out) | (have hr5 := RsQ.call HR1.out.drew hd5)))
  all_goals
    first
    | (have hI6 : InQ T X w w.heap.size w1.heap.size ((((((((((((Ins.zero.up 0 23).up 1 2).up 2 σ.v).up 3 o0).up 4 o1').up 5 o2').up 6 o3').up 7 o4).up 8 o5).up 9 o6').up 10 o7).up 11 o8) σ2 (m, 6, r) 186 (w5.setRow w1.heap.size (insV ((((((((((((Ins.zero.up 0 23).up 1 2).up 2 σ.v).up 3 o0).up 4 o1').up 5 o2').up 6 o3').up 7 o4).up 8 o5).up 9 o6').up 10 o7).up 11 o8))) := hI5.row _)
    | (have hI6 : InQ T X w w.heap.size w5.heap.size ((((((((((((Ins.zero.up 0 23).up 1 2).up 2 σ.v).up 3 o0).up 4 o1').up 5 o2').up 6 o3').up 7 o4).up 8 o5).up 9 o6').up 10 o7).up 11 o8) σ2 (m, 6, r) 186 (w5.alloc (.cells (insV ((((((((((((Ins.zero.up 0 23).up 1 2).up 2 σ.v).up 3 o0).up 4 o1').up 5 o2').up 6 o3').up 7 o4).up 8 o5).up 9 o6').up 10 o7).up 11 o8)) T)) := hr5.own _)
    have e9 := hI6.r.st.c9
    have e4 := hI6.r.st.c4
    have hSW := hI6.r.st.ltS
    have HI6 : Hid _ := hI6
    clear hI6
    go_wp2_with fail
    have cB := num_okR _ X σ2 (m, 6, r) 186 HI6.out.r.st 1 (by decide)
    rw [HB.out] at cB
    refine cB.mono ?_; rintro e w6 ⟨rfl, hd6⟩
    have hI6b := HI6.out.call hd6
    have HI6b : Hid _ := hI6b
    have e4b := hI6b.r.st.c4
    have e9b := hI6b.r.st.c9
    clear hI6b cB hd6
    go_wp2_with fail
    have cN := rImm_ok w6 d
    rw [HN.out] at cN
    refine cN.mono ?_; rintro e w7 ⟨rfl, k7⟩
    have hI7 := HI6b.out.no k7
    clear cN k7 HI6b e4b e9b
    have t7 := hI7.putB nO
    have hI8 := hI7.row { ((((((((((((Ins.zero.up 0 23).up 1 2).up 2 σ.v).up 3 o0).up 4 o1').up 5 o2').up 6 o3').up 7 o4).up 8 o5).up 9 o6').up 10 o7).up 11 o8) with b := nO }
    have g8 := Hv.out.get hI8.op
    have p8 := hI8.r.put Hv.out
    have HI8 : Hid _ := hI8
    clear hI8 hI7 HI6 e9 e4
    go_wp2
    exact bodyPost_ret (v := _) (res1 rfl _ _ w.heap.size _ rfl (HI8.out.r.got Hv.out _)) rfl ⟨rfl, HI8.out.r.fin _⟩
theorem bits_186_7 (w : World) (X : Cx) (σ : Sg) (f : Int × Int × Int) (h : RSt X w σ f 186) (hf : σ.fl = none) (hm : (modrm X σ).1.2.1 = 7) :
    Calls Tryz.prog 208 #[.pointer (some ⟨X.S, 0, none⟩)] w fun e w' => e = .returned (.agg (insV { Ins.zero with op := 23, sub := 3, size := σ.v, a := (pE X σ.v (modrm X σ).2).1, b := numO (bytesM X 1 (pE X σ.v (modrm X σ).2).2).1 })) ∧ RDn X w (bytesM X 1 (pE X σ.v (modrm X σ).2).2).2 (modrm X σ).1 186 w' := by
  obtain ⟨T, nI, fsI, psI, hv, Hv, ⟨vl, vs, vb, va, vx⟩, v1, v2, v3, v4, v5, v6, p0, p1, p2, p3, p4, p5, p6, p7, sz, ne⟩ := vlP
  obtain ⟨U, mU, ho, Ho, ⟨ol, os, oa⟩, o1, o2, o3, o6, so⟩ := vlOP
  have hr := RsQ.no (RsQ.start (T := T) h) (Kp.alloc noB _ (.cells #[.int .i64 4, .int .i64 5, .int .i64 0, .int .i64 0, .int .i64 0, .int .i64 0, .int .i64 0, .int .u32 0, .int .u32 0] U))
  have newS : ∀ W : World, (storeCells ⟨W.heap.size, 0, none⟩ [.int .i64 4, .int .i64 4, .int .i64 0, .int .i64 0, .int .i64 0, .int .i64 0, .int .i64 0, .int .u32 0, .int .u32 0]).run Tryz.prog (W.alloc (.cells Opd.zero.vals U)) = .ok () (W.alloc (.cells #[.int .i64 4, .int .i64 4, .int .i64 0, .int .i64 0, .int .i64 0, .int .i64 0, .int .i64 0, .int .u32 0, .int .u32 0] U)) := fun W => Ho.out.new W _ rfl (segO 4)
  have newT := newS (w.alloc (.cells (insV Ins.zero) T))
  rw [show (w.alloc (.cells (insV Ins.zero) T)).heap.size = w.heap.size + 1 by simp] at newT
  have d9 := h.c9
  have hS := h.ltS
  have cM := rmodrm_ok _ X σ f 186 hr.st hf
  have hfl := rmodrm_fl h hf
  have hkm := (kept_modrm X σ).v
  generalize modrm X σ = Y at *
  obtain ⟨⟨m, k, r⟩, σ1⟩ := Y
  simp only at cM hfl hm hkm ⊢
  subst hm
  have HE : Hid (∀ W, RSt X W σ1 (m, 7, r) 186 → _) := fun W hW => e_lit W X σ1 (m, 7, r) 186 hW hfl.1 hfl.2.1 σ.v
  have hke := (kept_E X σ.v σ1).v
  obtain ⟨⟨o0, o1', o2', o3', o4, o5, o6', o7, o8⟩, σ2, hY⟩ : ∃ o σ2, pE X σ.v σ1 = (o, σ2) := ⟨_, _, rfl⟩
  rw [hY] at HE hke ⊢
  simp only at HE hke ⊢
  obtain ⟨d, σ3, hB⟩ : ∃ d σ3, bytesM X 1 σ2 = (d, σ3) := ⟨_, _, rfl⟩
  rw [hB]
  simp only
  have HB : Hid _ := hB
  clear hB
  obtain ⟨nO, hn⟩ : ∃ nO, numO d = nO := ⟨_, rfl⟩
  rw [hn]
  have HN : Hid _ := hn
  clear hn
  have HR : Hid _ := hr
  have HKM : Hid (σ1.v = σ.v) := hkm
  have HKE : Hid (σ2.v = σ.v) := hke.trans hkm
  clear h hv ho hfl hr hf hY hkm hke newS
  go_enter Tryz.func208, Tryz.ntmps208
  try simp only [vl, vs, va, vb, vx, ol, os, oa]
  clear vl vs va vb vx ol os oa
  go_wp2_with fail
  refine cM.mono ?_; rintro e w1 ⟨rfl, hd1⟩
  have hr1 := HR.out.call hd1
  have c7 := hr1.st.c7
  simp only at c7
  have c4 := hr1.st.c4
  rw [HKM.out] at c4
  have hS1 := hr1.st.ltS
  have HR1 : Hid _ := hr1
  clear cM hd1 hr1 HR d9 hS newT
  have hIA : InQ T X w w.heap.size w1.heap.size Ins.zero σ1 (m, 7, r) 186 (w1.drew.alloc (.cells (insV Ins.zero) T)) := HR1.out.drew.own Ins.zero
  have HIA : Hid _ := hIA
  have HD : Hid (RSt X w1.drew σ1 (m, 7, r) 186) := HR1.out.drew.st
  have HS0 : Hid (w1.drew.cell? ⟨X.S, 7, none⟩ = some (.int .i64 7) ∧ w1.drew.cell? ⟨X.S, 4, none⟩ = some (.int .i64 σ.v)) := ⟨c7, c4⟩
  have HSA : Hid ((w1.alloc (.cells (insV Ins.zero) T)).drew.cell? ⟨X.S, 7, none⟩ = some (.int .i64 7) ∧ (w1.alloc (.cells (insV Ins.zero) T)).drew.cell? ⟨X.S, 4, none⟩ = some (.int .i64 σ.v)) := ⟨by have := hIA.r.st.c7; exact this, by have := hIA.r.st.c4; rw [HKM.out] at this; exact this⟩
  have HSD : Hid (∀ W W', RDn X W σ2 (m, 7, r) 186 W' → (W'.cell? ⟨X.S, 7, none⟩ = some (.int .i64 7) ∧ W'.cell? ⟨X.S, 4, none⟩ = some (.int .i64 σ.v))) := fun W W' d => ⟨d.1.c7, by have := d.1.c4; rw [HKE.out] at this; exact this⟩
  have HSI : Hid (∀ (W : World) (q : Nat) (y : Ins), InQ T X w w.heap.size q y σ2 (m, 7, r) 186 W → (W.cell? ⟨X.S, 7, none⟩ = some (.int .i64 7) ∧ W.cell? ⟨X.S, 4, none⟩ = some (.int .i64 σ.v))) := fun W q y d => ⟨d.r.st.c7, by have := d.r.st.c4; rw [HKE.out] at this; exact this⟩
  have new1 := Hv.out.newQ
  obtain ⟨u0, u1, u2, u3, u4, u5, u6, u7, u8, u9, u10, u11⟩ := ups12
  clear hIA
  go_wp2
  go_region_held3 (fun W => (W.cell? ⟨X.S, 7, none⟩ = some (.int .i64 7) ∧ W.cell? ⟨X.S, 4, none⟩ = some (.int .i64 σ.v)))
    (first | with_reducible exact HS0.out | with_reducible exact HSA.out | with_reducible exact HSD.out _ _ hd5 | exact HSI.out _ _ _ (hI5.row _) | exact HSI.out _ _ _ (hr5.own _))
    (first | (go_at_call 206; refine (HE.out _ (by first | exact HD.out | exact HIA.out.r.st)).mono ?_; rintro e w5 ⟨rfl, hd5⟩; have hS5 := hd5.1.ltS; first | (have hI5 := InQ.call HIA.out hd5; have pt5 := hI5.put Hv.out) | (have hr5 := RsQ.call HR1.out.drew hd5)))
  all_goals
    first
    | (have hI6 : InQ T X w w.heap.size w1.heap.size ((((((((((((Ins.zero.up 0 23).up 1 3).up 2 σ.v).up 3 o0).up 4 o1').up 5 o2').up 6 o3').up 7 o4).up 8 o5).up 9 o6').up 10 o7).up 11 o8) σ2 (m, 7, r) 186 (w5.setRow w1.heap.size (insV ((((((((((((Ins.zero.up 0 23).up 1 3).up 2 σ.v).up 3 o0).up 4 o1').up 5 o2').up 6 o3').up 7 o4).up 8 o5).up 9 o6').up 10 o7).up 11 o8))) := hI5.row _)
    | (have hI6 : InQ T X w w.heap.size w5.heap.size ((((((((((((Ins.zero.up 0 23).up 1 3).up 2 σ.v).up 3 o0).up 4 o1').up 5 o2').up 6 o3').up 7 o4).up 8 o5).up 9 o6').up 10 o7).up 11 o8) σ2 (m, 7, r) 186 (w5.alloc (.cells (insV ((((((((((((Ins.zero.up 0 23).up 1 3).up 2 σ.v).up 3 o0).up 4 o1').up 5 o2').up 6 o3').up 7 o4).up 8 o5).up 9 o6').up 10 o7).up 11 o8)) T)) := hr5.own _)
    have e9 := hI6.r.st.c9
    have e4 := hI6.r.st.c4
    have hSW := hI6.r.st.ltS
    have HI6 : Hid _ := hI6
    clear hI6
    go_wp2_with fail
    have cB := num_okR _ X σ2 (m, 7, r) 186 HI6.out.r.st 1 (by decide)
    rw [HB.out] at cB
    refine cB.mono ?_; rintro e w6 ⟨rfl, hd6⟩
    have hI6b := HI6.out.call hd6
    have HI6b : Hid _ := hI6b
    have e4b := hI6b.r.st.c4
    have e9b := hI6b.r.st.c9
    clear hI6b cB hd6
    go_wp2_with fail
    have cN := rImm_ok w6 d
    rw [HN.out] at cN
    refine cN.mono ?_; rintro e w7 ⟨rfl, k7⟩
    have hI7 := HI6b.out.no k7
    clear cN k7 HI6b e4b e9b
    have t7 := hI7.putB nO
    have hI8 := hI7.row { ((((((((((((Ins.zero.up 0 23).up 1 3).up 2 σ.v).up 3 o0).up 4 o1').up 5 o2').up 6 o3').up 7 o4).up 8 o5).up 9 o6').up 10 o7).up 11 o8) with b := nO }
    have g8 := Hv.out.get hI8.op
    have p8 := hI8.r.put Hv.out
    have HI8 : Hid _ := hI8
    clear hI8 hI7 HI6 e9 e4
    go_wp2
    exact bodyPost_ret (v := _) (res1 rfl _ _ w.heap.size _ rfl (HI8.out.r.got Hv.out _)) rfl ⟨rfl, HI8.out.r.fin _⟩
end Go.Proofs.YtbfccfhjgopnbaaGreat
