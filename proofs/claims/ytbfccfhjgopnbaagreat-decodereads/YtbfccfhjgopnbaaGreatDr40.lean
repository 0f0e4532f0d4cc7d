/- The document's reader, and the code's (RfDbl). -/
import Derived.Test.YtbfccfhjgopnbaaGreatDr12
set_option linter.unusedSimpArgs false
namespace Go.Proofs.YtbfccfhjgopnbaaGreat
open Go.ChangeShapes Go.WideShapes Go.ChangeAt Go.RowKit
set_option linter.unusedVariables false
set_option linter.unusedSimpArgs false
set_option maxHeartbeats 4000000
set_option maxRecDepth 20000
theorem bits_164 (w : World) (X : Cx) (σ : Sg) (f : Int × Int × Int) (h : RSt X w σ f 164) (hf : σ.fl = none) :
    Calls Tryz.prog 208 #[.pointer (some ⟨X.S, 0, none⟩)] w fun e w' => e = .returned (.agg (insV { (egM X σ.v false { Ins.zero with op := 3, sub := 0 } σ).1 with c := numO (bytesM X 1 (egM X σ.v false { Ins.zero with op := 3, sub := 0 } σ).2.1).1 })) ∧ RDn X w (bytesM X 1 (egM X σ.v false { Ins.zero with op := 3, sub := 0 } σ).2.1).2 (egM X σ.v false { Ins.zero with op := 3, sub := 0 } σ).2.2 164 w' := by
  obtain ⟨T, nI, fsI, psI, hv, Hv, ⟨vl, vs, vb, va, vx⟩, v1, v2, v3, v4, v5, v6, p0, p1, p2, p3, p4, p5, p6, p7, sz, ne⟩ := vlP
  obtain ⟨U, mU, ho, Ho, ⟨ol, os, oa⟩, o1, o2, o3, o6, so⟩ := vlOP
  have hr := RsQ.start (T := T) h
  have hS := h.ltS
  have c4 := h.c4
  have c9 := h.c9
  have Hvs : Hid (σ.v = 1 ∨ σ.v = 2 ∨ σ.v = 4) := Or.inr h.vv
  have eU : ({ Ins.zero with op := 3, sub := 0 } : Ins) = ((Ins.zero.up 0 3).up 1 0) := rfl
  rw [eU]
  have HE : Hid (∀ W, RSt X W σ f 164 → Calls Tryz.prog 203 #[.pointer (some ⟨X.S, 0, none⟩), .agg (insV ((Ins.zero.up 0 3).up 1 0)), .int .i64 σ.v, .bool false] W fun e w' => e = .returned (.agg (insV (egM X σ.v false ((Ins.zero.up 0 3).up 1 0) σ).1)) ∧ RDn X W (egM X σ.v false ((Ins.zero.up 0 3).up 1 0) σ).2.1 (egM X σ.v false ((Ins.zero.up 0 3).up 1 0) σ).2.2 164 w') := fun W hW => eg_f W X σ f 164 hW hf _ σ.v
  clear eU
  have hkv := (kept_eg X σ.v false ((Ins.zero.up 0 3).up 1 0) σ).v
  generalize (egM X σ.v false ((Ins.zero.up 0 3).up 1 0) σ) = V at *
  obtain ⟨xI, σ1, f1⟩ := V
  simp only at HE hkv ⊢
  have HKV : Hid (σ1.v = σ.v) := hkv
  clear hkv
  obtain ⟨d, σ3, hB⟩ : ∃ d σ3, bytesM X 1 σ1 = (d, σ3) := ⟨_, _, rfl⟩
  rw [hB]
  simp only
  have HB : Hid _ := hB
  clear hB
  obtain ⟨nO, hn⟩ : ∃ nO, numO d = nO := ⟨_, rfl⟩
  rw [hn]
  have HN : Hid _ := hn
  clear hn
  obtain ⟨rO, hg⟩ : ∃ rO, regO 1 1 = rO := ⟨_, rfl⟩
  skip
  have HG : Hid _ := hg
  clear hg
  have new1 := Hv.out.newQ
  have HR : Hid _ := hr
  clear h hv ho hr hf
  go_enter Tryz.func208, Tryz.ntmps208
  try simp only [vl, vs, va, vb, vx, ol, os, oa]
  clear vl vs va vb vx ol os oa
  have u0 := insUp0
  have u1 := insUp1
  have u2 := insUp2
  have newS : ∀ W : World, (storeCells ⟨W.heap.size, 0, none⟩ [.int .i64 4, .int .i64 4, .int .i64 0, .int .i64 0, .int .i64 0, .int .i64 0, .int .i64 0, .int .u32 0, .int .u32 0]).run Tryz.prog (W.alloc (.cells Opd.zero.vals U)) = .ok () (W.alloc (.cells #[.int .i64 4, .int .i64 4, .int .i64 0, .int .i64 0, .int .i64 0, .int .i64 0, .int .i64 0, .int .u32 0, .int .u32 0] U)) := fun W => Ho.out.new W _ rfl (segO 4)
  have newT := newS (w.alloc (.cells (insV Ins.zero) T))
  rw [show (w.alloc (.cells (insV Ins.zero) T)).heap.size = w.heap.size + 1 by simp] at newT
  have hre := HR.out.no (Kp.alloc noB (w.alloc (.cells (insV Ins.zero) T)) (.cells #[.int .i64 4, .int .i64 4, .int .i64 0, .int .i64 0, .int .i64 0, .int .i64 0, .int .i64 0, .int .u32 0, .int .u32 0] U))
  have HRe : Hid _ := hre
  have f4 := hre.st.c4
  have f9 := hre.st.c9
  clear hre HR newS
  go_wp2_with fail
  refine (HE.out _ HRe.out.st).mono ?_; rintro e w2 ⟨rfl, hd2⟩
  have hr2 := HRe.out.call hd2
  have hI1 := hr2.own xI
  have HI1 : Hid _ := hI1
  have e4 := hI1.r.st.c4
  rw [HKV.out] at e4
  have e9 := hI1.r.st.c9
  clear hr2 hd2 hI1 HE HRe
  go_wp2_with fail
  have cN := rReg_ok (w2.alloc (.cells (insV xI) T)) 1 1
  rw [HG.out] at cN
  refine cN.mono ?_; rintro e w5 ⟨rfl, k5⟩
  have hI5 := HI1.out.no k5
  clear cN k5 HI1 e4 e9
  have t5 := hI5.putC rO
  have hI1 := hI5.row { xI with c := rO }
  obtain ⟨q, hq⟩ : ∃ q, q = w2.heap.size := ⟨_, rfl⟩
  rw [← hq] at t5 hI1 hI5 ⊢
  clear hq hI5
  have HI1 : Hid _ := hI1
  have e9 := hI1.r.st.c9
  clear hI1
  go_wp2_with fail
  have cB := num_okR _ X σ1 f1 164 HI1.out.r.st 1 (by decide)
  rw [HB.out] at cB
  refine cB.mono ?_; rintro e w6 ⟨rfl, hd6⟩
  have hI6 := HI1.out.call hd6
  have HI6 : Hid _ := hI6
  have e4 := hI6.r.st.c4
  have e9 := hI6.r.st.c9
  clear hI6 cB hd6
  go_wp2_with fail
  have cN := rImm_ok w6 d
  rw [HN.out] at cN
  refine cN.mono ?_; rintro e w7 ⟨rfl, k7⟩
  have hI7 := HI6.out.no k7
  clear cN k7 HI6 e4 e9
  have t7 := hI7.putC nO
  have hI8 := hI7.row { ({ xI with c := rO } : Ins) with c := nO }
  have g8 := Hv.out.get hI8.op
  have p8 := hI8.r.put Hv.out
  have HI8 : Hid _ := hI8
  clear hI8
  go_wp2
  exact bodyPost_ret (v := _) (res1 rfl _ _ w.heap.size _ rfl (HI8.out.r.got Hv.out _)) rfl ⟨rfl, HI8.out.r.fin _⟩
theorem bits_165 (w : World) (X : Cx) (σ : Sg) (f : Int × Int × Int) (h : RSt X w σ f 165) (hf : σ.fl = none) :
    Calls Tryz.prog 208 #[.pointer (some ⟨X.S, 0, none⟩)] w fun e w' => e = .returned (.agg (insV { (egM X σ.v false { Ins.zero with op := 3, sub := 0 } σ).1 with c := regO 1 1 })) ∧ RDn X w (egM X σ.v false { Ins.zero with op := 3, sub := 0 } σ).2.1 (egM X σ.v false { Ins.zero with op := 3, sub := 0 } σ).2.2 165 w' := by
  obtain ⟨T, nI, fsI, psI, hv, Hv, ⟨vl, vs, vb, va, vx⟩, v1, v2, v3, v4, v5, v6, p0, p1, p2, p3, p4, p5, p6, p7, sz, ne⟩ := vlP
  obtain ⟨U, mU, ho, Ho, ⟨ol, os, oa⟩, o1, o2, o3, o6, so⟩ := vlOP
  have hr := RsQ.start (T := T) h
  have hS := h.ltS
  have c4 := h.c4
  have c9 := h.c9
  have Hvs : Hid (σ.v = 1 ∨ σ.v = 2 ∨ σ.v = 4) := Or.inr h.vv
  have eU : ({ Ins.zero with op := 3, sub := 0 } : Ins) = ((Ins.zero.up 0 3).up 1 0) := rfl
  rw [eU]
  have HE : Hid (∀ W, RSt X W σ f 165 → Calls Tryz.prog 203 #[.pointer (some ⟨X.S, 0, none⟩), .agg (insV ((Ins.zero.up 0 3).up 1 0)), .int .i64 σ.v, .bool false] W fun e w' => e = .returned (.agg (insV (egM X σ.v false ((Ins.zero.up 0 3).up 1 0) σ).1)) ∧ RDn X W (egM X σ.v false ((Ins.zero.up 0 3).up 1 0) σ).2.1 (egM X σ.v false ((Ins.zero.up 0 3).up 1 0) σ).2.2 165 w') := fun W hW => eg_f W X σ f 165 hW hf _ σ.v
  clear eU
  have hkv := (kept_eg X σ.v false ((Ins.zero.up 0 3).up 1 0) σ).v
  generalize (egM X σ.v false ((Ins.zero.up 0 3).up 1 0) σ) = V at *
  obtain ⟨xI, σ1, f1⟩ := V
  simp only at HE hkv ⊢
  have HKV : Hid (σ1.v = σ.v) := hkv
  clear hkv
  obtain ⟨rO, hg⟩ : ∃ rO, regO 1 1 = rO := ⟨_, rfl⟩
  rw [hg]
  have HG : Hid _ := hg
  clear hg
  have new1 := Hv.out.newQ
  have HR : Hid _ := hr
  clear h hv ho hr hf
  go_enter Tryz.func208, Tryz.ntmps208
  try simp only [vl, vs, va, vb, vx, ol, os, oa]
  clear vl vs va vb vx ol os oa
  have u0 := insUp0
  have u1 := insUp1
  have u2 := insUp2
  have newS : ∀ W : World, (storeCells ⟨W.heap.size, 0, none⟩ [.int .i64 4, .int .i64 4, .int .i64 0, .int .i64 0, .int .i64 0, .int .i64 0, .int .i64 0, .int .u32 0, .int .u32 0]).run Tryz.prog (W.alloc (.cells Opd.zero.vals U)) = .ok () (W.alloc (.cells #[.int .i64 4, .int .i64 4, .int .i64 0, .int .i64 0, .int .i64 0, .int .i64 0, .int .i64 0, .int .u32 0, .int .u32 0] U)) := fun W => Ho.out.new W _ rfl (segO 4)
  have newT := newS (w.alloc (.cells (insV Ins.zero) T))
  rw [show (w.alloc (.cells (insV Ins.zero) T)).heap.size = w.heap.size + 1 by simp] at newT
  have hre := HR.out.no (Kp.alloc noB (w.alloc (.cells (insV Ins.zero) T)) (.cells #[.int .i64 4, .int .i64 4, .int .i64 0, .int .i64 0, .int .i64 0, .int .i64 0, .int .i64 0, .int .u32 0, .int .u32 0] U))
  have HRe : Hid _ := hre
  have f4 := hre.st.c4
  have f9 := hre.st.c9
  clear hre HR newS
  go_wp2_with fail
  refine (HE.out _ HRe.out.st).mono ?_; rintro e w2 ⟨rfl, hd2⟩
  have hr2 := HRe.out.call hd2
  have hI1 := hr2.own xI
  have HI1 : Hid _ := hI1
  have e4 := hI1.r.st.c4
  rw [HKV.out] at e4
  have e9 := hI1.r.st.c9
  clear hr2 hd2 hI1 HE HRe
  go_wp2_with fail
  have cN := rReg_ok (w2.alloc (.cells (insV xI) T)) 1 1
  rw [HG.out] at cN
  refine cN.mono ?_; rintro e w5 ⟨rfl, k5⟩
  have hI5 := HI1.out.no k5
  clear cN k5 HI1 e4 e9
  have t5 := hI5.putC rO
  have hI1 := hI5.row { xI with c := rO }
  obtain ⟨q, hq⟩ : ∃ q, q = w2.heap.size := ⟨_, rfl⟩
  rw [← hq] at t5 hI1 hI5 ⊢
  clear hq hI5
  have HI1 : Hid _ := hI1
  have e9 := hI1.r.st.c9
  have hI8 := hI1
  clear hI1
  have g8 := Hv.out.get hI8.op
  have p8 := hI8.r.put Hv.out
  have HI8 : Hid _ := hI8
  clear hI8
  go_wp2
  exact bodyPost_ret (v := _) (res1 rfl _ _ w.heap.size _ rfl (HI8.out.r.got Hv.out _)) rfl ⟨rfl, HI8.out.r.fin _⟩
theorem bits_172 (w : World) (X : Cx) (σ : Sg) (f : Int × Int × Int) (h : RSt X w σ f 172) (hf : σ.fl = none) :
    Calls Tryz.prog 208 #[.pointer (some ⟨X.S, 0, none⟩)] w fun e w' => e = .returned (.agg (insV { (egM X σ.v false { Ins.zero with op := 3, sub := 1 } σ).1 with c := numO (bytesM X 1 (egM X σ.v false { Ins.zero with op := 3, sub := 1 } σ).2.1).1 })) ∧ RDn X w (bytesM X 1 (egM X σ.v false { Ins.zero with op := 3, sub := 1 } σ).2.1).2 (egM X σ.v false { Ins.zero with op := 3, sub := 1 } σ).2.2 172 w' := by
  obtain ⟨T, nI, fsI, psI, hv, Hv, ⟨vl, vs, vb, va, vx⟩, v1, v2, v3, v4, v5, v6, p0, p1, p2, p3, p4, p5, p6, p7, sz, ne⟩ := vlP
  obtain ⟨U, mU, ho, Ho, ⟨ol, os, oa⟩, o1, o2, o3, o6, so⟩ := vlOP
  have hr := RsQ.start (T := T) h
  have hS := h.ltS
  have c4 := h.c4
  have c9 := h.c9
  have Hvs : Hid (σ.v = 1 ∨ σ.v = 2 ∨ σ.v = 4) := Or.inr h.vv
  have eU : ({ Ins.zero with op := 3, sub := 1 } : Ins) = ((Ins.zero.up 0 3).up 1 1) := rfl
  rw [eU]
  have HE : Hid (∀ W, RSt X W σ f 172 → Calls Tryz.prog 203 #[.pointer (some ⟨X.S, 0, none⟩), .agg (insV ((Ins.zero.up 0 3).up 1 1)), .int .i64 σ.v, .bool false] W fun e w' => e = .returned (.agg (insV (egM X σ.v false ((Ins.zero.up 0 3).up 1 1) σ).1)) ∧ RDn X W (egM X σ.v false ((Ins.zero.up 0 3).up 1 1) σ).2.1 (egM X σ.v false ((Ins.zero.up 0 3).up 1 1) σ).2.2 172 w') := fun W hW => eg_f W X σ f 172 hW hf _ σ.v
  clear eU
  have hkv := (kept_eg X σ.v false ((Ins.zero.up 0 3).up 1 1) σ).v
  generalize (egM X σ.v false ((Ins.zero.up 0 3).up 1 1) σ) = V at *
  obtain ⟨xI, σ1, f1⟩ := V
  simp only at HE hkv ⊢
  have HKV : Hid (σ1.v = σ.v) := hkv
  clear hkv
  obtain ⟨d, σ3, hB⟩ : ∃ d σ3, bytesM X 1 σ1 = (d, σ3) := ⟨_, _, rfl⟩
  rw [hB]
  simp only
  have HB : Hid _ := hB
  clear hB
  obtain ⟨nO, hn⟩ : ∃ nO, numO d = nO := ⟨_, rfl⟩
  rw [hn]
  have HN : Hid _ := hn
  clear hn
  obtain ⟨rO, hg⟩ : ∃ rO, regO 1 1 = rO := ⟨_, rfl⟩
  skip
  have HG : Hid _ := hg
  clear hg
  have new1 := Hv.out.newQ
  have HR : Hid _ := hr
  clear h hv ho hr hf
  go_enter Tryz.func208, Tryz.ntmps208
  try simp only [vl, vs, va, vb, vx, ol, os, oa]
  clear vl vs va vb vx ol os oa
  have u0 := insUp0
  have u1 := insUp1
  have u2 := insUp2
  have newS : ∀ W : World, (storeCells ⟨W.heap.size, 0, none⟩ [.int .i64 4, .int .i64 4, .int .i64 0, .int .i64 0, .int .i64 0, .int .i64 0, .int .i64 0, .int .u32 0, .int .u32 0]).run Tryz.prog (W.alloc (.cells Opd.zero.vals U)) = .ok () (W.alloc (.cells #[.int .i64 4, .int .i64 4, .int .i64 0, .int .i64 0, .int .i64 0, .int .i64 0, .int .i64 0, .int .u32 0, .int .u32 0] U)) := fun W => Ho.out.new W _ rfl (segO 4)
  have newT := newS (w.alloc (.cells (insV Ins.zero) T))
  rw [show (w.alloc (.cells (insV Ins.zero) T)).heap.size = w.heap.size + 1 by simp] at newT
  have hre := HR.out.no (Kp.alloc noB (w.alloc (.cells (insV Ins.zero) T)) (.cells #[.int .i64 4, .int .i64 5, .int .i64 0, .int .i64 0, .int .i64 0, .int .i64 0, .int .i64 0, .int .u32 0, .int .u32 0] U))
  have HRe : Hid _ := hre
  have f4 := hre.st.c4
  have f9 := hre.st.c9
  clear hre HR newS
  go_wp2_with fail
  refine (HE.out _ HRe.out.st).mono ?_; rintro e w2 ⟨rfl, hd2⟩
  have hr2 := HRe.out.call hd2
  have hI1 := hr2.own xI
  have HI1 : Hid _ := hI1
  have e4 := hI1.r.st.c4
  rw [HKV.out] at e4
  have e9 := hI1.r.st.c9
  clear hr2 hd2 hI1 HE HRe
  go_wp2_with fail
  have cN := rReg_ok (w2.alloc (.cells (insV xI) T)) 1 1
  rw [HG.out] at cN
  refine cN.mono ?_; rintro e w5 ⟨rfl, k5⟩
  have hI5 := HI1.out.no k5
  clear cN k5 HI1 e4 e9
  have t5 := hI5.putC rO
  have hI1 := hI5.row { xI with c := rO }
  obtain ⟨q, hq⟩ : ∃ q, q = w2.heap.size := ⟨_, rfl⟩
  rw [← hq] at t5 hI1 hI5 ⊢
  clear hq hI5
  have HI1 : Hid _ := hI1
  have e9 := hI1.r.st.c9
  clear hI1
  go_wp2_with fail
  have cB := num_okR _ X σ1 f1 172 HI1.out.r.st 1 (by decide)
  rw [HB.out] at cB
  refine cB.mono ?_; rintro e w6 ⟨rfl, hd6⟩
  have hI6 := HI1.out.call hd6
  have HI6 : Hid _ := hI6
  have e4 := hI6.r.st.c4
  have e9 := hI6.r.st.c9
  clear hI6 cB hd6
  go_wp2_with fail
  have cN := rImm_ok w6 d
  rw [HN.out] at cN
  refine cN.mono ?_; rintro e w7 ⟨rfl, k7⟩
  have hI7 := HI6.out.no k7
  clear cN k7 HI6 e4 e9
  have t7 := hI7.putC nO
  have hI8 := hI7.row { ({ xI with c := rO } : Ins) with c := nO }
  have g8 := Hv.out.get hI8.op
  have p8 := hI8.r.put Hv.out
  have HI8 : Hid _ := hI8
  clear hI8
  go_wp2
  exact bodyPost_ret (v := _) (res1 rfl _ _ w.heap.size _ rfl (HI8.out.r.got Hv.out _)) rfl ⟨rfl, HI8.out.r.fin _⟩
theorem bits_173 (w : World) (X : Cx) (σ : Sg) (f : Int × Int × Int) (h : RSt X w σ f 173) (hf : σ.fl = none) :
    Calls Tryz.prog 208 #[.pointer (some ⟨X.S, 0, none⟩)] w fun e w' => e = .returned (.agg (insV { (egM X σ.v false { Ins.zero with op := 3, sub := 1 } σ).1 with c := regO 1 1 })) ∧ RDn X w (egM X σ.v false { Ins.zero with op := 3, sub := 1 } σ).2.1 (egM X σ.v false { Ins.zero with op := 3, sub := 1 } σ).2.2 173 w' := by
  obtain ⟨T, nI, fsI, psI, hv, Hv, ⟨vl, vs, vb, va, vx⟩, v1, v2, v3, v4, v5, v6, p0, p1, p2, p3, p4, p5, p6, p7, sz, ne⟩ := vlP
  obtain ⟨U, mU, ho, Ho, ⟨ol, os, oa⟩, o1, o2, o3, o6, so⟩ := vlOP
  have hr := RsQ.start (T := T) h
  have hS := h.ltS
  have c4 := h.c4
  have c9 := h.c9
  have Hvs : Hid (σ.v = 1 ∨ σ.v = 2 ∨ σ.v = 4) := Or.inr h.vv
  have eU : ({ Ins.zero with op := 3, sub := 1 } : Ins) = ((Ins.zero.up 0 3).up 1 1) := rfl
  rw [eU]
  have HE : Hid (∀ W, RSt X W σ f 173 → Calls Tryz.prog 203 #[.pointer (some ⟨X.S, 0, none⟩), .agg (insV ((Ins.zero.up 0 3).up 1 1)), .int .i64 σ.v, .bool false] W fun e w' => e = .returned (.agg (insV (egM X σ.v false ((Ins.zero.up 0 3).up 1 1) σ).1)) ∧ RDn X W (egM X σ.v false ((Ins.zero.up 0 3).up 1 1) σ).2.1 (egM X σ.v false ((Ins.zero.up 0 3).up 1 1) σ).2.2 173 w') := fun W hW => eg_f W X σ f 173 hW hf _ σ.v
  clear eU
  have hkv := (kept_eg X σ.v false ((Ins.zero.up 0 3).up 1 1) σ).v
  generalize (egM X σ.v false ((Ins.zero.up 0 3).up 1 1) σ) = V at *
  obtain ⟨xI, σ1, f1⟩ := V
  simp only at HE hkv ⊢
  have HKV : Hid (σ1.v = σ.v) := hkv
  clear hkv
  obtain ⟨rO, hg⟩ : ∃ rO, regO 1 1 = rO := ⟨_, rfl⟩
  rw [hg]
  have HG : Hid _ := hg
  clear hg
  have new1 := Hv.out.newQ
  have HR : Hid _ := hr
  clear h hv ho hr hf
  go_enter Tryz.func208, Tryz.ntmps208
  try simp only [vl, vs, va, vb, vx, ol, os, oa]
  clear vl vs va vb vx ol os oa
  have u0 := insUp0
  have u1 := insUp1
  have u2 := insUp2
  have newS : ∀ W : World, (storeCells ⟨W.heap.size, 0, none⟩ [.int .i64 4, .int .i64 4, .int .i64 0, .int .i64 0, .int .i64 0, .int .i64 0, .int .i64 0, .int .u32 0, .int .u32 0]).run Tryz.prog (W.alloc (.cells Opd.zero.vals U)) = .ok () (W.alloc (.cells #[.int .i64 4, .int .i64 4, .int .i64 0, .int .i64 0, .int .i64 0, .int .i64 0, .int .i64 0, .int .u32 0, .int .u32 0] U)) := fun W => Ho.out.new W _ rfl (segO 4)
  have newT := newS (w.alloc (.cells (insV Ins.zero) T))
  rw [show (w.alloc (.cells (insV Ins.zero) T)).heap.size = w.heap.size + 1 by simp] at newT
  have hre := HR.out.no (Kp.alloc noB (w.alloc (.cells (insV Ins.zero) T)) (.cells #[.int .i64 4, .int .i64 5, .int .i64 0, .int .i64 0, .int .i64 0, .int .i64 0, .int .i64 0, .int .u32 0, .int .u32 0] U))
  have HRe : Hid _ := hre
  have f4 := hre.st.c4
  have f9 := hre.st.c9
  clear hre HR newS
  go_wp2_with fail
  refine (HE.out _ HRe.out.st).mono ?_; rintro e w2 ⟨rfl, hd2⟩
  have hr2 := HRe.out.call hd2
  have hI1 := hr2.own xI
  have HI1 : Hid _ := hI1
  have e4 := hI1.r.st.c4
  rw [HKV.out] at e4
  have e9 := hI1.r.st.c9
  clear hr2 hd2 hI1 HE HRe
  go_wp2_with fail
  have cN := rReg_ok (w2.alloc (.cells (insV xI) T)) 1 1
  rw [HG.out] at cN
  refine cN.mono ?_; rintro e w5 ⟨rfl, k5⟩
  have hI5 := HI1.out.no k5
  clear cN k5 HI1 e4 e9
  have t5 := hI5.putC rO
  have hI1 := hI5.row { xI with c := rO }
  obtain ⟨q, hq⟩ : ∃ q, q = w2.heap.size := ⟨_, rfl⟩
  rw [← hq] at t5 hI1 hI5 ⊢
  clear hq hI5
  have HI1 : Hid _ := hI1
  have e9 := hI1.r.st.c9
  have hI8 := hI1
  clear hI1
  have g8 := Hv.out.get hI8.op
  have p8 := hI8.r.put Hv.out
  have HI8 : Hid _ := hI8
  clear hI8
  go_wp2
  exact bodyPost_ret (v := _) (res1 rfl _ _ w.heap.size _ rfl (HI8.out.r.got Hv.out _)) rfl ⟨rfl, HI8.out.r.fin _⟩
end Go.Proofs.YtbfccfhjgopnbaaGreat
