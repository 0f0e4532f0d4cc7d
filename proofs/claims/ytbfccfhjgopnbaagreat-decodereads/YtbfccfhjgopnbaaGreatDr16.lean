/- The document's reader, and the code's (RfTwo2, RfTwo3). -/
import Derived.Test.YtbfccfhjgopnbaaGreatDr26
import Derived.Test.YtbfccfhjgopnbaaGreatDr12
import Derived.Test.YtbfccfhjgopnbaaGreatDr37
set_option linter.unusedSimpArgs false
namespace Go.Proofs.YtbfccfhjgopnbaaGreat
open Go.ChangeShapes Go.WideShapes Go.ChangeAt Go.RowKit
set_option linter.unusedVariables false
set_option linter.unusedSimpArgs false
set_option maxHeartbeats 4000000
set_option maxRecDepth 20000
theorem two_bitsL (w : World) (X : Cx) (σ : Sg) (f : Int × Int × Int) (h : RSt X w σ f 15) (hf : σ.fl = none) (he : (take X σ).2.err = 0) (hc : ∀ k ∈ [0, 1, 6, 32, 34, 175, 188, 189, 182, 183, 190, 191], (take X σ).1 ≠ (k : Int)) (hd : (take X σ).1 / 16 ≠ 4 ∧ (take X σ).1 / 16 ≠ 8 ∧ (take X σ).1 / 16 ≠ 9) (hl : (take X σ).1 < 200) (xI : Ins) (σ2 : Sg) (f2 : Int × Int × Int) (HB : ∀ W, RSt X W (take X σ).2 f (take X σ).1 → Calls Tryz.prog 208 #[.pointer (some ⟨X.S, 0, none⟩)] W fun e w' => e = .returned (.agg (insV xI)) ∧ RDn X W σ2 f2 (take X σ).1 w') :
    Calls Tryz.prog 21 #[.pointer (some ⟨X.S, 0, none⟩)] w fun e w' => e = .returned (.agg (insV xI)) ∧ RDn X w σ2 f2 (take X σ).1 w' := by
  obtain ⟨T, nI, fsI, psI, hv, Hv, ⟨vl, vs, vb, va, vx⟩, v1, v2, v3, v4, v5, v6, p0, p1, p2, p3, p4, p5, p6, p7, sz, ne⟩ := vlP
  have hr := RsQ.start (T := T) h
  have hS := h.ltS
  have cT := next_ok _ X σ f 15 hr.st
  have hb := rtake_bd h
  have hfl := (take_fl X σ).trans hf
  have hkv := (kept_take X σ).v
  generalize take X σ = Y at *
  obtain ⟨c, σ1⟩ := Y
  simp only at *
  skip
  have hb0 := hb.1
  have hb1 := hb.2
  simp only [List.mem_cons, List.not_mem_nil, or_false, forall_eq_or_imp, forall_eq] at hc
  have n0 : (c == 0) = false := by simp; omega
  have n1 : (c == 1) = false := by simp; omega
  have n2 : (c == 6) = false := by simp; omega
  have n3 : (c == 32) = false := by simp; omega
  have n4 : (c == 34) = false := by simp; omega
  have n5 : (c / 16 == 4) = false := by simp; omega
  have n6 : (c / 16 == 8) = false := by simp; omega
  have n7 : (c / 16 == 9) = false := by simp; omega
  have n8 : (c == 175) = false := by simp; omega
  have n9 : (c == 188) = false := by simp; omega
  have n10 : (c == 189) = false := by simp; omega
  have n11 : (c == 182) = false := by simp; omega
  have n12 : (c == 183) = false := by simp; omega
  have n13 : (c == 190) = false := by simp; omega
  have n14 : (c == 191) = false := by simp; omega
  have hg : ¬ 200 ≤ c := by omega
  clear hc hd
  have HR : Hid _ := hr
  have HKV : Hid (σ1.v = σ.v) := hkv
  have HFL : Hid (σ1.fl = none) := hfl
  clear h hv hr hf hkv hfl
  go_enter Tryz.func21, Tryz.ntmps21
  try simp only [vl, vs, va, vb, vx]
  clear vl vs va vb vx
  obtain ⟨u0, u1, u2, u3, u4, u5, u6, u7, u8, u9, u10, u11, u12, u13, u14, u15, u16, u17, u18, u19, u20⟩ := ups21
  go_wp2_with fail
  refine cT.mono ?_; rintro e w1 ⟨rfl, hd1⟩
  have hr1 := HR.out.call hd1
  have z9 := hr1.st.fz 9
  have y9 := hr1.st.c9
  have hS1 := hr1.st.ltS
  have HR1 : Hid _ := hr1
  clear cT hd1 hr1 HR hS
  go_upto_region 2 with fail
  have hr2 := HR1.out.code c
  obtain ⟨w2, hgen⟩ : ∃ W, W = w1.setCell ⟨X.S, 9, none⟩ (.int .i64 c) := ⟨_, rfl⟩
  rw [← hgen] at hr2 ⊢
  clear hgen z9 y9 HR1 hS1
  have c9 := hr2.st.c9
  have c2 := hr2.st.c2
  rw [he] at c2
  have c4 := hr2.st.c4
  rw [HKV.out] at c4
  have hS2 := hr2.st.ltS
  have pt2 := hr2.put Hv.out
  have HR2 : Hid _ := hr2
  clear hr2
  have HBB : Hid _ := HB
  clear HB
  go_wp2_with fail
  refine (HBB.out _ HR2.out.st).mono ?_; rintro e w5 ⟨rfl, hd5⟩
  have hr5 := HR2.out.call hd5
  have pt5 := hr5.put Hv.out
  have HRE : Hid _ := hr5
  clear hd5 hr5
  go_wp2
  exact bodyPost_ret (v := _) (res1 rfl _ _ w.heap.size _ rfl (HRE.out.got Hv.out _)) rfl ⟨rfl, HRE.out.fin _⟩
theorem two_bitsH (w : World) (X : Cx) (σ : Sg) (f : Int × Int × Int) (h : RSt X w σ f 15) (hf : σ.fl = none) (he : (take X σ).2.err = 0) (hc : ∀ k ∈ [0, 1, 6, 32, 34, 175, 188, 189, 182, 183, 190, 191], (take X σ).1 ≠ (k : Int)) (hd : (take X σ).1 / 16 ≠ 4 ∧ (take X σ).1 / 16 ≠ 8 ∧ (take X σ).1 / 16 ≠ 9) (hl : 208 ≤ (take X σ).1) (xI : Ins) (σ2 : Sg) (f2 : Int × Int × Int) (HB : ∀ W, RSt X W (take X σ).2 f (take X σ).1 → Calls Tryz.prog 208 #[.pointer (some ⟨X.S, 0, none⟩)] W fun e w' => e = .returned (.agg (insV xI)) ∧ RDn X W σ2 f2 (take X σ).1 w') :
    Calls Tryz.prog 21 #[.pointer (some ⟨X.S, 0, none⟩)] w fun e w' => e = .returned (.agg (insV xI)) ∧ RDn X w σ2 f2 (take X σ).1 w' := by
  obtain ⟨T, nI, fsI, psI, hv, Hv, ⟨vl, vs, vb, va, vx⟩, v1, v2, v3, v4, v5, v6, p0, p1, p2, p3, p4, p5, p6, p7, sz, ne⟩ := vlP
  have hr := RsQ.start (T := T) h
  have hS := h.ltS
  have cT := next_ok _ X σ f 15 hr.st
  have hb := rtake_bd h
  have hfl := (take_fl X σ).trans hf
  have hkv := (kept_take X σ).v
  generalize take X σ = Y at *
  obtain ⟨c, σ1⟩ := Y
  simp only at *
  skip
  have hb0 := hb.1
  have hb1 := hb.2
  simp only [List.mem_cons, List.not_mem_nil, or_false, forall_eq_or_imp, forall_eq] at hc
  have n0 : (c == 0) = false := by simp; omega
  have n1 : (c == 1) = false := by simp; omega
  have n2 : (c == 6) = false := by simp; omega
  have n3 : (c == 32) = false := by simp; omega
  have n4 : (c == 34) = false := by simp; omega
  have n5 : (c / 16 == 4) = false := by simp; omega
  have n6 : (c / 16 == 8) = false := by simp; omega
  have n7 : (c / 16 == 9) = false := by simp; omega
  have n8 : (c == 175) = false := by simp; omega
  have n9 : (c == 188) = false := by simp; omega
  have n10 : (c == 189) = false := by simp; omega
  have n11 : (c == 182) = false := by simp; omega
  have n12 : (c == 183) = false := by simp; omega
  have n13 : (c == 190) = false := by simp; omega
  have n14 : (c == 191) = false := by simp; omega
  have hg : 200 ≤ c := by omega
  have hg2 : ¬ c < 208 := by omega
  clear hc hd
  have HR : Hid _ := hr
  have HKV : Hid (σ1.v = σ.v) := hkv
  have HFL : Hid (σ1.fl = none) := hfl
  clear h hv hr hf hkv hfl
  go_enter Tryz.func21, Tryz.ntmps21
  try simp only [vl, vs, va, vb, vx]
  clear vl vs va vb vx
  obtain ⟨u0, u1, u2, u3, u4, u5, u6, u7, u8, u9, u10, u11, u12, u13, u14, u15, u16, u17, u18, u19, u20⟩ := ups21
  go_wp2_with fail
  refine cT.mono ?_; rintro e w1 ⟨rfl, hd1⟩
  have hr1 := HR.out.call hd1
  have z9 := hr1.st.fz 9
  have y9 := hr1.st.c9
  have hS1 := hr1.st.ltS
  have HR1 : Hid _ := hr1
  clear cT hd1 hr1 HR hS
  go_upto_region 2 with fail
  have hr2 := HR1.out.code c
  obtain ⟨w2, hgen⟩ : ∃ W, W = w1.setCell ⟨X.S, 9, none⟩ (.int .i64 c) := ⟨_, rfl⟩
  rw [← hgen] at hr2 ⊢
  clear hgen z9 y9 HR1 hS1
  have c9 := hr2.st.c9
  have c2 := hr2.st.c2
  rw [he] at c2
  have c4 := hr2.st.c4
  rw [HKV.out] at c4
  have hS2 := hr2.st.ltS
  have pt2 := hr2.put Hv.out
  have HR2 : Hid _ := hr2
  clear hr2
  have HBB : Hid _ := HB
  clear HB
  go_wp2_with fail
  refine (HBB.out _ HR2.out.st).mono ?_; rintro e w5 ⟨rfl, hd5⟩
  have hr5 := HR2.out.call hd5
  have pt5 := hr5.put Hv.out
  have HRE : Hid _ := hr5
  clear hd5 hr5
  go_wp2
  exact bodyPost_ret (v := _) (res1 rfl _ _ w.heap.size _ rfl (HRE.out.got Hv.out _)) rfl ⟨rfl, HRE.out.fin _⟩
theorem two_jcc (w : World) (X : Cx) (σ : Sg) (f : Int × Int × Int) (h : RSt X w σ f 15) (hf : σ.fl = none) (he : (take X σ).2.err = 0) (hc : (take X σ).1 / 16 = 8) :
    Calls Tryz.prog 21 #[.pointer (some ⟨X.S, 0, none⟩)] w fun e w' => e = .returned (.agg (insV { Ins.zero with op := 28, sub := (take X σ).1 % 16, size := σ.v, a := relO (sgnM σ.v (bytesM X σ.v (take X σ).2).1) })) ∧ RDn X w (bytesM X σ.v (take X σ).2).2 f (take X σ).1 w' := by
  obtain ⟨T, nI, fsI, psI, hv, Hv, ⟨vl, vs, vb, va, vx⟩, v1, v2, v3, v4, v5, v6, p0, p1, p2, p3, p4, p5, p6, p7, sz, ne⟩ := vlP
  have hr := RsQ.start (T := T) h
  have hS := h.ltS
  have cT := next_ok _ X σ f 15 hr.st
  have hb := rtake_bd h
  have hfl := (take_fl X σ).trans hf
  have hkv := (kept_take X σ).v
  generalize take X σ = Y at *
  obtain ⟨c, σ1⟩ := Y
  simp only at *
  skip
  have hb0 := hb.1
  have hb1 := hb.2
  have n0 : (c == 0) = false := by simp; omega
  have n1 : (c == 1) = false := by simp; omega
  have n2 : (c == 6) = false := by simp; omega
  have n3 : (c == 32) = false := by simp; omega
  have n4 : (c == 34) = false := by simp; omega
  have n5 : (c / 16 == 4) = false := by simp; omega
  have t1 : (c / 16 == 8) = true := by simp; omega
  have td : c.tdiv 16 = c / 16 := Int.tdiv_eq_ediv_of_nonneg hb0
  have tm : c.tmod 16 = c % 16 := Int.tmod_eq_emod_of_nonneg hb0
  have HG : Hid (∀ W, RSt X W σ1 f c → _) := fun W hW => signed_okR W X σ1 f c hW σ.v (Or.inr (h.vv))
  have hkb := (kept_bytes X σ.v σ1).v
  obtain ⟨d, σ3, hB⟩ : ∃ d σ3, bytesM X σ.v σ1 = (d, σ3) := ⟨_, _, rfl⟩
  rw [hB] at HG hkb ⊢
  simp only at HG hkb ⊢
  have HKB : Hid (σ3.v = σ.v) := hkb.trans hkv
  clear hB hkb
  have HR : Hid _ := hr
  have HKV : Hid (σ1.v = σ.v) := hkv
  have HFL : Hid (σ1.fl = none) := hfl
  clear h hv hr hf hkv hfl
  go_enter Tryz.func21, Tryz.ntmps21
  try simp only [vl, vs, va, vb, vx]
  clear vl vs va vb vx
  obtain ⟨u0, u1, u2, u3, u4, u5, u6, u7, u8, u9, u10, u11, u12, u13, u14, u15, u16, u17, u18, u19, u20⟩ := ups21
  go_wp2_with fail
  refine cT.mono ?_; rintro e w1 ⟨rfl, hd1⟩
  have hr1 := HR.out.call hd1
  have z9 := hr1.st.fz 9
  have y9 := hr1.st.c9
  have hS1 := hr1.st.ltS
  have HR1 : Hid _ := hr1
  clear cT hd1 hr1 HR hS
  go_upto_region 2 with fail
  have hr2 := HR1.out.code c
  obtain ⟨w2, hgen⟩ : ∃ W, W = w1.setCell ⟨X.S, 9, none⟩ (.int .i64 c) := ⟨_, rfl⟩
  rw [← hgen] at hr2 ⊢
  clear hgen z9 y9 HR1 hS1
  have c9 := hr2.st.c9
  have c2 := hr2.st.c2
  rw [he] at c2
  have c4 := hr2.st.c4
  rw [HKV.out] at c4
  have hS2 := hr2.st.ltS
  have pt2 := hr2.put Hv.out
  have HR2 : Hid _ := hr2
  clear hr2
  go_upto_region 10 with fail
  have hrD := HR2.out.drew
  have HRD : Hid _ := hrD
  have HS0 : Hid (w2.drew.cell? ⟨X.S, 4, none⟩ = some (.int .i64 σ.v)) := c4
  have HSR : Hid (∀ W, RSt X W σ3 f c → (W.cell? ⟨X.S, 4, none⟩ = some (.int .i64 σ.v))) := fun W hW => by have := hW.c4; rw [HKB.out] at this; exact this
  clear hrD
  go_region_held3 (fun W => (W.cell? ⟨X.S, 4, none⟩ = some (.int .i64 σ.v)))
    (first | with_reducible exact HS0.out | with_reducible exact HSR.out _ st5 | exact HSR.out _ (st6 _))
    (first | (go_at_call 204; refine (HG.out _ HRD.out.st).mono ?_; rintro e w5 ⟨rfl, hd5⟩; have hr5 := RsQ.call HRD.out hd5; have pt5 := hr5.put Hv.out; have st5 : RSt X w5 σ3 f c := hd5.1; have st6 := fun y => (hr5.fin y).1))
  all_goals
    go_wp2
    exact bodyPost_ret (v := _) (res1 rfl _ _ w.heap.size _ rfl (hr5.got Hv.out _)) rfl ⟨rfl, hr5.fin _⟩
theorem two_set (w : World) (X : Cx) (σ : Sg) (f : Int × Int × Int) (h : RSt X w σ f 15) (hf : σ.fl = none) (he : (take X σ).2.err = 0) (hc : (take X σ).1 / 16 = 9) :
    Calls Tryz.prog 21 #[.pointer (some ⟨X.S, 0, none⟩)] w fun e w' => e = .returned (.agg (insV { Ins.zero with op := 25, sub := (take X σ).1 % 16, size := 1, a := (pE X 1 (modrm X (take X σ).2).2).1 })) ∧ RDn X w (pE X 1 (modrm X (take X σ).2).2).2 (modrm X (take X σ).2).1 (take X σ).1 w' := by
  obtain ⟨T, nI, fsI, psI, hv, Hv, ⟨vl, vs, vb, va, vx⟩, v1, v2, v3, v4, v5, v6, p0, p1, p2, p3, p4, p5, p6, p7, sz, ne⟩ := vlP
  have hr := RsQ.start (T := T) h
  have hS := h.ltS
  have cT := next_ok _ X σ f 15 hr.st
  have hb := rtake_bd h
  have hfl := (take_fl X σ).trans hf
  have hkv := (kept_take X σ).v
  generalize take X σ = Y at *
  obtain ⟨c, σ1⟩ := Y
  simp only at *
  skip
  have hb0 := hb.1
  have hb1 := hb.2
  have n0 : (c == 0) = false := by simp; omega
  have n1 : (c == 1) = false := by simp; omega
  have n2 : (c == 6) = false := by simp; omega
  have n3 : (c == 32) = false := by simp; omega
  have n4 : (c == 34) = false := by simp; omega
  have n5 : (c / 16 == 4) = false := by simp; omega
  have n6 : (c / 16 == 8) = false := by simp; omega
  have t1 : (c / 16 == 9) = true := by simp; omega
  have td : c.tdiv 16 = c / 16 := Int.tdiv_eq_ediv_of_nonneg hb0
  have tm : c.tmod 16 = c % 16 := Int.tmod_eq_emod_of_nonneg hb0
  have hML := fun W (hW : RSt X W σ1 f c) => rmodrm_ok W X σ1 f c hW hfl
  have hKM := (kept_modrm X σ1).v
  have hFL := fun W (hW : RSt X W σ1 f c) => rmodrm_fl hW hfl
  generalize modrm X σ1 = Z at *
  obtain ⟨⟨m, k, r⟩, σ2⟩ := Z
  simp only at hML hKM hFL ⊢
  have HML : Hid _ := hML
  have HFM : Hid _ := hFL
  have hKE := (kept_E X 1 σ2).v
  have HE : Hid (∀ W, RSt X W σ2 (m, k, r) c → (σ2.fl = some (m, k, r) ∧ (0 ≤ m ∧ m < 4)) → _) := fun W hW hx => e_lit W X σ2 (m, k, r) c hW hx.1 hx.2 1
  obtain ⟨⟨o0, o1', o2', o3', o4, o5, o6', o7, o8⟩, σ3, hY⟩ : ∃ o σ3, pE X 1 σ2 = (o, σ3) := ⟨_, _, rfl⟩
  rw [hY] at HE hKE ⊢
  simp only at HE hKE ⊢
  have HKM : Hid (σ2.v = σ.v) := hKM.trans hkv
  have HKE : Hid (σ3.v = σ.v) := hKE.trans (hKM.trans hkv)
  clear hY hKE hKM hML hFL
  have HR : Hid _ := hr
  have HKV : Hid (σ1.v = σ.v) := hkv
  have HFL : Hid (σ1.fl = none) := hfl
  clear h hv hr hf hkv hfl
  go_enter Tryz.func21, Tryz.ntmps21
  try simp only [vl, vs, va, vb, vx]
  clear vl vs va vb vx
  obtain ⟨u0, u1, u2, u3, u4, u5, u6, u7, u8, u9, u10, u11, u12, u13, u14, u15, u16, u17, u18, u19, u20⟩ := ups21
  go_wp2_with fail
  refine cT.mono ?_; rintro e w1 ⟨rfl, hd1⟩
  have hr1 := HR.out.call hd1
  have z9 := hr1.st.fz 9
  have y9 := hr1.st.c9
  have hS1 := hr1.st.ltS
  have HR1 : Hid _ := hr1
  clear cT hd1 hr1 HR hS
  go_upto_region 2 with fail
  have hr2 := HR1.out.code c
  obtain ⟨w2, hgen⟩ : ∃ W, W = w1.setCell ⟨X.S, 9, none⟩ (.int .i64 c) := ⟨_, rfl⟩
  rw [← hgen] at hr2 ⊢
  clear hgen z9 y9 HR1 hS1
  have c9 := hr2.st.c9
  have c2 := hr2.st.c2
  rw [he] at c2
  have c4 := hr2.st.c4
  rw [HKV.out] at c4
  have hS2 := hr2.st.ltS
  have pt2 := hr2.put Hv.out
  have HR2 : Hid _ := hr2
  clear hr2
  have hx := HFM.out _ HR2.out.st
  go_wp2_with fail
  refine (HML.out _ HR2.out.st).mono ?_; rintro e w3 ⟨rfl, hd3⟩
  have HR3 : Hid _ := HR2.out.call hd3
  clear hd3
  go_wp2_with fail
  refine (HE.out _ HR3.out.st ⟨hx.1, hx.2.1⟩).mono ?_; rintro e w5 ⟨rfl, hd5⟩
  have hr5 := HR3.out.call hd5
  have pt5 := hr5.put Hv.out
  have HRE : Hid _ := hr5
  clear hd5 hr5
  go_wp2
  exact bodyPost_ret (v := _) (res1 rfl _ _ w.heap.size _ rfl (HRE.out.got Hv.out _)) rfl ⟨rfl, HRE.out.fin _⟩
theorem two_bswap (w : World) (X : Cx) (σ : Sg) (f : Int × Int × Int) (h : RSt X w σ f 15) (hf : σ.fl = none) (he : (take X σ).2.err = 0) (hc : 200 ≤ (take X σ).1 ∧ (take X σ).1 < 208) :
    Calls Tryz.prog 21 #[.pointer (some ⟨X.S, 0, none⟩)] w fun e w' => e = .returned (.agg (insV { Ins.zero with op := 22, size := 4, a := regO ((take X σ).1 % 8) 4 })) ∧ RDn X w (take X σ).2 f (take X σ).1 w' := by
  obtain ⟨T, nI, fsI, psI, hv, Hv, ⟨vl, vs, vb, va, vx⟩, v1, v2, v3, v4, v5, v6, p0, p1, p2, p3, p4, p5, p6, p7, sz, ne⟩ := vlP
  have hr := RsQ.start (T := T) h
  have hS := h.ltS
  have cT := next_ok _ X σ f 15 hr.st
  have hb := rtake_bd h
  have hfl := (take_fl X σ).trans hf
  have hkv := (kept_take X σ).v
  generalize take X σ = Y at *
  obtain ⟨c, σ1⟩ := Y
  simp only at *
  skip
  have hb0 := hb.1
  have hb1 := hb.2
  obtain ⟨hc1, hc2⟩ := hc
  have n0 : (c == 0) = false := by simp; omega
  have n1 : (c == 1) = false := by simp; omega
  have n2 : (c == 6) = false := by simp; omega
  have n3 : (c == 32) = false := by simp; omega
  have n4 : (c == 34) = false := by simp; omega
  have n5 : (c / 16 == 4) = false := by simp; omega
  have n6 : (c / 16 == 8) = false := by simp; omega
  have n7 : (c / 16 == 9) = false := by simp; omega
  have n8 : (c == 175) = false := by simp; omega
  have n9 : (c == 188) = false := by simp; omega
  have n10 : (c == 189) = false := by simp; omega
  have n11 : (c == 182) = false := by simp; omega
  have n12 : (c == 183) = false := by simp; omega
  have n13 : (c == 190) = false := by simp; omega
  have n14 : (c == 191) = false := by simp; omega
  have td : c.tdiv 16 = c / 16 := Int.tdiv_eq_ediv_of_nonneg hb0
  have tm : c.tmod 16 = c % 16 := Int.tmod_eq_emod_of_nonneg hb0
  have tm8 : c.tmod 8 = c % 8 := Int.tmod_eq_emod_of_nonneg hb0
  have HR : Hid _ := hr
  have HKV : Hid (σ1.v = σ.v) := hkv
  have HFL : Hid (σ1.fl = none) := hfl
  clear h hv hr hf hkv hfl
  go_enter Tryz.func21, Tryz.ntmps21
  try simp only [vl, vs, va, vb, vx]
  clear vl vs va vb vx
  obtain ⟨u0, u1, u2, u3, u4, u5, u6, u7, u8, u9, u10, u11, u12, u13, u14, u15, u16, u17, u18, u19, u20⟩ := ups21
  go_wp2_with fail
  refine cT.mono ?_; rintro e w1 ⟨rfl, hd1⟩
  have hr1 := HR.out.call hd1
  have z9 := hr1.st.fz 9
  have y9 := hr1.st.c9
  have hS1 := hr1.st.ltS
  have HR1 : Hid _ := hr1
  clear cT hd1 hr1 HR hS
  go_upto_region 2 with fail
  have hr2 := HR1.out.code c
  obtain ⟨w2, hgen⟩ : ∃ W, W = w1.setCell ⟨X.S, 9, none⟩ (.int .i64 c) := ⟨_, rfl⟩
  rw [← hgen] at hr2 ⊢
  clear hgen z9 y9 HR1 hS1
  have c9 := hr2.st.c9
  have c2 := hr2.st.c2
  rw [he] at c2
  have c4 := hr2.st.c4
  rw [HKV.out] at c4
  have hS2 := hr2.st.ltS
  have pt2 := hr2.put Hv.out
  have HR2 : Hid _ := hr2
  clear hr2
  go_wp2_with fail
  refine (reg_lit _ (c % 8) 4).mono ?_; rintro e w5 ⟨rfl, k5⟩
  have hr5 := HR2.out.no k5
  have pt5 := hr5.put Hv.out
  have HRE : Hid _ := hr5
  clear k5 hr5
  go_wp2
  exact bodyPost_ret (v := _) (res1 rfl _ _ w.heap.size _ rfl (HRE.out.got Hv.out _)) rfl ⟨rfl, HRE.out.fin _⟩
end Go.Proofs.YtbfccfhjgopnbaaGreat
namespace Go.Proofs.YtbfccfhjgopnbaaGreat
open Go.ChangeShapes Go.WideShapes Go.ChangeAt Go.RowKit
set_option linter.unusedVariables false
set_option linter.unusedSimpArgs false
set_option maxHeartbeats 4000000
set_option maxRecDepth 20000
theorem two_movx182 (w : World) (X : Cx) (σ : Sg) (f : Int × Int × Int) (h : RSt X w σ f 15) (hf : σ.fl = none) (he : (take X σ).2.err = 0) (hc : (take X σ).1 = 182) :
    Calls Tryz.prog 21 #[.pointer (some ⟨X.S, 0, none⟩)] w fun e w' => e = .returned (.agg (insV { Ins.zero with op := 9, sub := 0, size := σ.v, a := regO (modrm X (take X σ).2).1.2.1 σ.v, b := (pE X 1 (modrm X (take X σ).2).2).1 })) ∧ RDn X w (pE X 1 (modrm X (take X σ).2).2).2 (modrm X (take X σ).2).1 (take X σ).1 w' := by
  obtain ⟨T, nI, fsI, psI, hv, Hv, ⟨vl, vs, vb, va, vx⟩, v1, v2, v3, v4, v5, v6, p0, p1, p2, p3, p4, p5, p6, p7, sz, ne⟩ := vlP
  have hr := RsQ.start (T := T) h
  have hS := h.ltS
  have cT := next_ok _ X σ f 15 hr.st
  have hb := rtake_bd h
  have hfl := (take_fl X σ).trans hf
  have hkv := (kept_take X σ).v
  generalize take X σ = Y at *
  obtain ⟨c, σ1⟩ := Y
  simp only at *
  subst hc
  have hML := fun W (hW : RSt X W σ1 f 182) => rmodrm_ok W X σ1 f 182 hW hfl
  have hKM := (kept_modrm X σ1).v
  have hFL := fun W (hW : RSt X W σ1 f 182) => rmodrm_fl hW hfl
  generalize modrm X σ1 = Z at *
  obtain ⟨⟨m, k, r⟩, σ2⟩ := Z
  simp only at hML hKM hFL ⊢
  have HML : Hid _ := hML
  have HFM : Hid _ := hFL
  have hKE := (kept_E X 1 σ2).v
  have HE : Hid (∀ W, RSt X W σ2 (m, k, r) 182 → (σ2.fl = some (m, k, r) ∧ (0 ≤ m ∧ m < 4)) → _) := fun W hW hx => e_lit W X σ2 (m, k, r) 182 hW hx.1 hx.2 1
  obtain ⟨⟨o0, o1', o2', o3', o4, o5, o6', o7, o8⟩, σ3, hY⟩ : ∃ o σ3, pE X 1 σ2 = (o, σ3) := ⟨_, _, rfl⟩
  rw [hY] at HE hKE ⊢
  simp only at HE hKE ⊢
  have HKM : Hid (σ2.v = σ.v) := hKM.trans hkv
  have HKE : Hid (σ3.v = σ.v) := hKE.trans (hKM.trans hkv)
  clear hY hKE hKM hML hFL
  have HR : Hid _ := hr
  have HKV : Hid (σ1.v = σ.v) := hkv
  have HFL : Hid (σ1.fl = none) := hfl
  clear h hv hr hf hkv hfl
  go_enter Tryz.func21, Tryz.ntmps21
  try simp only [vl, vs, va, vb, vx]
  clear vl vs va vb vx
  obtain ⟨u0, u1, u2, u3, u4, u5, u6, u7, u8, u9, u10, u11, u12, u13, u14, u15, u16, u17, u18, u19, u20⟩ := ups21
  go_wp2_with fail
  refine cT.mono ?_; rintro e w1 ⟨rfl, hd1⟩
  have hr1 := HR.out.call hd1
  have z9 := hr1.st.fz 9
  have y9 := hr1.st.c9
  have hS1 := hr1.st.ltS
  have HR1 : Hid _ := hr1
  clear cT hd1 hr1 HR hS
  go_upto_region 2 with fail
  have hr2 := HR1.out.code 182
  obtain ⟨w2, hgen⟩ : ∃ W, W = w1.setCell ⟨X.S, 9, none⟩ (.int .i64 182) := ⟨_, rfl⟩
  rw [← hgen] at hr2 ⊢
  clear hgen z9 y9 HR1 hS1
  have c9 := hr2.st.c9
  have c2 := hr2.st.c2
  rw [he] at c2
  have c4 := hr2.st.c4
  rw [HKV.out] at c4
  have hS2 := hr2.st.ltS
  have pt2 := hr2.put Hv.out
  have HR2 : Hid _ := hr2
  clear hr2
  have hx := HFM.out _ HR2.out.st
  have HX : Hid (σ2.fl = some (m, k, r) ∧ (0 ≤ m ∧ m < 4)) := ⟨hx.1, hx.2.1⟩
  clear hx
  go_wp2_with fail
  refine (HML.out _ HR2.out.st).mono ?_; rintro e w3 ⟨rfl, hd3⟩
  have hr3 := HR2.out.call hd3
  have i4 := hr3.st.c4
  rw [HKM.out] at i4
  have i7 := hr3.st.c7
  simp only at i7
  have hS3 := hr3.st.ltS
  have HR3 : Hid _ := hr3
  clear hd3 hr3 HML HFM
  go_upto_region 20 with fail
  have hrD := HR3.out.drew
  have HS2 : Hid (∀ W, RSt X W σ2 (m, k, r) 182 → (W.cell? ⟨X.S, 4, none⟩ = some (.int .i64 σ.v) ∧ W.cell? ⟨X.S, 7, none⟩ = some (.int .i64 k))) := fun W hW => ⟨by have := hW.c4; rw [HKM.out] at this; exact this, hW.c7⟩
  have HS3 : Hid (∀ W, RSt X W σ3 (m, k, r) 182 → (W.cell? ⟨X.S, 4, none⟩ = some (.int .i64 σ.v) ∧ W.cell? ⟨X.S, 7, none⟩ = some (.int .i64 k))) := fun W hW => ⟨by have := hW.c4; rw [HKE.out] at this; exact this, hW.c7⟩
  have HS0 : Hid (w3.drew.cell? ⟨X.S, 4, none⟩ = some (.int .i64 σ.v) ∧ w3.drew.cell? ⟨X.S, 7, none⟩ = some (.int .i64 k)) := HS2.out _ hrD.st
  go_region_held3 (fun W => (W.cell? ⟨X.S, 4, none⟩ = some (.int .i64 σ.v) ∧ W.cell? ⟨X.S, 7, none⟩ = some (.int .i64 k)))
    (first | with_reducible exact HS0.out | with_reducible exact HS2.out _ hr4.st | with_reducible exact HS3.out _ hr5.st | with_reducible exact HS3.out _ hr4.st | with_reducible exact HS3.out _ (RsQ.fin hr5 _).1 | exact HS3.out _ (RsQ.fin hr5 _).1 | exact HS3.out _ (RsQ.fin hr4 _).1)
    (first
      | (go_at_call 207; refine (reg_lit _ k σ.v).mono ?_; rintro e w4 ⟨rfl, k4⟩; (first | (with_reducible have hr4 := RsQ.no hrD k4) | (with_reducible have hr4 := RsQ.no hr5 k4)); have pt4 := hr4.put Hv.out)
      | (go_at_call 206; refine (HE.out _ (by first | with_reducible exact hrD.st | with_reducible exact hr4.st) HX.out).mono ?_; rintro e w5 ⟨rfl, hd5⟩; (first | (with_reducible have hr5 := RsQ.call hrD hd5) | (with_reducible have hr5 := RsQ.call hr4 hd5)); have pt5 := hr5.put Hv.out))
  all_goals
    go_wp2
    exact bodyPost_ret (v := _) (res1 rfl _ _ w.heap.size _ rfl (RsQ.got Hv.out (by assumption) _)) rfl ⟨rfl, RsQ.fin (by assumption) _⟩
theorem two_movx183 (w : World) (X : Cx) (σ : Sg) (f : Int × Int × Int) (h : RSt X w σ f 15) (hf : σ.fl = none) (he : (take X σ).2.err = 0) (hc : (take X σ).1 = 183) :
    Calls Tryz.prog 21 #[.pointer (some ⟨X.S, 0, none⟩)] w fun e w' => e = .returned (.agg (insV { Ins.zero with op := 9, sub := 0, size := σ.v, a := regO (modrm X (take X σ).2).1.2.1 σ.v, b := (pE X 2 (modrm X (take X σ).2).2).1 })) ∧ RDn X w (pE X 2 (modrm X (take X σ).2).2).2 (modrm X (take X σ).2).1 (take X σ).1 w' := by
  obtain ⟨T, nI, fsI, psI, hv, Hv, ⟨vl, vs, vb, va, vx⟩, v1, v2, v3, v4, v5, v6, p0, p1, p2, p3, p4, p5, p6, p7, sz, ne⟩ := vlP
  have hr := RsQ.start (T := T) h
  have hS := h.ltS
  have cT := next_ok _ X σ f 15 hr.st
  have hb := rtake_bd h
  have hfl := (take_fl X σ).trans hf
  have hkv := (kept_take X σ).v
  generalize take X σ = Y at *
  obtain ⟨c, σ1⟩ := Y
  simp only at *
  subst hc
  have hML := fun W (hW : RSt X W σ1 f 183) => rmodrm_ok W X σ1 f 183 hW hfl
  have hKM := (kept_modrm X σ1).v
  have hFL := fun W (hW : RSt X W σ1 f 183) => rmodrm_fl hW hfl
  generalize modrm X σ1 = Z at *
  obtain ⟨⟨m, k, r⟩, σ2⟩ := Z
  simp only at hML hKM hFL ⊢
  have HML : Hid _ := hML
  have HFM : Hid _ := hFL
  have hKE := (kept_E X 2 σ2).v
  have HE : Hid (∀ W, RSt X W σ2 (m, k, r) 183 → (σ2.fl = some (m, k, r) ∧ (0 ≤ m ∧ m < 4)) → _) := fun W hW hx => e_lit W X σ2 (m, k, r) 183 hW hx.1 hx.2 2
  obtain ⟨⟨o0, o1', o2', o3', o4, o5, o6', o7, o8⟩, σ3, hY⟩ : ∃ o σ3, pE X 2 σ2 = (o, σ3) := ⟨_, _, rfl⟩
  rw [hY] at HE hKE ⊢
  simp only at HE hKE ⊢
  have HKM : Hid (σ2.v = σ.v) := hKM.trans hkv
  have HKE : Hid (σ3.v = σ.v) := hKE.trans (hKM.trans hkv)
  clear hY hKE hKM hML hFL
  have HR : Hid _ := hr
  have HKV : Hid (σ1.v = σ.v) := hkv
  have HFL : Hid (σ1.fl = none) := hfl
  clear h hv hr hf hkv hfl
  go_enter Tryz.func21, Tryz.ntmps21
  try simp only [vl, vs, va, vb, vx]
  clear vl vs va vb vx
  obtain ⟨u0, u1, u2, u3, u4, u5, u6, u7, u8, u9, u10, u11, u12, u13, u14, u15, u16, u17, u18, u19, u20⟩ := ups21
  go_wp2_with fail
  refine cT.mono ?_; rintro e w1 ⟨rfl, hd1⟩
  have hr1 := HR.out.call hd1
  have z9 := hr1.st.fz 9
  have y9 := hr1.st.c9
  have hS1 := hr1.st.ltS
  have HR1 : Hid _ := hr1
  clear cT hd1 hr1 HR hS
  go_upto_region 2 with fail
  have hr2 := HR1.out.code 183
  obtain ⟨w2, hgen⟩ : ∃ W, W = w1.setCell ⟨X.S, 9, none⟩ (.int .i64 183) := ⟨_, rfl⟩
  rw [← hgen] at hr2 ⊢
  clear hgen z9 y9 HR1 hS1
  have c9 := hr2.st.c9
  have c2 := hr2.st.c2
  rw [he] at c2
  have c4 := hr2.st.c4
  rw [HKV.out] at c4
  have hS2 := hr2.st.ltS
  have pt2 := hr2.put Hv.out
  have HR2 : Hid _ := hr2
  clear hr2
  have hx := HFM.out _ HR2.out.st
  have HX : Hid (σ2.fl = some (m, k, r) ∧ (0 ≤ m ∧ m < 4)) := ⟨hx.1, hx.2.1⟩
  clear hx
  go_wp2_with fail
  refine (HML.out _ HR2.out.st).mono ?_; rintro e w3 ⟨rfl, hd3⟩
  have hr3 := HR2.out.call hd3
  have i4 := hr3.st.c4
  rw [HKM.out] at i4
  have i7 := hr3.st.c7
  simp only at i7
  have hS3 := hr3.st.ltS
  have HR3 : Hid _ := hr3
  clear hd3 hr3 HML HFM
  go_upto_region 20 with fail
  have hrD := HR3.out.drew
  have HS2 : Hid (∀ W, RSt X W σ2 (m, k, r) 183 → (W.cell? ⟨X.S, 4, none⟩ = some (.int .i64 σ.v) ∧ W.cell? ⟨X.S, 7, none⟩ = some (.int .i64 k))) := fun W hW => ⟨by have := hW.c4; rw [HKM.out] at this; exact this, hW.c7⟩
  have HS3 : Hid (∀ W, RSt X W σ3 (m, k, r) 183 → (W.cell? ⟨X.S, 4, none⟩ = some (.int .i64 σ.v) ∧ W.cell? ⟨X.S, 7, none⟩ = some (.int .i64 k))) := fun W hW => ⟨by have := hW.c4; rw [HKE.out] at this; exact this, hW.c7⟩
  have HS0 : Hid (w3.drew.cell? ⟨X.S, 4, none⟩ = some (.int .i64 σ.v) ∧ w3.drew.cell? ⟨X.S, 7, none⟩ = some (.int .i64 k)) := HS2.out _ hrD.st
  go_region_held3 (fun W => (W.cell? ⟨X.S, 4, none⟩ = some (.int .i64 σ.v) ∧ W.cell? ⟨X.S, 7, none⟩ = some (.int .i64 k)))
    (first | with_reducible exact HS0.out | with_reducible exact HS2.out _ hr4.st | with_reducible exact HS3.out _ hr5.st | with_reducible exact HS3.out _ hr4.st | with_reducible exact HS3.out _ (RsQ.fin hr5 _).1 | exact HS3.out _ (RsQ.fin hr5 _).1 | exact HS3.out _ (RsQ.fin hr4 _).1)
    (first
      | (go_at_call 207; refine (reg_lit _ k σ.v).mono ?_; rintro e w4 ⟨rfl, k4⟩; (first | (with_reducible have hr4 := RsQ.no hrD k4) | (with_reducible have hr4 := RsQ.no hr5 k4)); have pt4 := hr4.put Hv.out)
      | (go_at_call 206; refine (HE.out _ (by first | with_reducible exact hrD.st | with_reducible exact hr4.st) HX.out).mono ?_; rintro e w5 ⟨rfl, hd5⟩; (first | (with_reducible have hr5 := RsQ.call hrD hd5) | (with_reducible have hr5 := RsQ.call hr4 hd5)); have pt5 := hr5.put Hv.out))
  all_goals
    go_wp2
    exact bodyPost_ret (v := _) (res1 rfl _ _ w.heap.size _ rfl (RsQ.got Hv.out (by assumption) _)) rfl ⟨rfl, RsQ.fin (by assumption) _⟩
theorem two_movx190 (w : World) (X : Cx) (σ : Sg) (f : Int × Int × Int) (h : RSt X w σ f 15) (hf : σ.fl = none) (he : (take X σ).2.err = 0) (hc : (take X σ).1 = 190) :
    Calls Tryz.prog 21 #[.pointer (some ⟨X.S, 0, none⟩)] w fun e w' => e = .returned (.agg (insV { Ins.zero with op := 9, sub := 1, size := σ.v, a := regO (modrm X (take X σ).2).1.2.1 σ.v, b := (pE X 1 (modrm X (take X σ).2).2).1 })) ∧ RDn X w (pE X 1 (modrm X (take X σ).2).2).2 (modrm X (take X σ).2).1 (take X σ).1 w' := by
  obtain ⟨T, nI, fsI, psI, hv, Hv, ⟨vl, vs, vb, va, vx⟩, v1, v2, v3, v4, v5, v6, p0, p1, p2, p3, p4, p5, p6, p7, sz, ne⟩ := vlP
  have hr := RsQ.start (T := T) h
  have hS := h.ltS
  have cT := next_ok _ X σ f 15 hr.st
  have hb := rtake_bd h
  have hfl := (take_fl X σ).trans hf
  have hkv := (kept_take X σ).v
  generalize take X σ = Y at *
  obtain ⟨c, σ1⟩ := Y
  simp only at *
  subst hc
  have hML := fun W (hW : RSt X W σ1 f 190) => rmodrm_ok W X σ1 f 190 hW hfl
  have hKM := (kept_modrm X σ1).v
  have hFL := fun W (hW : RSt X W σ1 f 190) => rmodrm_fl hW hfl
  generalize modrm X σ1 = Z at *
  obtain ⟨⟨m, k, r⟩, σ2⟩ := Z
  simp only at hML hKM hFL ⊢
  have HML : Hid _ := hML
  have HFM : Hid _ := hFL
  have hKE := (kept_E X 1 σ2).v
  have HE : Hid (∀ W, RSt X W σ2 (m, k, r) 190 → (σ2.fl = some (m, k, r) ∧ (0 ≤ m ∧ m < 4)) → _) := fun W hW hx => e_lit W X σ2 (m, k, r) 190 hW hx.1 hx.2 1
  obtain ⟨⟨o0, o1', o2', o3', o4, o5, o6', o7, o8⟩, σ3, hY⟩ : ∃ o σ3, pE X 1 σ2 = (o, σ3) := ⟨_, _, rfl⟩
  rw [hY] at HE hKE ⊢
  simp only at HE hKE ⊢
  have HKM : Hid (σ2.v = σ.v) := hKM.trans hkv
  have HKE : Hid (σ3.v = σ.v) := hKE.trans (hKM.trans hkv)
  clear hY hKE hKM hML hFL
  have HR : Hid _ := hr
  have HKV : Hid (σ1.v = σ.v) := hkv
  have HFL : Hid (σ1.fl = none) := hfl
  clear h hv hr hf hkv hfl
  go_enter Tryz.func21, Tryz.ntmps21
  try simp only [vl, vs, va, vb, vx]
  clear vl vs va vb vx
  obtain ⟨u0, u1, u2, u3, u4, u5, u6, u7, u8, u9, u10, u11, u12, u13, u14, u15, u16, u17, u18, u19, u20⟩ := ups21
  go_wp2_with fail
  refine cT.mono ?_; rintro e w1 ⟨rfl, hd1⟩
  have hr1 := HR.out.call hd1
  have z9 := hr1.st.fz 9
  have y9 := hr1.st.c9
  have hS1 := hr1.st.ltS
  have HR1 : Hid _ := hr1
  clear cT hd1 hr1 HR hS
  go_upto_region 2 with fail
  have hr2 := HR1.out.code 190
  obtain ⟨w2, hgen⟩ : ∃ W, W = w1.setCell ⟨X.S, 9, none⟩ (.int .i64 190) := ⟨_, rfl⟩
  rw [← hgen] at hr2 ⊢
  clear hgen z9 y9 HR1 hS1
  have c9 := hr2.st.c9
  have c2 := hr2.st.c2
  rw [he] at c2
  have c4 := hr2.st.c4
  rw [HKV.out] at c4
  have hS2 := hr2.st.ltS
  have pt2 := hr2.put Hv.out
  have HR2 : Hid _ := hr2
  clear hr2
  have hx := HFM.out _ HR2.out.st
  have HX : Hid (σ2.fl = some (m, k, r) ∧ (0 ≤ m ∧ m < 4)) := ⟨hx.1, hx.2.1⟩
  clear hx
  go_wp2_with fail
  refine (HML.out _ HR2.out.st).mono ?_; rintro e w3 ⟨rfl, hd3⟩
  have hr3 := HR2.out.call hd3
  have i4 := hr3.st.c4
  rw [HKM.out] at i4
  have i7 := hr3.st.c7
  simp only at i7
  have hS3 := hr3.st.ltS
  have HR3 : Hid _ := hr3
  clear hd3 hr3 HML HFM
  go_upto_region 20 with fail
  have hrD := HR3.out.drew
  have HS2 : Hid (∀ W, RSt X W σ2 (m, k, r) 190 → (W.cell? ⟨X.S, 4, none⟩ = some (.int .i64 σ.v) ∧ W.cell? ⟨X.S, 7, none⟩ = some (.int .i64 k))) := fun W hW => ⟨by have := hW.c4; rw [HKM.out] at this; exact this, hW.c7⟩
  have HS3 : Hid (∀ W, RSt X W σ3 (m, k, r) 190 → (W.cell? ⟨X.S, 4, none⟩ = some (.int .i64 σ.v) ∧ W.cell? ⟨X.S, 7, none⟩ = some (.int .i64 k))) := fun W hW => ⟨by have := hW.c4; rw [HKE.out] at this; exact this, hW.c7⟩
  have HS0 : Hid (w3.drew.cell? ⟨X.S, 4, none⟩ = some (.int .i64 σ.v) ∧ w3.drew.cell? ⟨X.S, 7, none⟩ = some (.int .i64 k)) := HS2.out _ hrD.st
  go_region_held3 (fun W => (W.cell? ⟨X.S, 4, none⟩ = some (.int .i64 σ.v) ∧ W.cell? ⟨X.S, 7, none⟩ = some (.int .i64 k)))
    (first | with_reducible exact HS0.out | with_reducible exact HS2.out _ hr4.st | with_reducible exact HS3.out _ hr5.st | with_reducible exact HS3.out _ hr4.st | with_reducible exact HS3.out _ (RsQ.fin hr5 _).1 | exact HS3.out _ (RsQ.fin hr5 _).1 | exact HS3.out _ (RsQ.fin hr4 _).1)
    (first
      | (go_at_call 207; refine (reg_lit _ k σ.v).mono ?_; rintro e w4 ⟨rfl, k4⟩; (first | (with_reducible have hr4 := RsQ.no hrD k4) | (with_reducible have hr4 := RsQ.no hr5 k4)); have pt4 := hr4.put Hv.out)
      | (go_at_call 206; refine (HE.out _ (by first | with_reducible exact hrD.st | with_reducible exact hr4.st) HX.out).mono ?_; rintro e w5 ⟨rfl, hd5⟩; (first | (with_reducible have hr5 := RsQ.call hrD hd5) | (with_reducible have hr5 := RsQ.call hr4 hd5)); have pt5 := hr5.put Hv.out))
  all_goals
    go_wp2
    exact bodyPost_ret (v := _) (res1 rfl _ _ w.heap.size _ rfl (RsQ.got Hv.out (by assumption) _)) rfl ⟨rfl, RsQ.fin (by assumption) _⟩
theorem two_movx191 (w : World) (X : Cx) (σ : Sg) (f : Int × Int × Int) (h : RSt X w σ f 15) (hf : σ.fl = none) (he : (take X σ).2.err = 0) (hc : (take X σ).1 = 191) :
    Calls Tryz.prog 21 #[.pointer (some ⟨X.S, 0, none⟩)] w fun e w' => e = .returned (.agg (insV { Ins.zero with op := 9, sub := 1, size := σ.v, a := regO (modrm X (take X σ).2).1.2.1 σ.v, b := (pE X 2 (modrm X (take X σ).2).2).1 })) ∧ RDn X w (pE X 2 (modrm X (take X σ).2).2).2 (modrm X (take X σ).2).1 (take X σ).1 w' := by
  obtain ⟨T, nI, fsI, psI, hv, Hv, ⟨vl, vs, vb, va, vx⟩, v1, v2, v3, v4, v5, v6, p0, p1, p2, p3, p4, p5, p6, p7, sz, ne⟩ := vlP
  have hr := RsQ.start (T := T) h
  have hS := h.ltS
  have cT := next_ok _ X σ f 15 hr.st
  have hb := rtake_bd h
  have hfl := (take_fl X σ).trans hf
  have hkv := (kept_take X σ).v
  generalize take X σ = Y at *
  obtain ⟨c, σ1⟩ := Y
  simp only at *
  subst hc
  have hML := fun W (hW : RSt X W σ1 f 191) => rmodrm_ok W X σ1 f 191 hW hfl
  have hKM := (kept_modrm X σ1).v
  have hFL := fun W (hW : RSt X W σ1 f 191) => rmodrm_fl hW hfl
  generalize modrm X σ1 = Z at *
  obtain ⟨⟨m, k, r⟩, σ2⟩ := Z
  simp only at hML hKM hFL ⊢
  have HML : Hid _ := hML
  have HFM : Hid _ := hFL
  have hKE := (kept_E X 2 σ2).v
  have HE : Hid (∀ W, RSt X W σ2 (m, k, r) 191 → (σ2.fl = some (m, k, r) ∧ (0 ≤ m ∧ m < 4)) → _) := fun W hW hx => e_lit W X σ2 (m, k, r) 191 hW hx.1 hx.2 2
  obtain ⟨⟨o0, o1', o2', o3', o4, o5, o6', o7, o8⟩, σ3, hY⟩ : ∃ o σ3, pE X 2 σ2 = (o, σ3) := ⟨_, _, rfl⟩
  rw [hY] at HE hKE ⊢
  simp only at HE hKE ⊢
  have HKM : Hid (σ2.v = σ.v) := hKM.trans hkv
  have HKE : Hid (σ3.v = σ.v) := hKE.trans (hKM.trans hkv)
  clear hY hKE hKM hML hFL
  have HR : Hid _ := hr
  have HKV : Hid (σ1.v = σ.v) := hkv
  have HFL : Hid (σ1.fl = none) := hfl
  clear h hv hr hf hkv hfl
  go_enter Tryz.func21, Tryz.ntmps21
  try simp only [vl, vs, va, vb, vx]
  clear vl vs va vb vx
  obtain ⟨u0, u1, u2, u3, u4, u5, u6, u7, u8, u9, u10, u11, u12, u13, u14, u15, u16, u17, u18, u19, u20⟩ := ups21
  go_wp2_with fail
  refine cT.mono ?_; rintro e w1 ⟨rfl, hd1⟩
  have hr1 := HR.out.call hd1
  have z9 := hr1.st.fz 9
  have y9 := hr1.st.c9
  have hS1 := hr1.st.ltS
  have HR1 : Hid _ := hr1
  clear cT hd1 hr1 HR hS
  go_upto_region 2 with fail
  have hr2 := HR1.out.code 191
  obtain ⟨w2, hgen⟩ : ∃ W, W = w1.setCell ⟨X.S, 9, none⟩ (.int .i64 191) := ⟨_, rfl⟩
  rw [← hgen] at hr2 ⊢
  clear hgen z9 y9 HR1 hS1
  have c9 := hr2.st.c9
  have c2 := hr2.st.c2
  rw [he] at c2
  have c4 := hr2.st.c4
  rw [HKV.out] at c4
  have hS2 := hr2.st.ltS
  have pt2 := hr2.put Hv.out
  have HR2 : Hid _ := hr2
  clear hr2
  have hx := HFM.out _ HR2.out.st
  have HX : Hid (σ2.fl = some (m, k, r) ∧ (0 ≤ m ∧ m < 4)) := ⟨hx.1, hx.2.1⟩
  clear hx
  go_wp2_with fail
  refine (HML.out _ HR2.out.st).mono ?_; rintro e w3 ⟨rfl, hd3⟩
  have hr3 := HR2.out.call hd3
  have i4 := hr3.st.c4
  rw [HKM.out] at i4
  have i7 := hr3.st.c7
  simp only at i7
  have hS3 := hr3.st.ltS
  have HR3 : Hid _ := hr3
  clear hd3 hr3 HML HFM
  go_upto_region 20 with fail
  have hrD := HR3.out.drew
  have HS2 : Hid (∀ W, RSt X W σ2 (m, k, r) 191 → (W.cell? ⟨X.S, 4, none⟩ = some (.int .i64 σ.v) ∧ W.cell? ⟨X.S, 7, none⟩ = some (.int .i64 k))) := fun W hW => ⟨by have := hW.c4; rw [HKM.out] at this; exact this, hW.c7⟩
  have HS3 : Hid (∀ W, RSt X W σ3 (m, k, r) 191 → (W.cell? ⟨X.S, 4, none⟩ = some (.int .i64 σ.v) ∧ W.cell? ⟨X.S, 7, none⟩ = some (.int .i64 k))) := fun W hW => ⟨by have := hW.c4; rw [HKE.out] at this; exact this, hW.c7⟩
  have HS0 : Hid (w3.drew.cell? ⟨X.S, 4, none⟩ = some (.int .i64 σ.v) ∧ w3.drew.cell? ⟨X.S, 7, none⟩ = some (.int .i64 k)) := HS2.out _ hrD.st
  go_region_held3 (fun W => (W.cell? ⟨X.S, 4, none⟩ = some (.int .i64 σ.v) ∧ W.cell? ⟨X.S, 7, none⟩ = some (.int .i64 k)))
    (first | with_reducible exact HS0.out | with_reducible exact HS2.out _ hr4.st | with_reducible exact HS3.out _ hr5.st | with_reducible exact HS3.out _ hr4.st | with_reducible exact HS3.out _ (RsQ.fin hr5 _).1 | exact HS3.out _ (RsQ.fin hr5 _).1 | exact HS3.out _ (RsQ.fin hr4 _).1)
    (first
      | (go_at_call 207; refine (reg_lit _ k σ.v).mono ?_; rintro e w4 ⟨rfl, k4⟩; (first | (with_reducible have hr4 := RsQ.no hrD k4) | (with_reducible have hr4 := RsQ.no hr5 k4)); have pt4 := hr4.put Hv.out)
      | (go_at_call 206; refine (HE.out _ (by first | with_reducible exact hrD.st | with_reducible exact hr4.st) HX.out).mono ?_; rintro e w5 ⟨rfl, hd5⟩; (first | (with_reducible have hr5 := RsQ.call hrD hd5) | (with_reducible have hr5 := RsQ.call hr4 hd5)); have pt5 := hr5.put Hv.out))
  all_goals
    go_wp2
    exact bodyPost_ret (v := _) (res1 rfl _ _ w.heap.size _ rfl (RsQ.got Hv.out (by assumption) _)) rfl ⟨rfl, RsQ.fin (by assumption) _⟩
end Go.Proofs.YtbfccfhjgopnbaaGreat
