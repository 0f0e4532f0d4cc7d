/- The document's reader, and the code's (RfTwo). -/
import Derived.Test.YtbfccfhjgopnbaaGreatDr26
import Derived.Test.YtbfccfhjgopnbaaGreatDr12
import Derived.Test.YtbfccfhjgopnbaaGreatDr31
set_option linter.unusedSimpArgs false
namespace Go.Proofs.YtbfccfhjgopnbaaGreat
open Go.ChangeShapes Go.WideShapes Go.ChangeAt Go.RowKit
set_option linter.unusedVariables false
set_option linter.unusedSimpArgs false
set_option maxHeartbeats 4000000
set_option maxRecDepth 20000
theorem RsQ.code {T : TypeId} {X : Cx} {w wr : World} {ρ : Nat} {σ : Sg} {f : Int × Int × Int} {c : Int} (h : RsQ T X w ρ σ f c wr) (d : Int) : RsQ T X w ρ σ f d (wr.setCell ⟨X.S, 9, none⟩ (.int .i64 d)) :=
  h.call ⟨h.st.set 9 (.int .i64 d) rfl h.st.le h.st.lL ⟨h.st.vv, h.st.sg⟩, kpS X wr 9 _⟩
theorem two_err (w : World) (X : Cx) (σ : Sg) (f : Int × Int × Int) (h : RSt X w σ f 15) (hf : σ.fl = none) (he : ¬ (take X σ).2.err = 0) :
    Calls Tryz.prog 21 #[.pointer (some ⟨X.S, 0, none⟩)] w fun e w' => e = .returned (.agg (insV Ins.zero)) ∧ RDn X w (take X σ).2 f (take X σ).1 w' := by
  obtain ⟨T, nI, fsI, psI, hv, Hv, ⟨vl, vs, vb, va, vx⟩, v1, v2, v3, v4, v5, v6, p0, p1, p2, p3, p4, p5, p6, p7, sz, ne⟩ := vlP
  have hr := RsQ.start (T := T) h
  have hS := h.ltS
  have cT := next_ok _ X σ f 15 hr.st
  have hb := rtake_bd h
  have hfl := (take_fl X σ).trans hf
  have hkv := (kept_take X σ).v
  generalize take X σ = Y at *
  obtain ⟨c, σ1⟩ := Y
  simp only at *
  skip
  have heb : (σ1.err != 0) = true := by simpa using he
  have HR : Hid _ := hr
  have HKV : Hid (σ1.v = σ.v) := hkv
  have HFL : Hid (σ1.fl = none) := hfl
  clear h hv hr hf hkv hfl
  go_enter Tryz.func21, Tryz.ntmps21
  try simp only [vl, vs, va, vb, vx]
  clear vl vs va vb vx
  obtain ⟨u0, u1, u2, u3, u4, u5, u6, u7, u8, u9, u10, u11, u12, u13, u14, u15, u16, u17, u18, u19, u20⟩ := ups21
  go_wp2_with fail
  refine cT.mono ?_; rintro e w1 ⟨rfl, hd1⟩
  have hr1 := HR.out.call hd1
  have z9 := hr1.st.fz 9
  have y9 := hr1.st.c9
  have hS1 := hr1.st.ltS
  have HR1 : Hid _ := hr1
  clear cT hd1 hr1 HR hS
  go_upto_region 2 with fail
  have hr2 := HR1.out.code c
  obtain ⟨w2, hgen⟩ : ∃ W, W = w1.setCell ⟨X.S, 9, none⟩ (.int .i64 c) := ⟨_, rfl⟩
  rw [← hgen] at hr2 ⊢
  clear hgen z9 y9 HR1 hS1
  have c9 := hr2.st.c9
  have c2 := hr2.st.c2
  skip
  have c4 := hr2.st.c4
  rw [HKV.out] at c4
  have hS2 := hr2.st.ltS
  have pt2 := hr2.put Hv.out
  have HR2 : Hid _ := hr2
  clear hr2
  have HRE := HR2
  go_wp2
  exact bodyPost_ret (v := _) (res1 rfl _ _ w.heap.size _ rfl (HRE.out.got Hv.out _)) rfl ⟨rfl, HRE.out.fin _⟩
theorem two_sys0 (w : World) (X : Cx) (σ : Sg) (f : Int × Int × Int) (h : RSt X w σ f 15) (hf : σ.fl = none) (he : (take X σ).2.err = 0) (hc : (take X σ).1 = 0) (xI : Ins) (σ2 : Sg) (f2 : Int × Int × Int) (HB : ∀ W, RSt X W (take X σ).2 f 0 → Calls Tryz.prog 202 #[.pointer (some ⟨X.S, 0, none⟩)] W fun e w' => e = .returned (.agg (insV xI)) ∧ RDn X W σ2 f2 0 w') :
    Calls Tryz.prog 21 #[.pointer (some ⟨X.S, 0, none⟩)] w fun e w' => e = .returned (.agg (insV xI)) ∧ RDn X w σ2 f2 (take X σ).1 w' := by
  obtain ⟨T, nI, fsI, psI, hv, Hv, ⟨vl, vs, vb, va, vx⟩, v1, v2, v3, v4, v5, v6, p0, p1, p2, p3, p4, p5, p6, p7, sz, ne⟩ := vlP
  have hr := RsQ.start (T := T) h
  have hS := h.ltS
  have cT := next_ok _ X σ f 15 hr.st
  have hb := rtake_bd h
  have hfl := (take_fl X σ).trans hf
  have hkv := (kept_take X σ).v
  generalize take X σ = Y at *
  obtain ⟨c, σ1⟩ := Y
  simp only at *
  subst hc
  have HR : Hid _ := hr
  have HKV : Hid (σ1.v = σ.v) := hkv
  have HFL : Hid (σ1.fl = none) := hfl
  clear h hv hr hf hkv hfl
  go_enter Tryz.func21, Tryz.ntmps21
  try simp only [vl, vs, va, vb, vx]
  clear vl vs va vb vx
  obtain ⟨u0, u1, u2, u3, u4, u5, u6, u7, u8, u9, u10, u11, u12, u13, u14, u15, u16, u17, u18, u19, u20⟩ := ups21
  go_wp2_with fail
  refine cT.mono ?_; rintro e w1 ⟨rfl, hd1⟩
  have hr1 := HR.out.call hd1
  have z9 := hr1.st.fz 9
  have y9 := hr1.st.c9
  have hS1 := hr1.st.ltS
  have HR1 : Hid _ := hr1
  clear cT hd1 hr1 HR hS
  go_upto_region 2 with fail
  have hr2 := HR1.out.code 0
  obtain ⟨w2, hgen⟩ : ∃ W, W = w1.setCell ⟨X.S, 9, none⟩ (.int .i64 0) := ⟨_, rfl⟩
  rw [← hgen] at hr2 ⊢
  clear hgen z9 y9 HR1 hS1
  have c9 := hr2.st.c9
  have c2 := hr2.st.c2
  rw [he] at c2
  have c4 := hr2.st.c4
  rw [HKV.out] at c4
  have hS2 := hr2.st.ltS
  have pt2 := hr2.put Hv.out
  have HR2 : Hid _ := hr2
  clear hr2
  have HBB : Hid _ := HB
  clear HB
  go_wp2_with fail
  refine (HBB.out _ HR2.out.st).mono ?_; rintro e w5 ⟨rfl, hd5⟩
  have hr5 := HR2.out.call hd5
  have pt5 := hr5.put Hv.out
  have HRE : Hid _ := hr5
  clear hd5 hr5
  go_wp2
  exact bodyPost_ret (v := _) (res1 rfl _ _ w.heap.size _ rfl (HRE.out.got Hv.out _)) rfl ⟨rfl, HRE.out.fin _⟩
theorem two_sys1 (w : World) (X : Cx) (σ : Sg) (f : Int × Int × Int) (h : RSt X w σ f 15) (hf : σ.fl = none) (he : (take X σ).2.err = 0) (hc : (take X σ).1 = 1) (xI : Ins) (σ2 : Sg) (f2 : Int × Int × Int) (HB : ∀ W, RSt X W (take X σ).2 f 1 → Calls Tryz.prog 202 #[.pointer (some ⟨X.S, 0, none⟩)] W fun e w' => e = .returned (.agg (insV xI)) ∧ RDn X W σ2 f2 1 w') :
    Calls Tryz.prog 21 #[.pointer (some ⟨X.S, 0, none⟩)] w fun e w' => e = .returned (.agg (insV xI)) ∧ RDn X w σ2 f2 (take X σ).1 w' := by
  obtain ⟨T, nI, fsI, psI, hv, Hv, ⟨vl, vs, vb, va, vx⟩, v1, v2, v3, v4, v5, v6, p0, p1, p2, p3, p4, p5, p6, p7, sz, ne⟩ := vlP
  have hr := RsQ.start (T := T) h
  have hS := h.ltS
  have cT := next_ok _ X σ f 15 hr.st
  have hb := rtake_bd h
  have hfl := (take_fl X σ).trans hf
  have hkv := (kept_take X σ).v
  generalize take X σ = Y at *
  obtain ⟨c, σ1⟩ := Y
  simp only at *
  subst hc
  have HR : Hid _ := hr
  have HKV : Hid (σ1.v = σ.v) := hkv
  have HFL : Hid (σ1.fl = none) := hfl
  clear h hv hr hf hkv hfl
  go_enter Tryz.func21, Tryz.ntmps21
  try simp only [vl, vs, va, vb, vx]
  clear vl vs va vb vx
  obtain ⟨u0, u1, u2, u3, u4, u5, u6, u7, u8, u9, u10, u11, u12, u13, u14, u15, u16, u17, u18, u19, u20⟩ := ups21
  go_wp2_with fail
  refine cT.mono ?_; rintro e w1 ⟨rfl, hd1⟩
  have hr1 := HR.out.call hd1
  have z9 := hr1.st.fz 9
  have y9 := hr1.st.c9
  have hS1 := hr1.st.ltS
  have HR1 : Hid _ := hr1
  clear cT hd1 hr1 HR hS
  go_upto_region 2 with fail
  have hr2 := HR1.out.code 1
  obtain ⟨w2, hgen⟩ : ∃ W, W = w1.setCell ⟨X.S, 9, none⟩ (.int .i64 1) := ⟨_, rfl⟩
  rw [← hgen] at hr2 ⊢
  clear hgen z9 y9 HR1 hS1
  have c9 := hr2.st.c9
  have c2 := hr2.st.c2
  rw [he] at c2
  have c4 := hr2.st.c4
  rw [HKV.out] at c4
  have hS2 := hr2.st.ltS
  have pt2 := hr2.put Hv.out
  have HR2 : Hid _ := hr2
  clear hr2
  have HBB : Hid _ := HB
  clear HB
  go_wp2_with fail
  refine (HBB.out _ HR2.out.st).mono ?_; rintro e w5 ⟨rfl, hd5⟩
  have hr5 := HR2.out.call hd5
  have pt5 := hr5.put Hv.out
  have HRE : Hid _ := hr5
  clear hd5 hr5
  go_wp2
  exact bodyPost_ret (v := _) (res1 rfl _ _ w.heap.size _ rfl (HRE.out.got Hv.out _)) rfl ⟨rfl, HRE.out.fin _⟩
theorem two_sys6 (w : World) (X : Cx) (σ : Sg) (f : Int × Int × Int) (h : RSt X w σ f 15) (hf : σ.fl = none) (he : (take X σ).2.err = 0) (hc : (take X σ).1 = 6) (xI : Ins) (σ2 : Sg) (f2 : Int × Int × Int) (HB : ∀ W, RSt X W (take X σ).2 f 6 → Calls Tryz.prog 202 #[.pointer (some ⟨X.S, 0, none⟩)] W fun e w' => e = .returned (.agg (insV xI)) ∧ RDn X W σ2 f2 6 w') :
    Calls Tryz.prog 21 #[.pointer (some ⟨X.S, 0, none⟩)] w fun e w' => e = .returned (.agg (insV xI)) ∧ RDn X w σ2 f2 (take X σ).1 w' := by
  obtain ⟨T, nI, fsI, psI, hv, Hv, ⟨vl, vs, vb, va, vx⟩, v1, v2, v3, v4, v5, v6, p0, p1, p2, p3, p4, p5, p6, p7, sz, ne⟩ := vlP
  have hr := RsQ.start (T := T) h
  have hS := h.ltS
  have cT := next_ok _ X σ f 15 hr.st
  have hb := rtake_bd h
  have hfl := (take_fl X σ).trans hf
  have hkv := (kept_take X σ).v
  generalize take X σ = Y at *
  obtain ⟨c, σ1⟩ := Y
  simp only at *
  subst hc
  have HR : Hid _ := hr
  have HKV : Hid (σ1.v = σ.v) := hkv
  have HFL : Hid (σ1.fl = none) := hfl
  clear h hv hr hf hkv hfl
  go_enter Tryz.func21, Tryz.ntmps21
  try simp only [vl, vs, va, vb, vx]
  clear vl vs va vb vx
  obtain ⟨u0, u1, u2, u3, u4, u5, u6, u7, u8, u9, u10, u11, u12, u13, u14, u15, u16, u17, u18, u19, u20⟩ := ups21
  go_wp2_with fail
  refine cT.mono ?_; rintro e w1 ⟨rfl, hd1⟩
  have hr1 := HR.out.call hd1
  have z9 := hr1.st.fz 9
  have y9 := hr1.st.c9
  have hS1 := hr1.st.ltS
  have HR1 : Hid _ := hr1
  clear cT hd1 hr1 HR hS
  go_upto_region 2 with fail
  have hr2 := HR1.out.code 6
  obtain ⟨w2, hgen⟩ : ∃ W, W = w1.setCell ⟨X.S, 9, none⟩ (.int .i64 6) := ⟨_, rfl⟩
  rw [← hgen] at hr2 ⊢
  clear hgen z9 y9 HR1 hS1
  have c9 := hr2.st.c9
  have c2 := hr2.st.c2
  rw [he] at c2
  have c4 := hr2.st.c4
  rw [HKV.out] at c4
  have hS2 := hr2.st.ltS
  have pt2 := hr2.put Hv.out
  have HR2 : Hid _ := hr2
  clear hr2
  have HBB : Hid _ := HB
  clear HB
  go_wp2_with fail
  refine (HBB.out _ HR2.out.st).mono ?_; rintro e w5 ⟨rfl, hd5⟩
  have hr5 := HR2.out.call hd5
  have pt5 := hr5.put Hv.out
  have HRE : Hid _ := hr5
  clear hd5 hr5
  go_wp2
  exact bodyPost_ret (v := _) (res1 rfl _ _ w.heap.size _ rfl (HRE.out.got Hv.out _)) rfl ⟨rfl, HRE.out.fin _⟩
theorem two_sys32 (w : World) (X : Cx) (σ : Sg) (f : Int × Int × Int) (h : RSt X w σ f 15) (hf : σ.fl = none) (he : (take X σ).2.err = 0) (hc : (take X σ).1 = 32) (xI : Ins) (σ2 : Sg) (f2 : Int × Int × Int) (HB : ∀ W, RSt X W (take X σ).2 f 32 → Calls Tryz.prog 202 #[.pointer (some ⟨X.S, 0, none⟩)] W fun e w' => e = .returned (.agg (insV xI)) ∧ RDn X W σ2 f2 32 w') :
    Calls Tryz.prog 21 #[.pointer (some ⟨X.S, 0, none⟩)] w fun e w' => e = .returned (.agg (insV xI)) ∧ RDn X w σ2 f2 (take X σ).1 w' := by
  obtain ⟨T, nI, fsI, psI, hv, Hv, ⟨vl, vs, vb, va, vx⟩, v1, v2, v3, v4, v5, v6, p0, p1, p2, p3, p4, p5, p6, p7, sz, ne⟩ := vlP
  have hr := RsQ.start (T := T) h
  have hS := h.ltS
  have cT := next_ok _ X σ f 15 hr.st
  have hb := rtake_bd h
  have hfl := (take_fl X σ).trans hf
  have hkv := (kept_take X σ).v
  generalize take X σ = Y at *
  obtain ⟨c, σ1⟩ := Y
  simp only at *
  subst hc
  have HR : Hid _ := hr
  have HKV : Hid (σ1.v = σ.v) := hkv
  have HFL : Hid (σ1.fl = none) := hfl
  clear h hv hr hf hkv hfl
  go_enter Tryz.func21, Tryz.ntmps21
  try simp only [vl, vs, va, vb, vx]
  clear vl vs va vb vx
  obtain ⟨u0, u1, u2, u3, u4, u5, u6, u7, u8, u9, u10, u11, u12, u13, u14, u15, u16, u17, u18, u19, u20⟩ := ups21
  go_wp2_with fail
  refine cT.mono ?_; rintro e w1 ⟨rfl, hd1⟩
  have hr1 := HR.out.call hd1
  have z9 := hr1.st.fz 9
  have y9 := hr1.st.c9
  have hS1 := hr1.st.ltS
  have HR1 : Hid _ := hr1
  clear cT hd1 hr1 HR hS
  go_upto_region 2 with fail
  have hr2 := HR1.out.code 32
  obtain ⟨w2, hgen⟩ : ∃ W, W = w1.setCell ⟨X.S, 9, none⟩ (.int .i64 32) := ⟨_, rfl⟩
  rw [← hgen] at hr2 ⊢
  clear hgen z9 y9 HR1 hS1
  have c9 := hr2.st.c9
  have c2 := hr2.st.c2
  rw [he] at c2
  have c4 := hr2.st.c4
  rw [HKV.out] at c4
  have hS2 := hr2.st.ltS
  have pt2 := hr2.put Hv.out
  have HR2 : Hid _ := hr2
  clear hr2
  have HBB : Hid _ := HB
  clear HB
  go_wp2_with fail
  refine (HBB.out _ HR2.out.st).mono ?_; rintro e w5 ⟨rfl, hd5⟩
  have hr5 := HR2.out.call hd5
  have pt5 := hr5.put Hv.out
  have HRE : Hid _ := hr5
  clear hd5 hr5
  go_wp2
  exact bodyPost_ret (v := _) (res1 rfl _ _ w.heap.size _ rfl (HRE.out.got Hv.out _)) rfl ⟨rfl, HRE.out.fin _⟩
theorem two_sys34 (w : World) (X : Cx) (σ : Sg) (f : Int × Int × Int) (h : RSt X w σ f 15) (hf : σ.fl = none) (he : (take X σ).2.err = 0) (hc : (take X σ).1 = 34) (xI : Ins) (σ2 : Sg) (f2 : Int × Int × Int) (HB : ∀ W, RSt X W (take X σ).2 f 34 → Calls Tryz.prog 202 #[.pointer (some ⟨X.S, 0, none⟩)] W fun e w' => e = .returned (.agg (insV xI)) ∧ RDn X W σ2 f2 34 w') :
    Calls Tryz.prog 21 #[.pointer (some ⟨X.S, 0, none⟩)] w fun e w' => e = .returned (.agg (insV xI)) ∧ RDn X w σ2 f2 (take X σ).1 w' := by
  obtain ⟨T, nI, fsI, psI, hv, Hv, ⟨vl, vs, vb, va, vx⟩, v1, v2, v3, v4, v5, v6, p0, p1, p2, p3, p4, p5, p6, p7, sz, ne⟩ := vlP
  have hr := RsQ.start (T := T) h
  have hS := h.ltS
  have cT := next_ok _ X σ f 15 hr.st
  have hb := rtake_bd h
  have hfl := (take_fl X σ).trans hf
  have hkv := (kept_take X σ).v
  generalize take X σ = Y at *
  obtain ⟨c, σ1⟩ := Y
  simp only at *
  subst hc
  have HR : Hid _ := hr
  have HKV : Hid (σ1.v = σ.v) := hkv
  have HFL : Hid (σ1.fl = none) := hfl
  clear h hv hr hf hkv hfl
  go_enter Tryz.func21, Tryz.ntmps21
  try simp only [vl, vs, va, vb, vx]
  clear vl vs va vb vx
  obtain ⟨u0, u1, u2, u3, u4, u5, u6, u7, u8, u9, u10, u11, u12, u13, u14, u15, u16, u17, u18, u19, u20⟩ := ups21
  go_wp2_with fail
  refine cT.mono ?_; rintro e w1 ⟨rfl, hd1⟩
  have hr1 := HR.out.call hd1
  have z9 := hr1.st.fz 9
  have y9 := hr1.st.c9
  have hS1 := hr1.st.ltS
  have HR1 : Hid _ := hr1
  clear cT hd1 hr1 HR hS
  go_upto_region 2 with fail
  have hr2 := HR1.out.code 34
  obtain ⟨w2, hgen⟩ : ∃ W, W = w1.setCell ⟨X.S, 9, none⟩ (.int .i64 34) := ⟨_, rfl⟩
  rw [← hgen] at hr2 ⊢
  clear hgen z9 y9 HR1 hS1
  have c9 := hr2.st.c9
  have c2 := hr2.st.c2
  rw [he] at c2
  have c4 := hr2.st.c4
  rw [HKV.out] at c4
  have hS2 := hr2.st.ltS
  have pt2 := hr2.put Hv.out
  have HR2 : Hid _ := hr2
  clear hr2
  have HBB : Hid _ := HB
  clear HB
  go_wp2_with fail
  refine (HBB.out _ HR2.out.st).mono ?_; rintro e w5 ⟨rfl, hd5⟩
  have hr5 := HR2.out.call hd5
  have pt5 := hr5.put Hv.out
  have HRE : Hid _ := hr5
  clear hd5 hr5
  go_wp2
  exact bodyPost_ret (v := _) (res1 rfl _ _ w.heap.size _ rfl (HRE.out.got Hv.out _)) rfl ⟨rfl, HRE.out.fin _⟩
theorem two_cmov (w : World) (X : Cx) (σ : Sg) (f : Int × Int × Int) (h : RSt X w σ f 15) (hf : σ.fl = none) (he : (take X σ).2.err = 0) (hc : (take X σ).1 / 16 = 4) :
    Calls Tryz.prog 21 #[.pointer (some ⟨X.S, 0, none⟩)] w fun e w' => e = .returned (.agg (insV (egM X σ.v true { Ins.zero with op := 26, sub := (take X σ).1 % 16 } (take X σ).2).1)) ∧ RDn X w (egM X σ.v true { Ins.zero with op := 26, sub := (take X σ).1 % 16 } (take X σ).2).2.1 (egM X σ.v true { Ins.zero with op := 26, sub := (take X σ).1 % 16 } (take X σ).2).2.2 (take X σ).1 w' := by
  obtain ⟨T, nI, fsI, psI, hv, Hv, ⟨vl, vs, vb, va, vx⟩, v1, v2, v3, v4, v5, v6, p0, p1, p2, p3, p4, p5, p6, p7, sz, ne⟩ := vlP
  have hr := RsQ.start (T := T) h
  have hS := h.ltS
  have cT := next_ok _ X σ f 15 hr.st
  have hb := rtake_bd h
  have hfl := (take_fl X σ).trans hf
  have hkv := (kept_take X σ).v
  generalize take X σ = Y at *
  obtain ⟨c, σ1⟩ := Y
  simp only at *
  skip
  have hb0 := hb.1
  have hb1 := hb.2
  have n0 : (c == 0) = false := by simp; omega
  have n1 : (c == 1) = false := by simp; omega
  have n2 : (c == 6) = false := by simp; omega
  have n3 : (c == 32) = false := by simp; omega
  have n4 : (c == 34) = false := by simp; omega
  have t1 : (c / 16 == 4) = true := by simp; omega
  have td : c.tdiv 16 = c / 16 := Int.tdiv_eq_ediv_of_nonneg hb0
  have tm : c.tmod 16 = c % 16 := Int.tmod_eq_emod_of_nonneg hb0
  have HR : Hid _ := hr
  have HKV : Hid (σ1.v = σ.v) := hkv
  have HFL : Hid (σ1.fl = none) := hfl
  clear h hv hr hf hkv hfl
  go_enter Tryz.func21, Tryz.ntmps21
  try simp only [vl, vs, va, vb, vx]
  clear vl vs va vb vx
  obtain ⟨u0, u1, u2, u3, u4, u5, u6, u7, u8, u9, u10, u11, u12, u13, u14, u15, u16, u17, u18, u19, u20⟩ := ups21
  go_wp2_with fail
  refine cT.mono ?_; rintro e w1 ⟨rfl, hd1⟩
  have hr1 := HR.out.call hd1
  have z9 := hr1.st.fz 9
  have y9 := hr1.st.c9
  have hS1 := hr1.st.ltS
  have HR1 : Hid _ := hr1
  clear cT hd1 hr1 HR hS
  go_upto_region 2 with fail
  have hr2 := HR1.out.code c
  obtain ⟨w2, hgen⟩ : ∃ W, W = w1.setCell ⟨X.S, 9, none⟩ (.int .i64 c) := ⟨_, rfl⟩
  rw [← hgen] at hr2 ⊢
  clear hgen z9 y9 HR1 hS1
  have c9 := hr2.st.c9
  have c2 := hr2.st.c2
  rw [he] at c2
  have c4 := hr2.st.c4
  rw [HKV.out] at c4
  have hS2 := hr2.st.ltS
  have pt2 := hr2.put Hv.out
  have HR2 : Hid _ := hr2
  clear hr2
  go_wp2_with fail
  refine (eg_t _ X σ1 f c HR2.out.st HFL.out _ _).mono ?_; rintro e w5 ⟨rfl, hd5⟩
  have hr5 := HR2.out.call hd5
  have pt5 := hr5.put Hv.out
  have HRE : Hid _ := hr5
  clear hd5 hr5
  go_wp2
  exact bodyPost_ret (v := _) (res1 rfl _ _ w.heap.size _ rfl (HRE.out.got Hv.out _)) rfl ⟨rfl, HRE.out.fin _⟩
theorem two_imul (w : World) (X : Cx) (σ : Sg) (f : Int × Int × Int) (h : RSt X w σ f 15) (hf : σ.fl = none) (he : (take X σ).2.err = 0) (hc : (take X σ).1 = 175) :
    Calls Tryz.prog 21 #[.pointer (some ⟨X.S, 0, none⟩)] w fun e w' => e = .returned (.agg (insV (egM X σ.v true { Ins.zero with op := 5 } (take X σ).2).1)) ∧ RDn X w (egM X σ.v true { Ins.zero with op := 5 } (take X σ).2).2.1 (egM X σ.v true { Ins.zero with op := 5 } (take X σ).2).2.2 (take X σ).1 w' := by
  obtain ⟨T, nI, fsI, psI, hv, Hv, ⟨vl, vs, vb, va, vx⟩, v1, v2, v3, v4, v5, v6, p0, p1, p2, p3, p4, p5, p6, p7, sz, ne⟩ := vlP
  have hr := RsQ.start (T := T) h
  have hS := h.ltS
  have cT := next_ok _ X σ f 15 hr.st
  have hb := rtake_bd h
  have hfl := (take_fl X σ).trans hf
  have hkv := (kept_take X σ).v
  generalize take X σ = Y at *
  obtain ⟨c, σ1⟩ := Y
  simp only at *
  subst hc
  have HR : Hid _ := hr
  have HKV : Hid (σ1.v = σ.v) := hkv
  have HFL : Hid (σ1.fl = none) := hfl
  clear h hv hr hf hkv hfl
  go_enter Tryz.func21, Tryz.ntmps21
  try simp only [vl, vs, va, vb, vx]
  clear vl vs va vb vx
  obtain ⟨u0, u1, u2, u3, u4, u5, u6, u7, u8, u9, u10, u11, u12, u13, u14, u15, u16, u17, u18, u19, u20⟩ := ups21
  go_wp2_with fail
  refine cT.mono ?_; rintro e w1 ⟨rfl, hd1⟩
  have hr1 := HR.out.call hd1
  have z9 := hr1.st.fz 9
  have y9 := hr1.st.c9
  have hS1 := hr1.st.ltS
  have HR1 : Hid _ := hr1
  clear cT hd1 hr1 HR hS
  go_upto_region 2 with fail
  have hr2 := HR1.out.code 175
  obtain ⟨w2, hgen⟩ : ∃ W, W = w1.setCell ⟨X.S, 9, none⟩ (.int .i64 175) := ⟨_, rfl⟩
  rw [← hgen] at hr2 ⊢
  clear hgen z9 y9 HR1 hS1
  have c9 := hr2.st.c9
  have c2 := hr2.st.c2
  rw [he] at c2
  have c4 := hr2.st.c4
  rw [HKV.out] at c4
  have hS2 := hr2.st.ltS
  have pt2 := hr2.put Hv.out
  have HR2 : Hid _ := hr2
  clear hr2
  go_wp2_with fail
  refine (eg_t _ X σ1 f 175 HR2.out.st HFL.out _ _).mono ?_; rintro e w5 ⟨rfl, hd5⟩
  have hr5 := HR2.out.call hd5
  have pt5 := hr5.put Hv.out
  have HRE : Hid _ := hr5
  clear hd5 hr5
  go_wp2
  exact bodyPost_ret (v := _) (res1 rfl _ _ w.heap.size _ rfl (HRE.out.got Hv.out _)) rfl ⟨rfl, HRE.out.fin _⟩
theorem two_scan188 (w : World) (X : Cx) (σ : Sg) (f : Int × Int × Int) (h : RSt X w σ f 15) (hf : σ.fl = none) (he : (take X σ).2.err = 0) (hc : (take X σ).1 = 188) :
    Calls Tryz.prog 21 #[.pointer (some ⟨X.S, 0, none⟩)] w fun e w' => e = .returned (.agg (insV (egM X σ.v true { Ins.zero with op := 24, sub := 0 } (take X σ).2).1)) ∧ RDn X w (egM X σ.v true { Ins.zero with op := 24, sub := 0 } (take X σ).2).2.1 (egM X σ.v true { Ins.zero with op := 24, sub := 0 } (take X σ).2).2.2 (take X σ).1 w' := by
  obtain ⟨T, nI, fsI, psI, hv, Hv, ⟨vl, vs, vb, va, vx⟩, v1, v2, v3, v4, v5, v6, p0, p1, p2, p3, p4, p5, p6, p7, sz, ne⟩ := vlP
  have hr := RsQ.start (T := T) h
  have hS := h.ltS
  have cT := next_ok _ X σ f 15 hr.st
  have hb := rtake_bd h
  have hfl := (take_fl X σ).trans hf
  have hkv := (kept_take X σ).v
  generalize take X σ = Y at *
  obtain ⟨c, σ1⟩ := Y
  simp only at *
  subst hc
  have HR : Hid _ := hr
  have HKV : Hid (σ1.v = σ.v) := hkv
  have HFL : Hid (σ1.fl = none) := hfl
  clear h hv hr hf hkv hfl
  go_enter Tryz.func21, Tryz.ntmps21
  try simp only [vl, vs, va, vb, vx]
  clear vl vs va vb vx
  obtain ⟨u0, u1, u2, u3, u4, u5, u6, u7, u8, u9, u10, u11, u12, u13, u14, u15, u16, u17, u18, u19, u20⟩ := ups21
  go_wp2_with fail
  refine cT.mono ?_; rintro e w1 ⟨rfl, hd1⟩
  have hr1 := HR.out.call hd1
  have z9 := hr1.st.fz 9
  have y9 := hr1.st.c9
  have hS1 := hr1.st.ltS
  have HR1 : Hid _ := hr1
  clear cT hd1 hr1 HR hS
  go_upto_region 2 with fail
  have hr2 := HR1.out.code 188
  obtain ⟨w2, hgen⟩ : ∃ W, W = w1.setCell ⟨X.S, 9, none⟩ (.int .i64 188) := ⟨_, rfl⟩
  rw [← hgen] at hr2 ⊢
  clear hgen z9 y9 HR1 hS1
  have c9 := hr2.st.c9
  have c2 := hr2.st.c2
  rw [he] at c2
  have c4 := hr2.st.c4
  rw [HKV.out] at c4
  have hS2 := hr2.st.ltS
  have pt2 := hr2.put Hv.out
  have HR2 : Hid _ := hr2
  clear hr2
  go_wp2_with fail
  refine (eg_t _ X σ1 f 188 HR2.out.st HFL.out _ _).mono ?_; rintro e w5 ⟨rfl, hd5⟩
  have hr5 := HR2.out.call hd5
  have pt5 := hr5.put Hv.out
  have HRE : Hid _ := hr5
  clear hd5 hr5
  go_wp2
  exact bodyPost_ret (v := _) (res1 rfl _ _ w.heap.size _ rfl (HRE.out.got Hv.out _)) rfl ⟨rfl, HRE.out.fin _⟩
theorem two_scan189 (w : World) (X : Cx) (σ : Sg) (f : Int × Int × Int) (h : RSt X w σ f 15) (hf : σ.fl = none) (he : (take X σ).2.err = 0) (hc : (take X σ).1 = 189) :
    Calls Tryz.prog 21 #[.pointer (some ⟨X.S, 0, none⟩)] w fun e w' => e = .returned (.agg (insV (egM X σ.v true { Ins.zero with op := 24, sub := 1 } (take X σ).2).1)) ∧ RDn X w (egM X σ.v true { Ins.zero with op := 24, sub := 1 } (take X σ).2).2.1 (egM X σ.v true { Ins.zero with op := 24, sub := 1 } (take X σ).2).2.2 (take X σ).1 w' := by
  obtain ⟨T, nI, fsI, psI, hv, Hv, ⟨vl, vs, vb, va, vx⟩, v1, v2, v3, v4, v5, v6, p0, p1, p2, p3, p4, p5, p6, p7, sz, ne⟩ := vlP
  have hr := RsQ.start (T := T) h
  have hS := h.ltS
  have cT := next_ok _ X σ f 15 hr.st
  have hb := rtake_bd h
  have hfl := (take_fl X σ).trans hf
  have hkv := (kept_take X σ).v
  generalize take X σ = Y at *
  obtain ⟨c, σ1⟩ := Y
  simp only at *
  subst hc
  have HR : Hid _ := hr
  have HKV : Hid (σ1.v = σ.v) := hkv
  have HFL : Hid (σ1.fl = none) := hfl
  clear h hv hr hf hkv hfl
  go_enter Tryz.func21, Tryz.ntmps21
  try simp only [vl, vs, va, vb, vx]
  clear vl vs va vb vx
  obtain ⟨u0, u1, u2, u3, u4, u5, u6, u7, u8, u9, u10, u11, u12, u13, u14, u15, u16, u17, u18, u19, u20⟩ := ups21
  go_wp2_with fail
  refine cT.mono ?_; rintro e w1 ⟨rfl, hd1⟩
  have hr1 := HR.out.call hd1
  have z9 := hr1.st.fz 9
  have y9 := hr1.st.c9
  have hS1 := hr1.st.ltS
  have HR1 : Hid _ := hr1
  clear cT hd1 hr1 HR hS
  go_upto_region 2 with fail
  have hr2 := HR1.out.code 189
  obtain ⟨w2, hgen⟩ : ∃ W, W = w1.setCell ⟨X.S, 9, none⟩ (.int .i64 189) := ⟨_, rfl⟩
  rw [← hgen] at hr2 ⊢
  clear hgen z9 y9 HR1 hS1
  have c9 := hr2.st.c9
  have c2 := hr2.st.c2
  rw [he] at c2
  have c4 := hr2.st.c4
  rw [HKV.out] at c4
  have hS2 := hr2.st.ltS
  have pt2 := hr2.put Hv.out
  have HR2 : Hid _ := hr2
  clear hr2
  go_wp2_with fail
  refine (eg_t _ X σ1 f 189 HR2.out.st HFL.out _ _).mono ?_; rintro e w5 ⟨rfl, hd5⟩
  have hr5 := HR2.out.call hd5
  have pt5 := hr5.put Hv.out
  have HRE : Hid _ := hr5
  clear hd5 hr5
  go_wp2
  exact bodyPost_ret (v := _) (res1 rfl _ _ w.heap.size _ rfl (HRE.out.got Hv.out _)) rfl ⟨rfl, HRE.out.fin _⟩
end Go.Proofs.YtbfccfhjgopnbaaGreat
