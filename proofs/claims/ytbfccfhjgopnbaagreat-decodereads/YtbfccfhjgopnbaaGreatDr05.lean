/- The document's reader, and the code's (DecSp, DecData, DecOp, DecTree, DecRun, DecPure, DecFit). -/
import Derived.Test.YtbfccfhjgopnbaaGreatDr03
import Derived.Deep.RegionWith
import Derived.LoopTactic
set_option linter.unusedSimpArgs false
namespace Go.Proofs.YtbfccfhjgopnbaaGreat
open Go.ChangeShapes Go.WideShapes Go.ChangeAt Go.RowKit
set_option linter.unusedVariables false
set_option maxRecDepth 100000
def gUn (s : Int) (X : Cx) (σ : Sg) : Sg :=
  let x := modrm X σ
  let n := x.1.2.1
  if n = 0 ∨ n = 1 then isM X 1 8 s [pE, pI] x.2 else if n = 2 then isM X 1 12 s [pE] x.2 else if n = 3 then isM X 1 11 s [pE] x.2 else if n = 4 ∨ n = 5 then isM X 4 (n - 4) s [pE] x.2 else isM X 6 (n - 6) s [pE] x.2
set_option maxHeartbeats 4000000 in
theorem unary_ok (w : World) (X : Cx) (σ : Sg) (h : St X w σ) (s : Int) (hs : s = 1 ∨ s = 2 ∨ s = 4) :
    Calls Tryz.prog 159 #[.pointer (some ⟨X.F, 0, none⟩), .int .i64 s] w fun e w' => e = .returned (.tuple #[]) ∧ Done X w (gUn s X σ) w' := by
  have cM := modrm_ok w X σ h
  have hbd := modrm_bd h
  obtain ⟨V, hV⟩ : ∃ V, V = gUn s X σ := ⟨_, rfl⟩
  rw [← hV]
  unfold gUn at hV
  obtain ⟨⟨m, n, r⟩, hm⟩ : ∃ x, x = (modrm X σ).1 := ⟨_, rfl⟩
  obtain ⟨σ1, hσ1⟩ : ∃ σ1, σ1 = (modrm X σ).2 := ⟨_, rfl⟩
  simp only [← hm, ← hσ1, mrV] at cM hbd hV
  obtain ⟨_, ⟨n0, n1⟩, _⟩ := hbd
  have fl1 := fld1
  have HS : Hid _ := hs
  have HV : Hid _ := hV
  clear hm hσ1 hV hs h
  rcases (by omega : n = 0 ∨ n = 1 ∨ n = 2 ∨ n = 3 ∨ n = 4 ∨ n = 5 ∨ n = 6 ∨ n = 7) with rfl | rfl | rfl | rfl | rfl | rfl | rfl | rfl
  · go_enter Tryz.func159, Tryz.ntmps159
    go_wp2_with fail
    refine cM.mono ?_; rintro e w1 ⟨rfl, h1, k1⟩
    have cI := is_gen (w1.alloc (.cells #[.func (.func 35) #[] #[], .func (.func 42) #[] #[]] 55)) X σ1 (h1.alloc _) 1 8 s w1.heap.size [⟨35, #[], pE⟩, ⟨42, #[], pI⟩] (by simp) h1.fresh (MapKept.heap_alloc w1 _).1 (by
      intro p hp
      simp at hp
      rcases hp with rfl | rfl
      · exact okE HS.out
      · exact okI HS.out)
    go_wp2_with fail
    refine cI.mono ?_; rintro e w2 ⟨rfl, hd⟩
    have Hd : Hid (Done X w V w2) := ⟨by rw [HV.out]; exact hd.1, (k1.trans (Kp.alloc X.own w1 _)).trans hd.2⟩
    clear hd k1 h1 cI cM
    go_wp2
    go_end0
    exact ⟨rfl, Hd.out⟩
  · go_enter Tryz.func159, Tryz.ntmps159
    go_wp2_with fail
    refine cM.mono ?_; rintro e w1 ⟨rfl, h1, k1⟩
    have cI := is_gen (w1.alloc (.cells #[.func (.func 35) #[] #[], .func (.func 42) #[] #[]] 55)) X σ1 (h1.alloc _) 1 8 s w1.heap.size [⟨35, #[], pE⟩, ⟨42, #[], pI⟩] (by simp) h1.fresh (MapKept.heap_alloc w1 _).1 (by
      intro p hp
      simp at hp
      rcases hp with rfl | rfl
      · exact okE HS.out
      · exact okI HS.out)
    go_wp2_with fail
    refine cI.mono ?_; rintro e w2 ⟨rfl, hd⟩
    have Hd : Hid (Done X w V w2) := ⟨by rw [HV.out]; exact hd.1, (k1.trans (Kp.alloc X.own w1 _)).trans hd.2⟩
    clear hd k1 h1 cI cM
    go_wp2
    go_end0
    exact ⟨rfl, Hd.out⟩
  · go_enter Tryz.func159, Tryz.ntmps159
    go_wp2_with fail
    refine cM.mono ?_; rintro e w1 ⟨rfl, h1, k1⟩
    have cI := is_gen (w1.alloc (.cells #[.func (.func 35) #[] #[]] 55)) X σ1 (h1.alloc _) 1 12 s w1.heap.size [⟨35, #[], pE⟩] (by simp) h1.fresh (MapKept.heap_alloc w1 _).1 (by
      intro p hp
      simp at hp
      subst hp
      exact okE HS.out)
    go_wp2_with fail
    refine cI.mono ?_; rintro e w2 ⟨rfl, hd⟩
    have Hd : Hid (Done X w V w2) := ⟨by rw [HV.out]; exact hd.1, (k1.trans (Kp.alloc X.own w1 _)).trans hd.2⟩
    clear hd k1 h1 cI cM
    go_wp2
    go_end0
    exact ⟨rfl, Hd.out⟩
  · go_enter Tryz.func159, Tryz.ntmps159
    go_wp2_with fail
    refine cM.mono ?_; rintro e w1 ⟨rfl, h1, k1⟩
    have cI := is_gen (w1.alloc (.cells #[.func (.func 35) #[] #[]] 55)) X σ1 (h1.alloc _) 1 11 s w1.heap.size [⟨35, #[], pE⟩] (by simp) h1.fresh (MapKept.heap_alloc w1 _).1 (by
      intro p hp
      simp at hp
      subst hp
      exact okE HS.out)
    go_wp2_with fail
    refine cI.mono ?_; rintro e w2 ⟨rfl, hd⟩
    have Hd : Hid (Done X w V w2) := ⟨by rw [HV.out]; exact hd.1, (k1.trans (Kp.alloc X.own w1 _)).trans hd.2⟩
    clear hd k1 h1 cI cM
    go_wp2
    go_end0
    exact ⟨rfl, Hd.out⟩
  · go_enter Tryz.func159, Tryz.ntmps159
    go_wp2_with fail
    refine cM.mono ?_; rintro e w1 ⟨rfl, h1, k1⟩
    have cI := is_gen (w1.alloc (.cells #[.func (.func 35) #[] #[]] 55)) X σ1 (h1.alloc _) 4 0 s w1.heap.size [⟨35, #[], pE⟩] (by simp) h1.fresh (MapKept.heap_alloc w1 _).1 (by
      intro p hp
      simp at hp
      subst hp
      exact okE HS.out)
    go_wp2_with fail
    refine cI.mono ?_; rintro e w2 ⟨rfl, hd⟩
    have Hd : Hid (Done X w V w2) := ⟨by rw [HV.out]; exact hd.1, (k1.trans (Kp.alloc X.own w1 _)).trans hd.2⟩
    clear hd k1 h1 cI cM
    go_wp2
    go_end0
    exact ⟨rfl, Hd.out⟩
  · go_enter Tryz.func159, Tryz.ntmps159
    go_wp2_with fail
    refine cM.mono ?_; rintro e w1 ⟨rfl, h1, k1⟩
    have cI := is_gen (w1.alloc (.cells #[.func (.func 35) #[] #[]] 55)) X σ1 (h1.alloc _) 4 1 s w1.heap.size [⟨35, #[], pE⟩] (by simp) h1.fresh (MapKept.heap_alloc w1 _).1 (by
      intro p hp
      simp at hp
      subst hp
      exact okE HS.out)
    go_wp2_with fail
    refine cI.mono ?_; rintro e w2 ⟨rfl, hd⟩
    have Hd : Hid (Done X w V w2) := ⟨by rw [HV.out]; exact hd.1, (k1.trans (Kp.alloc X.own w1 _)).trans hd.2⟩
    clear hd k1 h1 cI cM
    go_wp2
    go_end0
    exact ⟨rfl, Hd.out⟩
  · go_enter Tryz.func159, Tryz.ntmps159
    go_wp2_with fail
    refine cM.mono ?_; rintro e w1 ⟨rfl, h1, k1⟩
    have cI := is_gen (w1.alloc (.cells #[.func (.func 35) #[] #[]] 55)) X σ1 (h1.alloc _) 6 0 s w1.heap.size [⟨35, #[], pE⟩] (by simp) h1.fresh (MapKept.heap_alloc w1 _).1 (by
      intro p hp
      simp at hp
      subst hp
      exact okE HS.out)
    go_wp2_with fail
    refine cI.mono ?_; rintro e w2 ⟨rfl, hd⟩
    have Hd : Hid (Done X w V w2) := ⟨by rw [HV.out]; exact hd.1, (k1.trans (Kp.alloc X.own w1 _)).trans hd.2⟩
    clear hd k1 h1 cI cM
    go_wp2
    go_end0
    exact ⟨rfl, Hd.out⟩
  · go_enter Tryz.func159, Tryz.ntmps159
    go_wp2_with fail
    refine cM.mono ?_; rintro e w1 ⟨rfl, h1, k1⟩
    have cI := is_gen (w1.alloc (.cells #[.func (.func 35) #[] #[]] 55)) X σ1 (h1.alloc _) 6 1 s w1.heap.size [⟨35, #[], pE⟩] (by simp) h1.fresh (MapKept.heap_alloc w1 _).1 (by
      intro p hp
      simp at hp
      subst hp
      exact okE HS.out)
    go_wp2_with fail
    refine cI.mono ?_; rintro e w2 ⟨rfl, hd⟩
    have Hd : Hid (Done X w V w2) := ⟨by rw [HV.out]; exact hd.1, (k1.trans (Kp.alloc X.own w1 _)).trans hd.2⟩
    clear hd k1 h1 cI cM
    go_wp2
    go_end0
    exact ⟨rfl, Hd.out⟩
theorem rE0_19 : RuleOk 158 (gUn 1) := by
  intro w X σ h
  have c := unary_ok w X σ h 1 (by decide)
  clear h
  go_enter Tryz.func158, Tryz.ntmps158
  go_wp2_with fail
  refine c.mono ?_; rintro e w1 ⟨rfl, hd⟩
  go_wp2
  go_end0
  exact ⟨rfl, hd⟩
theorem rE0_20 : RuleOk 160 (fun X σ => gUn σ.v X σ) := by
  intro w X σ h
  have f3 := h.f3
  have c := unary_ok w X σ h σ.v h.vs
  clear h
  go_enter Tryz.func160, Tryz.ntmps160
  go_wp2_with fail
  refine c.mono ?_; rintro e w1 ⟨rfl, hd⟩
  go_wp2
  go_end0
  exact ⟨rfl, hd⟩
def gFF (X : Cx) (σ : Sg) : Sg :=
  let x := modrm X σ
  if x.1.2.1 = 0 then isM X 1 9 x.2.v [pE] x.2 else if x.1.2.1 = 1 then isM X 1 10 x.2.v [pE] x.2 else if x.1.2.1 = 2 then isM X 29 0 x.2.v [pE] x.2 else if x.1.2.1 = 4 then isM X 27 0 x.2.v [pE] x.2 else if x.1.2.1 = 6 then isM X 12 0 x.2.v [pE] x.2 else refuse x.2
set_option maxHeartbeats 4000000 in
theorem gFF_ok : RuleOk 168 gFF := by
  intro w X σ h
  obtain ⟨V, hV⟩ : ∃ V, V = gFF X σ := ⟨_, rfl⟩
  rw [← hV]
  unfold gFF at hV
  have cM := fun W (hW : St X W σ) => modrm_ok W X σ hW
  have hbd := fun W (hW : St X W σ) => modrm_bd hW
  obtain ⟨⟨m, n, r⟩, hm⟩ : ∃ x, x = (modrm X σ).1 := ⟨_, rfl⟩
  obtain ⟨σ1, hσ1⟩ : ∃ σ1, σ1 = (modrm X σ).2 := ⟨_, rfl⟩
  simp only [← hm, ← hσ1, mrV] at cM hbd hV
  have fl1 := fld1
  have HV : Hid _ := hV
  have HM : Hid _ := cM
  have HB : Hid _ := hbd
  have Hst : Hid (St X w σ) := h
  clear hm hσ1 hV cM hbd h
  go_enter Tryz.func168, Tryz.ntmps168
  go_wp2_with fail
  refine (HM.out _ Hst.out).mono ?_; rintro e w1 ⟨rfl, h1, k1⟩
  obtain ⟨_, ⟨n0, n1⟩, _⟩ := HB.out _ Hst.out
  have f3 := h1.f3
  have f1 := h1.f1
  have H1 : Hid (St X w1 σ1) := h1
  have K1 : Hid (Kp X.own w w1) := k1
  clear h1 k1
  rcases (by omega : n = 0 ∨ n = 1 ∨ n = 2 ∨ n = 3 ∨ n = 4 ∨ n = 5 ∨ n = 6 ∨ n = 7) with rfl | rfl | rfl | rfl | rfl | rfl | rfl | rfl
  · have cI := is_gen (w1.alloc (.cells #[.func (.func 35) #[] #[]] 55)) X σ1 (H1.out.alloc _) 1 9 σ1.v w1.heap.size [⟨35, #[], pE⟩] (by simp) H1.out.fresh (MapKept.heap_alloc w1 _).1 (by
      intro p hp
      simp at hp
      subst hp
      exact okE H1.out.vs)
    go_wp2_with fail
    refine cI.mono ?_; rintro e w2 ⟨rfl, hd⟩
    have Hd : Hid (Done X w V w2) := ⟨by rw [HV.out]; exact hd.1, (K1.out.trans (Kp.alloc X.own w1 _)).trans hd.2⟩
    clear hd cI
    go_wp2
    go_end0
    exact ⟨rfl, Hd.out⟩
  · have cI := is_gen (w1.alloc (.cells #[.func (.func 35) #[] #[]] 55)) X σ1 (H1.out.alloc _) 1 10 σ1.v w1.heap.size [⟨35, #[], pE⟩] (by simp) H1.out.fresh (MapKept.heap_alloc w1 _).1 (by
      intro p hp
      simp at hp
      subst hp
      exact okE H1.out.vs)
    go_wp2_with fail
    refine cI.mono ?_; rintro e w2 ⟨rfl, hd⟩
    have Hd : Hid (Done X w V w2) := ⟨by rw [HV.out]; exact hd.1, (K1.out.trans (Kp.alloc X.own w1 _)).trans hd.2⟩
    clear hd cI
    go_wp2
    go_end0
    exact ⟨rfl, Hd.out⟩
  · have cI := is_gen (w1.alloc (.cells #[.func (.func 35) #[] #[]] 55)) X σ1 (H1.out.alloc _) 29 0 σ1.v w1.heap.size [⟨35, #[], pE⟩] (by simp) H1.out.fresh (MapKept.heap_alloc w1 _).1 (by
      intro p hp
      simp at hp
      subst hp
      exact okE H1.out.vs)
    go_wp2_with fail
    refine cI.mono ?_; rintro e w2 ⟨rfl, hd⟩
    have Hd : Hid (Done X w V w2) := ⟨by rw [HV.out]; exact hd.1, (K1.out.trans (Kp.alloc X.own w1 _)).trans hd.2⟩
    clear hd cI
    go_wp2
    go_end0
    exact ⟨rfl, Hd.out⟩
  · have cR := refuse_ok w1 X σ1 H1.out
    go_wp2_with fail
    refine cR.mono ?_; rintro e w2 ⟨rfl, hd⟩
    have Hd : Hid (Done X w V w2) := ⟨by rw [HV.out]; exact hd.1, K1.out.trans hd.2⟩
    clear hd cR
    go_wp2
    go_end0
    exact ⟨rfl, Hd.out⟩
  · have cI := is_gen (w1.alloc (.cells #[.func (.func 35) #[] #[]] 55)) X σ1 (H1.out.alloc _) 27 0 σ1.v w1.heap.size [⟨35, #[], pE⟩] (by simp) H1.out.fresh (MapKept.heap_alloc w1 _).1 (by
      intro p hp
      simp at hp
      subst hp
      exact okE H1.out.vs)
    go_wp2_with fail
    refine cI.mono ?_; rintro e w2 ⟨rfl, hd⟩
    have Hd : Hid (Done X w V w2) := ⟨by rw [HV.out]; exact hd.1, (K1.out.trans (Kp.alloc X.own w1 _)).trans hd.2⟩
    clear hd cI
    go_wp2
    go_end0
    exact ⟨rfl, Hd.out⟩
  · have cR := refuse_ok w1 X σ1 H1.out
    go_wp2_with fail
    refine cR.mono ?_; rintro e w2 ⟨rfl, hd⟩
    have Hd : Hid (Done X w V w2) := ⟨by rw [HV.out]; exact hd.1, K1.out.trans hd.2⟩
    clear hd cR
    go_wp2
    go_end0
    exact ⟨rfl, Hd.out⟩
  · have cI := is_gen (w1.alloc (.cells #[.func (.func 35) #[] #[]] 55)) X σ1 (H1.out.alloc _) 12 0 σ1.v w1.heap.size [⟨35, #[], pE⟩] (by simp) H1.out.fresh (MapKept.heap_alloc w1 _).1 (by
      intro p hp
      simp at hp
      subst hp
      exact okE H1.out.vs)
    go_wp2_with fail
    refine cI.mono ?_; rintro e w2 ⟨rfl, hd⟩
    have Hd : Hid (Done X w V w2) := ⟨by rw [HV.out]; exact hd.1, (K1.out.trans (Kp.alloc X.own w1 _)).trans hd.2⟩
    clear hd cI
    go_wp2
    go_end0
    exact ⟨rfl, Hd.out⟩
  · have cR := refuse_ok w1 X σ1 H1.out
    go_wp2_with fail
    refine cR.mono ?_; rintro e w2 ⟨rfl, hd⟩
    have Hd : Hid (Done X w V w2) := ⟨by rw [HV.out]; exact hd.1, K1.out.trans hd.2⟩
    clear hd cR
    go_wp2
    go_end0
    exact ⟨rfl, Hd.out⟩
def gSys (X : Cx) (σ : Sg) : Sg :=
  let x := modrm X (onlyMem X σ)
  if x.1.2.1 = 2 then isM X 42 0 4 [pE] x.2 else if x.1.2.1 = 3 then isM X 43 0 4 [pE] x.2 else if x.1.2.1 = 7 then isM X 46 0 4 [pE] x.2 else refuse x.2
set_option maxHeartbeats 4000000 in
theorem gSys_ok : RuleOk 170 gSys := by
  intro w X σ h
  obtain ⟨V, hV⟩ : ∃ V, V = gSys X σ := ⟨_, rfl⟩
  rw [← hV]
  unfold gSys at hV
  have cO := onlyMem_ok w X σ h
  obtain ⟨σa, hσa⟩ : ∃ σa, σa = onlyMem X σ := ⟨_, rfl⟩
  rw [← hσa] at cO hV
  clear hσa
  have cM := fun W (hW : St X W σa) => modrm_ok W X σa hW
  have hbd := fun W (hW : St X W σa) => modrm_bd hW
  obtain ⟨⟨m, n, r⟩, hm⟩ : ∃ x, x = (modrm X σa).1 := ⟨_, rfl⟩
  obtain ⟨σ1, hσ1⟩ : ∃ σ1, σ1 = (modrm X σa).2 := ⟨_, rfl⟩
  simp only [← hm, ← hσ1, mrV] at cM hbd hV
  have fl1 := fld1
  have HV : Hid _ := hV
  have HM : Hid _ := cM
  have HB : Hid _ := hbd
  have Hst : Hid (St X w σ) := h
  clear hm hσ1 hV cM hbd h
  go_enter Tryz.func170, Tryz.ntmps170
  go_wp2_with fail
  refine cO.mono ?_; rintro e wa ⟨rfl, ha, ka⟩
  go_wp2_with fail
  refine (HM.out _ ha).mono ?_; rintro e w1 ⟨rfl, h1, k1⟩
  replace k1 := ka.trans k1
  obtain ⟨_, ⟨n0, n1⟩, _⟩ := HB.out _ ha
  have f3 := h1.f3
  have f1 := h1.f1
  have H1 : Hid (St X w1 σ1) := h1
  have K1 : Hid (Kp X.own w w1) := k1
  clear h1 k1 ha ka cO
  rcases (by omega : n = 0 ∨ n = 1 ∨ n = 2 ∨ n = 3 ∨ n = 4 ∨ n = 5 ∨ n = 6 ∨ n = 7) with rfl | rfl | rfl | rfl | rfl | rfl | rfl | rfl
  · have cR := refuse_ok w1 X σ1 H1.out
    go_wp2_with fail
    refine cR.mono ?_; rintro e w2 ⟨rfl, hd⟩
    have Hd : Hid (Done X w V w2) := ⟨by rw [HV.out]; exact hd.1, K1.out.trans hd.2⟩
    clear hd cR
    go_wp2
    go_end0
    exact ⟨rfl, Hd.out⟩
  · have cR := refuse_ok w1 X σ1 H1.out
    go_wp2_with fail
    refine cR.mono ?_; rintro e w2 ⟨rfl, hd⟩
    have Hd : Hid (Done X w V w2) := ⟨by rw [HV.out]; exact hd.1, K1.out.trans hd.2⟩
    clear hd cR
    go_wp2
    go_end0
    exact ⟨rfl, Hd.out⟩
  · have cI := is_gen (w1.alloc (.cells #[.func (.func 35) #[] #[]] 55)) X σ1 (H1.out.alloc _) 42 0 4 w1.heap.size [⟨35, #[], pE⟩] (by simp) H1.out.fresh (MapKept.heap_alloc w1 _).1 (by
      intro p hp
      simp at hp
      subst hp
      exact okE (by decide))
    go_wp2_with fail
    refine cI.mono ?_; rintro e w2 ⟨rfl, hd⟩
    have Hd : Hid (Done X w V w2) := ⟨by rw [HV.out]; exact hd.1, (K1.out.trans (Kp.alloc X.own w1 _)).trans hd.2⟩
    clear hd cI
    go_wp2
    go_end0
    exact ⟨rfl, Hd.out⟩
  · have cI := is_gen (w1.alloc (.cells #[.func (.func 35) #[] #[]] 55)) X σ1 (H1.out.alloc _) 43 0 4 w1.heap.size [⟨35, #[], pE⟩] (by simp) H1.out.fresh (MapKept.heap_alloc w1 _).1 (by
      intro p hp
      simp at hp
      subst hp
      exact okE (by decide))
    go_wp2_with fail
    refine cI.mono ?_; rintro e w2 ⟨rfl, hd⟩
    have Hd : Hid (Done X w V w2) := ⟨by rw [HV.out]; exact hd.1, (K1.out.trans (Kp.alloc X.own w1 _)).trans hd.2⟩
    clear hd cI
    go_wp2
    go_end0
    exact ⟨rfl, Hd.out⟩
  · have cR := refuse_ok w1 X σ1 H1.out
    go_wp2_with fail
    refine cR.mono ?_; rintro e w2 ⟨rfl, hd⟩
    have Hd : Hid (Done X w V w2) := ⟨by rw [HV.out]; exact hd.1, K1.out.trans hd.2⟩
    clear hd cR
    go_wp2
    go_end0
    exact ⟨rfl, Hd.out⟩
  · have cR := refuse_ok w1 X σ1 H1.out
    go_wp2_with fail
    refine cR.mono ?_; rintro e w2 ⟨rfl, hd⟩
    have Hd : Hid (Done X w V w2) := ⟨by rw [HV.out]; exact hd.1, K1.out.trans hd.2⟩
    clear hd cR
    go_wp2
    go_end0
    exact ⟨rfl, Hd.out⟩
  · have cR := refuse_ok w1 X σ1 H1.out
    go_wp2_with fail
    refine cR.mono ?_; rintro e w2 ⟨rfl, hd⟩
    have Hd : Hid (Done X w V w2) := ⟨by rw [HV.out]; exact hd.1, K1.out.trans hd.2⟩
    clear hd cR
    go_wp2
    go_end0
    exact ⟨rfl, Hd.out⟩
  · have cI := is_gen (w1.alloc (.cells #[.func (.func 35) #[] #[]] 55)) X σ1 (H1.out.alloc _) 46 0 4 w1.heap.size [⟨35, #[], pE⟩] (by simp) H1.out.fresh (MapKept.heap_alloc w1 _).1 (by
      intro p hp
      simp at hp
      subst hp
      exact okE (by decide))
    go_wp2_with fail
    refine cI.mono ?_; rintro e w2 ⟨rfl, hd⟩
    have Hd : Hid (Done X w V w2) := ⟨by rw [HV.out]; exact hd.1, (K1.out.trans (Kp.alloc X.own w1 _)).trans hd.2⟩
    clear hd cI
    go_wp2
    go_end0
    exact ⟨rfl, Hd.out⟩
def gLea (X : Cx) (σ : Sg) : Sg := isM X 11 0 (onlyMem X σ).v [pG, pE] (onlyMem X σ)
theorem gLea_ok : RuleOk 84 gLea := by
  intro w X σ h
  have cO := onlyMem_ok w X σ h
  unfold gLea
  obtain ⟨σa, hσa⟩ : ∃ σa, σa = onlyMem X σ := ⟨_, rfl⟩
  rw [← hσa] at cO ⊢
  clear hσa h
  go_enter Tryz.func84, Tryz.ntmps84
  go_wp2_with fail
  refine cO.mono ?_; rintro e wa ⟨rfl, ha, ka⟩
  have f3 := ha.f3
  have cI := is_gen (wa.alloc (.cells #[.func (.func 36) #[] #[], .func (.func 35) #[] #[]] 55)) X σa (ha.alloc _) 11 0 σa.v wa.heap.size [⟨36, #[], pG⟩, ⟨35, #[], pE⟩] (by simp) ha.fresh (MapKept.heap_alloc wa _).1 (by
    intro p hp
    simp at hp
    rcases hp with rfl | rfl
    · exact okG ha.vs
    · exact okE ha.vs)
  go_wp2_with fail
  refine cI.mono ?_; rintro e w2 ⟨rfl, hd⟩
  have Hd : Hid (Done X w _ w2) := ⟨hd.1, (ka.trans (Kp.alloc X.own wa _)).trans hd.2⟩
  clear hd cI ha ka cO
  go_wp2
  go_end0
  exact ⟨rfl, Hd.out⟩
def gTo (X : Cx) (σ : Sg) : Sg := isM X 8 0 2 [pSeg (modrm X (onlyM X [0, 2, 3, 4, 5] σ)).1.2.1, pE] (modrm X (onlyM X [0, 2, 3, 4, 5] σ)).2
set_option maxHeartbeats 2000000 in
theorem gTo_ok : RuleOk 85 gTo := by
  intro w X σ h
  unfold gTo
  have h0 : St X (w.alloc (.cells #[.int .i64 0, .int .i64 2, .int .i64 3, .int .i64 4, .int .i64 5] 3)) σ := h.alloc _
  have hn0 := (MapKept.heap_alloc w (.cells #[.int .i64 0, .int .i64 2, .int .i64 3, .int .i64 4, .int .i64 5] 3)).1
  have cO := only_ok _ X σ h0 w.heap.size 5 [0, 2, 3, 4, 5] rfl (by decide) h.fresh (fun j hj => by
    rcases (by omega : j = 0 ∨ j = 1 ∨ j = 2 ∨ j = 3 ∨ j = 4) with rfl | rfl | rfl | rfl | rfl <;> (unfold World.cell?; rw [hn0]; rfl))
  obtain ⟨σa, hσa⟩ : ∃ σa, σa = onlyM X [0, 2, 3, 4, 5] σ := ⟨_, rfl⟩
  rw [← hσa] at cO ⊢
  have cM := fun W (hW : St X W σa) => modrm_ok W X σa hW
  obtain ⟨⟨m, n, r⟩, hm⟩ : ∃ x, x = (modrm X σa).1 := ⟨_, rfl⟩
  obtain ⟨σ1, hσ1⟩ : ∃ σ1, σ1 = (modrm X σa).2 := ⟨_, rfl⟩
  rw [← hm, ← hσ1]
  simp only [← hm, ← hσ1, mrV] at cM ⊢
  have fl1 := fld1
  have HM : Hid _ := cM
  clear hσa h h0 hn0 hm hσ1 cM
  go_enter Tryz.func85, Tryz.ntmps85
  go_wp2_with fail
  refine cO.mono ?_; rintro e wa ⟨rfl, ha, ka⟩
  replace ka := (Kp.alloc X.own w _).trans ka
  clear cO
  go_wp2_with fail
  refine (HM.out _ ha).mono ?_; rintro e w1 ⟨rfl, h1, k1⟩
  go_wp2_with fail
  refine (segment_ok _ _).mono ?_; rintro e w3 ⟨rfl, hw⟩; subst hw
  have cI := is_gen ((w1.alloc (.cells #[.int .i64 n] 3)).alloc (.cells #[.func (.func 221) #[] #[.pointer (some ⟨w1.heap.size, 0, none⟩)], .func (.func 35) #[] #[]] 55)) X σ1 ((h1.alloc _).alloc _) 8 0 2 (w1.heap.size + 1) [⟨221, #[.pointer (some ⟨w1.heap.size, 0, none⟩)], pSeg n⟩, ⟨35, #[], pE⟩] (by simp) h1.fresh1 (heap2 w1 _ _) (by
    intro p hp
    simp at hp
    rcases hp with rfl | rfl
    · exact seg_ok h1.fresh (cell_kept (cell_new w1 (.int .i64 n) 3) (Kp.alloc X.own _ _) h1.fresh)
    · exact okE (by decide))
  go_wp2_with fail
  refine cI.mono ?_; rintro e w2 ⟨rfl, hd⟩
  have Hd : Hid (Done X w _ w2) := ⟨hd.1, (((ka.trans k1).trans (Kp.alloc X.own _ _)).trans (Kp.alloc X.own _ _)).trans hd.2⟩
  clear hd cI ha ka h1 k1
  go_wp2
  go_end0
  exact ⟨rfl, Hd.out⟩
def gFrom (X : Cx) (σ : Sg) : Sg :=
  let x := modrm X (onlyM X [0, 1, 2, 3, 4, 5] σ)
  let y := modrm X x.2
  isM X 8 0 (if x.1.1 = 3 then x.2.v else 2) [pE, pSeg y.1.2.1] y.2
set_option maxHeartbeats 4000000 in
theorem gFrom_ok : RuleOk 83 gFrom := by
  intro w X σ h
  unfold gFrom
  have h0 : St X (w.alloc (.cells #[.int .i64 0, .int .i64 1, .int .i64 2, .int .i64 3, .int .i64 4, .int .i64 5] 3)) σ := h.alloc _
  have hn0 := (MapKept.heap_alloc w (.cells #[.int .i64 0, .int .i64 1, .int .i64 2, .int .i64 3, .int .i64 4, .int .i64 5] 3)).1
  have cO := only_ok _ X σ h0 w.heap.size 6 [0, 1, 2, 3, 4, 5] rfl (by decide) h.fresh (fun j hj => by
    rcases (by omega : j = 0 ∨ j = 1 ∨ j = 2 ∨ j = 3 ∨ j = 4 ∨ j = 5) with rfl | rfl | rfl | rfl | rfl | rfl <;> (unfold World.cell?; rw [hn0]; rfl))
  obtain ⟨σa, hσa⟩ : ∃ σa, σa = onlyM X [0, 1, 2, 3, 4, 5] σ := ⟨_, rfl⟩
  rw [← hσa] at cO ⊢
  have cM := fun W (hW : St X W σa) => modrm_ok W X σa hW
  obtain ⟨⟨m, n, r⟩, hm⟩ : ∃ x, x = (modrm X σa).1 := ⟨_, rfl⟩
  obtain ⟨σ1, hσ1⟩ : ∃ σ1, σ1 = (modrm X σa).2 := ⟨_, rfl⟩
  have cM2 := fun W (hW : St X W σ1) => modrm_ok W X σ1 hW
  obtain ⟨⟨m2, n2, r2⟩, hm2⟩ : ∃ x, x = (modrm X σ1).1 := ⟨_, rfl⟩
  obtain ⟨σ2, hσ2⟩ : ∃ σ2, σ2 = (modrm X σ1).2 := ⟨_, rfl⟩
  simp only [← hm, ← hσ1, ← hm2, ← hσ2, mrV] at cM cM2 ⊢
  obtain ⟨s, hs⟩ : ∃ s, s = if m = 3 then σ1.v else 2 := ⟨_, rfl⟩
  rw [← hs]
  have fl0 := fld0
  have fl1 := fld1
  have HM : Hid _ := cM
  have HM2 : Hid _ := cM2
  have HS : Hid _ := hs
  clear hσa h h0 hn0 hm hσ1 cM hm2 hσ2 cM2 hs
  go_enter Tryz.func83, Tryz.ntmps83
  go_wp2_with fail
  refine cO.mono ?_; rintro e wa ⟨rfl, ha, ka⟩
  replace ka := (Kp.alloc X.own w _).trans ka
  clear cO
  go_wp2_with fail
  refine (HM.out _ ha).mono ?_; rintro e w1 ⟨rfl, h1, k1⟩
  have f3 := h1.f3
  by_cases h3 : m = 3
  · have hs1 : σ1.v = s := by rw [HS.out, if_pos h3]
    have hsz : s = 1 ∨ s = 2 ∨ s = 4 := by rw [← hs1]; exact h1.vs
    rw [hs1] at f3
    have HZ : Hid _ := hsz
    clear hsz hs1
    go_wp2_with fail
    refine (HM2.out _ h1).mono ?_; rintro e w2 ⟨rfl, h2, k2⟩
    go_wp2_with fail
    refine (segment_ok _ _).mono ?_; rintro e w3 ⟨rfl, hw⟩; subst hw
    have cI := is_gen ((w2.alloc (.cells #[.int .i64 n2] 3)).alloc (.cells #[.func (.func 35) #[] #[], .func (.func 221) #[] #[.pointer (some ⟨w2.heap.size, 0, none⟩)]] 55)) X σ2 ((h2.alloc _).alloc _) 8 0 s (w2.heap.size + 1) [⟨35, #[], pE⟩, ⟨221, #[.pointer (some ⟨w2.heap.size, 0, none⟩)], pSeg n2⟩] (by simp) h2.fresh1 (heap2 w2 _ _) (by
      intro p hp
      simp at hp
      rcases hp with rfl | rfl
      · exact okE HZ.out
      · exact seg_ok h2.fresh (cell_kept (cell_new w2 (.int .i64 n2) 3) (Kp.alloc X.own _ _) h2.fresh))
    go_wp2_with fail
    refine cI.mono ?_; rintro e w4 ⟨rfl, hd⟩
    have Hd : Hid (Done X w _ w4) := ⟨hd.1, ((((ka.trans k1).trans k2).trans (Kp.alloc X.own _ _)).trans (Kp.alloc X.own _ _)).trans hd.2⟩
    clear hd cI ha ka h1 k1 h2 k2
    go_wp2
    go_end0
    exact ⟨rfl, Hd.out⟩
  · have hs1 : s = 2 := by rw [HS.out, if_neg h3]
    have HS1 : Hid _ := hs1
    clear hs1
    go_wp2_with fail
    refine (HM2.out _ h1).mono ?_; rintro e w2 ⟨rfl, h2, k2⟩
    go_wp2_with fail
    refine (segment_ok _ _).mono ?_; rintro e w3 ⟨rfl, hw⟩; subst hw
    have cI := is_gen ((w2.alloc (.cells #[.int .i64 n2] 3)).alloc (.cells #[.func (.func 35) #[] #[], .func (.func 221) #[] #[.pointer (some ⟨w2.heap.size, 0, none⟩)]] 55)) X σ2 ((h2.alloc _).alloc _) 8 0 2 (w2.heap.size + 1) [⟨35, #[], pE⟩, ⟨221, #[.pointer (some ⟨w2.heap.size, 0, none⟩)], pSeg n2⟩] (by simp) h2.fresh1 (heap2 w2 _ _) (by
      intro p hp
      simp at hp
      rcases hp with rfl | rfl
      · exact okE (by decide)
      · exact seg_ok h2.fresh (cell_kept (cell_new w2 (.int .i64 n2) 3) (Kp.alloc X.own _ _) h2.fresh))
    go_wp2_with fail
    refine cI.mono ?_; rintro e w4 ⟨rfl, hd⟩
    have Hd : Hid (Done X w (isM X 8 0 2 [pE, pSeg n2] σ2) w4) := ⟨hd.1, ((((ka.trans k1).trans k2).trans (Kp.alloc X.own _ _)).trans (Kp.alloc X.own _ _)).trans hd.2⟩
    clear hd cI ha ka h1 k1 h2 k2
    go_wp2
    go_end0
    rw [HS1.out]
    exact ⟨rfl, Hd.out⟩
end Go.Proofs.YtbfccfhjgopnbaaGreat
namespace Go.Proofs.YtbfccfhjgopnbaaGreat
open Go.ChangeShapes Go.WideShapes Go.ChangeAt Go.RowKit
set_option linter.unusedVariables false
/-- What is told of the sub-number. -/
inductive Sb
  | k (x : Int)
  | opn
  | opc
  | mn
  | mp9
  | mm4
  deriving DecidableEq
inductive Szk
  | k (x : Int)
  | v
  deriving DecidableEq
inductive Gt
  | no
  | only (L : List Int)
  | mem
  deriving DecidableEq
inductive Pt
  | A
  | CL
  | DX
  | R
  | G
  | Rm
  | Cr
  | I
  | Ib
  | Iw
  | Is
  | J
  | Jb
  | Far
  | O
  | E
  | Eb
  | Ew
  | Seg (r : Int)
  | Num (r : Int)
  deriving DecidableEq
def Pt.f : Pt → Cx → Int → Sg → Opd × Sg
  | .A => pA
  | .CL => pCL
  | .DX => pDX
  | .R => pR
  | .G => pG
  | .Rm => pRm
  | .Cr => pCr
  | .I => pI
  | .Ib => pIb
  | .Iw => pIw
  | .Is => pIs
  | .J => pJ
  | .Jb => pJb
  | .Far => pFar
  | .O => pO
  | .E => pE
  | .Eb => pEb
  | .Ew => pEw
  | .Seg r => pSeg r
  | .Num r => pNum r
structure Row where
  gt : Gt
  op : Int
  sb : Sb
  sz : Szk
  ps : List Pt
  deriving DecidableEq
def Szk.of (z : Szk) (σ : Sg) : Int := match z with | .k x => x | .v => σ.v
def Gt.g (t : Gt) (X : Cx) (σ : Sg) : Sg := match t with | .no => σ | .only L => onlyM X L σ | .mem => onlyMem X σ
def Row.is (r : Row) (X : Cx) (σ : Sg) : Sg :=
  match r.sb with
  | .k x => isM X r.op x (r.sz.of σ) (r.ps.map Pt.f) σ
  | .opn => isM X r.op (σ.op / 8 % 8) (r.sz.of σ) (r.ps.map Pt.f) σ
  | .opc => isM X r.op (σ.op % 16) (r.sz.of σ) (r.ps.map Pt.f) σ
  | .mn => isM X r.op (modrm X σ).1.2.1 (r.sz.of σ) (r.ps.map Pt.f) (modrm X σ).2
  | .mp9 => isM X r.op (9 + (modrm X σ).1.2.1) (r.sz.of σ) (r.ps.map Pt.f) (modrm X σ).2
  | .mm4 => isM X r.op ((modrm X σ).1.2.1 - 4) (r.sz.of σ) (r.ps.map Pt.f) (modrm X σ).2
def Row.g (r : Row) (X : Cx) (σ : Sg) : Sg := r.is X (r.gt.g X σ)
/-- What an opcode asks. -/
inductive Rule
  | row (r : Row)
  | str (sub : Int) (z : Szk)
  | un (z : Szk)
  | ff
  | sys
  | to
  | frm
  deriving DecidableEq
def Rule.g : Rule → Cx → Sg → Sg
  | .row r, X, σ => r.g X σ
  | .str sub z, X, σ => isStr X sub (z.of σ) σ
  | .un z, X, σ => gUn (z.of σ) X σ
  | .ff, X, σ => gFF X σ
  | .sys, X, σ => gSys X σ
  | .to, X, σ => gTo X σ
  | .frm, X, σ => gFrom X σ
/-- A rule's function does what its row says, and can be called. -/
def RowOk (n : Nat) (r : Rule) : Prop := RuleOk n r.g ∧ ∀ (a : Value) (w : World), (callFunc n #[a]).run Tryz.prog w = .ok (.enter n #[a]) w
end Go.Proofs.YtbfccfhjgopnbaaGreat
namespace Go.Proofs.YtbfccfhjgopnbaaGreat
open Go.ChangeShapes Go.WideShapes Go.ChangeAt Go.RowKit
set_option linter.unusedVariables false
def preL (X : Cx) : Nat → Int → Sg → Int × Sg
  | 0, b, σ => (b, σ)
  | n + 1, b, σ => if isPre b = true then preL X n (take X (preS b σ)).1 (take X (preS b σ)).2 else (b, σ)
def opcodeM (X : Cx) (σ : Sg) : Int × Sg :=
  let p := preL X 16 (take X σ).1 (take X σ).2
  if p.1 = 15 then (3840 + (take X p.2).1, (take X p.2).2) else p
theorem preS_at (b : Int) (σ : Sg) : (preS b σ).at' = σ.at' ∧ (preS b σ).err = σ.err := by
  unfold preS
  repeat' split
  all_goals exact ⟨rfl, rfl⟩
/-- A byte that is a prefix was there. -/
theorem take_pre (X : Cx) (σ : Sg) (h : isPre (take X σ).1 = true) : (take X σ).2.at' = σ.at' + 1 ∧ (take X σ).2.err = 0 := by
  revert h
  unfold take
  split
  · intro h; cases h
  · rename_i he
    split
    · intro h; cases h
    · split
      · intro h; cases h
      · intro _; exact ⟨rfl, by simpa using he⟩
def mM (σ : Sg) : Nat := 2 * (16 - σ.at') + if σ.err = 0 then 1 else 0
theorem take_less (X : Cx) (σ : Sg) (h : σ.err = 0) (hl : σ.at' ≤ 15) : mM (take X σ).2 < mM σ := by
  unfold take
  rw [if_neg (by simpa using h)]
  split
  · simp [mM, h]
  · split
    · simp [mM, h]
    · simp only [mM, h, if_true]; omega
def LoopP (X : Cx) (w0 : World) (V : Int × Sg) (vb : Value) (wr : World) : Prop :=
  ∃ (n : Nat) (b : Int) (σ : Sg), vb = .int .i64 b ∧ (0 ≤ b ∧ b < 256) ∧ V = preL X n b σ ∧ (isPre b = true → 16 ≤ σ.at' + n ∧ σ.err = 0) ∧ St X wr σ ∧ Kp X.own w0 wr
/-- How far the reader is: read off the world. -/
def leftOf (X : Cx) (w : World) : Nat := match w.cell? ⟨X.S, 1, none⟩, w.cell? ⟨X.S, 2, none⟩ with | some (.int _ a), some (.int _ e) => 2 * (16 - a.toNat) + if e = 0 then 1 else 0 | _, _ => 0
theorem leftOf_eq {X : Cx} {w : World} {σ : Sg} (h : St X w σ) : leftOf X w = mM σ := by
  unfold leftOf
  rw [h.s1, h.s2]
  rfl
set_option maxHeartbeats 2000000 in
theorem opcode_ok (w : World) (X : Cx) (σ : Sg) (h : St X w σ) :
    Calls Tryz.prog 9 #[.pointer (some ⟨X.F, 0, none⟩)] w fun e w' => e = .returned (.int .i64 (opcodeM X σ).1) ∧ Done X w (opcodeM X σ).2 w' := by
  have c0 := h.f0
  have cT := take_ok w X σ h
  have hbd := take_bd h
  have hpr := take_pre X σ
  obtain ⟨V, hV⟩ : ∃ V, V = preL X 16 (take X σ).1 (take X σ).2 := ⟨_, rfl⟩
  have eO : opcodeM X σ = if V.1 = 15 then (3840 + (take X V.2).1, (take X V.2).2) else V := by rw [hV]; rfl
  obtain ⟨Z, hZ⟩ : ∃ Z, Z = opcodeM X σ := ⟨_, rfl⟩
  rw [← hZ]
  have HZ : Hid (Z = if V.1 = 15 then (3840 + (take X V.2).1, (take X V.2).2) else V) := hZ.trans eO
  clear eO hZ
  generalize (take X σ).1 = b at *
  generalize (take X σ).2 = σ1 at *
  have HV : Hid (V = preL X 16 b σ1) := hV
  clear hV h
  go_enter Tryz.func9, Tryz.ntmps9
  go_wp2_with fail
  refine cT.mono ?_; rintro e w1 ⟨rfl, h1, k1⟩
  have Hstart : Hid (LoopP X w V (.int .i64 b) w1) := ⟨16, b, σ1, rfl, hbd, HV.out, fun hb => ⟨by omega, (hpr hb).2⟩, h1, k1⟩
  clear h1 k1 cT hbd HV c0 hpr
  go_wp2_with fail
  go_loopw [3] (LoopP X w V) (fun _ wr => leftOf X wr)
  case atStart => exact Hstart.out
  case round =>
    obtain ⟨n, b', σ', rfl, hb', hV, hpr, hst, kk⟩ := hrel
    have c0 := hst.f0
    have cP := prefix_ok wr X σ' hst b'
    have Hst : Hid (St X wr σ') := hst
    have Hkk : Hid (Kp X.own w wr) := kk
    have Hpr : Hid (isPre b' = true → 16 ≤ σ'.at' + n ∧ σ'.err = 0) := hpr
    have HV : Hid (V = preL X n b' σ') := hV
    obtain ⟨b0, b1⟩ := hb'
    obtain ⟨T, hT⟩ : ∃ T, T = isPre b' := ⟨_, rfl⟩
    rw [← hT] at cP
    have HT : Hid (T = isPre b') := hT
    clear hst kk hpr hV hT
    cases T
    · have hp0 : preS b' σ' = σ' := by
        have h := HT.out
        unfold preS
        simp [isPre] at h
        obtain ⟨⟨⟨⟨⟨⟨⟨⟨x1, x2⟩, x3⟩, x4⟩, x5⟩, x6⟩, x7⟩, x8⟩, x9⟩ := h
        simp [x1, x2, x3, x4, x5, x6, x7, x8, x9]
      rw [hp0] at cP
      have hVe : V = (b', σ') := by
        rw [HV.out]
        cases n with
        | zero => rfl
        | succ n => unfold preL; rw [← HT.out]; rfl
      have HVe : Hid (V = (b', σ')) := hVe
      clear hVe hp0
      by_cases h15 : b' = 15
      · subst h15
        go_wp2_with fail
        refine cP.mono ?_; rintro e w2 ⟨rfl, h2, k2⟩
        have c2 := h2.f0
        have cT := take_ok w2 X σ' h2
        have hbd := take_bd h2
        obtain ⟨t0, t1⟩ := hbd
        go_wp2_with fail
        refine cT.mono ?_; rintro e w3 ⟨rfl, h3, k3⟩
        have Hd : Hid (Done X w (take X σ').2 w3) := ⟨h3, (Hkk.out.trans k2).trans k3⟩
        clear h3 k3 h2 k2 cT cP
        go_wp2
        go_ret
        rw [HZ.out, HVe.out]
        exact ⟨rfl, Hd.out⟩
      · go_wp2_with fail
        refine cP.mono ?_; rintro e w2 ⟨rfl, h2, k2⟩
        have Hd : Hid (Done X w σ' w2) := ⟨h2, Hkk.out.trans k2⟩
        clear h2 k2 cP
        go_wp2
        go_ret
        rw [HZ.out, HVe.out, if_neg h15]
        exact ⟨rfl, Hd.out⟩
    · obtain ⟨hn, herr⟩ := Hpr.out HT.out.symm
      have hle := Hst.out.le
      obtain ⟨n', rfl⟩ : ∃ n', n = n' + 1 := ⟨n - 1, by omega⟩
      have hpa := preS_at b' σ'
      have hless := take_less X (preS b' σ') (hpa.2.trans herr) (by rw [hpa.1]; exact hle)
      have hmm : mM (preS b' σ') = mM σ' := by unfold mM; rw [hpa.1, hpa.2]
      have hV2 : V = preL X n' (take X (preS b' σ')).1 (take X (preS b' σ')).2 := by
        rw [HV.out]; show (if isPre b' = true then _ else _) = _; rw [if_pos HT.out.symm]
      have hpre := take_pre X (preS b' σ')
      have HA : Hid (mM (take X (preS b' σ')).2 < mM σ' ∧ V = preL X n' (take X (preS b' σ')).1 (take X (preS b' σ')).2 ∧ (isPre (take X (preS b' σ')).1 = true → 16 ≤ (take X (preS b' σ')).2.at' + n' ∧ (take X (preS b' σ')).2.err = 0)) :=
        ⟨by omega, hV2, fun hx => ⟨by have := (hpre hx).1; rw [hpa.1] at this; omega, (hpre hx).2⟩⟩
      clear hpre hV2 hmm hless hpa hn herr hle
      go_wp2_with fail
      refine cP.mono ?_; rintro e w2 ⟨rfl, h2, k2⟩
      have c2 := h2.f0
      have cT := take_ok w2 X _ h2
      have hbd := take_bd h2
      go_wp2_with fail
      refine cT.mono ?_; rintro e w3 ⟨rfl, h3, k3⟩
      have HB : Hid (LoopP X w V (.int .i64 (take X (preS b' σ')).1) w3) := ⟨n', _, _, rfl, hbd, HA.out.2.1, HA.out.2.2, h3, (Hkk.out.trans k2).trans k3⟩
      have HM : Hid (leftOf X w3 < leftOf X wr) := by
        show leftOf X w3 < leftOf X wr
        rw [leftOf_eq h3, leftOf_eq Hst.out]; exact HA.out.1
      clear h3 k3 h2 k2 cT cP hbd
      go_wp2
      go_roundw
      case rel => exact HB.out
      case measure => exact HM.out
end Go.Proofs.YtbfccfhjgopnbaaGreat
namespace Go.Proofs.YtbfccfhjgopnbaaGreat
open Go.ChangeShapes Go.WideShapes Go.ChangeAt Go.RowKit
set_option linter.unusedVariables false
inductive Rdr (α : Type) where
  | ret (a : α)
  | tk (k : Int → Rdr α)
  | rf (k : Rdr α)
def tk1 (X : Cx) (i : Nat) (e : Int) : Int × Nat × Int :=
  if e ≠ 0 then (0, i, e) else if i = 15 then (0, i, 62) else if i = X.L then (0, i, 61) else (X.bt i, i + 1, e)
def Rdr.run {α : Type} : Rdr α → Cx → Nat → Int → α × Nat × Int
  | .ret a, _, i, e => (a, i, e)
  | .tk k, X, i, e => (k (tk1 X i e).1).run X (tk1 X i e).2.1 (tk1 X i e).2.2
  | .rf k, X, i, e => k.run X i (if e = 0 then 60 else e)
def Rdr.bind {α β : Type} : Rdr α → (α → Rdr β) → Rdr β
  | .ret a, f => f a
  | .tk k, f => .tk fun b => (k b).bind f
  | .rf k, f => .rf (k.bind f)
theorem Rdr.run_bind {α β : Type} (f : α → Rdr β) (X : Cx) : ∀ (t : Rdr α) (i : Nat) (e : Int), (t.bind f).run X i e = (f (t.run X i e).1).run X (t.run X i e).2.1 (t.run X i e).2.2
  | .ret a, i, e => rfl
  | .tk k, i, e => Rdr.run_bind f X (k (tk1 X i e).1) _ _
  | .rf k, i, e => Rdr.run_bind f X k _ _
def Sg.put (σ : Sg) (i : Nat) (e : Int) : Sg := { σ with at' := i, err := e }
theorem Sg.put_self (σ : Sg) : σ.put σ.at' σ.err = σ := rfl
/-- It is a reader: a tree that what lies beside the reader chooses. -/
def Rd {α : Type} (g : Cx → Sg → α × Sg) : Prop :=
  ∃ t : Sg → Rdr (α × Sg), ∀ X σ i e, g X (σ.put i e) = (((t σ).run X i e).1.1, ((t σ).run X i e).1.2.put ((t σ).run X i e).2.1 ((t σ).run X i e).2.2)
theorem Rd.pure {α : Type} (h : Sg → α × Sg) (hh : ∀ σ i e, h (σ.put i e) = ((h σ).1, (h σ).2.put i e)) : Rd (fun _ σ => h σ) :=
  ⟨fun σ => .ret (h σ), fun X σ i e => hh σ i e⟩
theorem rdTake : Rd take :=
  ⟨fun σ => .tk fun b => .ret (b, σ), fun X σ i e => by
    show take X (σ.put i e) = ((tk1 X i e).1, σ.put (tk1 X i e).2.1 (tk1 X i e).2.2)
    unfold take tk1 Sg.put
    by_cases h0 : e = 0
    · by_cases h1 : i = 15
      · simp [h0, h1]
      · by_cases h2 : i = X.L
        · subst h2; simp [h0, h1]
        · simp [h0, h1, h2]
    · simp [h0]⟩
theorem rdRefuse : Rd (fun _ σ => ((), refuse σ)) :=
  ⟨fun σ => .rf (.ret ((), σ)), fun X σ i e => by
    show ((), refuse (σ.put i e)) = ((), σ.put i (if e = 0 then 60 else e))
    unfold refuse Sg.put
    by_cases h0 : e = 0 <;> simp [h0]⟩
theorem Rd.bind {α β : Type} {f : Cx → Sg → α × Sg} {g : α → Cx → Sg → β × Sg} (hf : Rd f) (hg : ∀ a, Rd (g a)) : Rd (fun X σ => g (f X σ).1 X (f X σ).2) := by
  obtain ⟨tf, hf⟩ := hf
  have hc : ∃ tg : α → Sg → Rdr (β × Sg), ∀ a X σ i e, g a X (σ.put i e) = (((tg a σ).run X i e).1.1, ((tg a σ).run X i e).1.2.put ((tg a σ).run X i e).2.1 ((tg a σ).run X i e).2.2) :=
    ⟨fun a => Classical.choose (hg a), fun a => Classical.choose_spec (hg a)⟩
  obtain ⟨tg, hg⟩ := hc
  refine ⟨fun σ => (tf σ).bind fun p => tg p.1 p.2, fun X σ i e => ?_⟩
  simp only [hf X σ i e, Rdr.run_bind, hg]
theorem Rd.ite {α : Type} {c : Sg → Prop} [∀ σ, Decidable (c σ)] {f g : Cx → Sg → α × Sg} (hc : ∀ σ i e, c (σ.put i e) ↔ c σ) (hf : Rd f) (hg : Rd g) : Rd (fun X σ => if c σ then f X σ else g X σ) := by
  obtain ⟨tf, hf⟩ := hf
  obtain ⟨tg, hg⟩ := hg
  refine ⟨fun σ => if c σ then tf σ else tg σ, fun X σ i e => ?_⟩
  by_cases h : c σ
  · simp only [hc, h, if_true, hf X σ i e]
  · simp only [hc, h, if_false, hg X σ i e]
theorem Rd.ifc {α : Type} {c : Prop} [Decidable c] {f g : Cx → Sg → α × Sg} (hf : Rd f) (hg : Rd g) : Rd (fun X σ => if c then f X σ else g X σ) :=
  Rd.ite (c := fun _ => c) (fun _ _ _ => Iff.rfl) hf hg
theorem Rd.arg {α γ : Type} {h : Sg → γ} {g : γ → Cx → Sg → α × Sg} (hh : ∀ σ i e, h (σ.put i e) = h σ) (hg : ∀ a, Rd (g a)) : Rd (fun X σ => g (h σ) X σ) := by
  have hc : ∃ tg : γ → Sg → Rdr (α × Sg), ∀ a X σ i e, g a X (σ.put i e) = (((tg a σ).run X i e).1.1, ((tg a σ).run X i e).1.2.put ((tg a σ).run X i e).2.1 ((tg a σ).run X i e).2.2) :=
    ⟨fun a => Classical.choose (hg a), fun a => Classical.choose_spec (hg a)⟩
  obtain ⟨tg, hg⟩ := hc
  exact ⟨fun σ => tg (h σ) σ, fun X σ i e => by simp only [hh, hg]⟩
/-- Of what answers a state alone. -/
def RdS (g : Cx → Sg → Sg) : Prop := Rd (fun X σ => ((), g X σ))
theorem Rd.thenS {α : Type} {f : Cx → Sg → α × Sg} {u : α → Sg → Sg} (hf : Rd f) (hu : ∀ a σ i e, u a (σ.put i e) = (u a σ).put i e) : RdS (fun X σ => u (f X σ).1 (f X σ).2) :=
  Rd.bind (g := fun a _ σ => ((), u a σ)) hf (fun a => Rd.pure _ (fun σ i e => by rw [hu]))
theorem RdS.comp {f g : Cx → Sg → Sg} (hf : RdS f) (hg : RdS g) : RdS (fun X σ => g X (f X σ)) :=
  Rd.bind (f := fun X σ => ((), f X σ)) (g := fun _ X σ => ((), g X σ)) hf (fun _ => hg)
theorem RdS.id : RdS (fun _ σ => σ) := Rd.pure (fun σ => ((), σ)) (fun _ _ _ => rfl)
theorem Rd.bindS {α : Type} {f : Cx → Sg → α × Sg} {g : α → Cx → Sg → Sg} (hf : Rd f) (hg : ∀ a, RdS (g a)) : RdS (fun X σ => g (f X σ).1 X (f X σ).2) :=
  Rd.bind (g := fun a X σ => ((), g a X σ)) hf hg
/-! ### the parts -/
theorem rdModrm : Rd modrm :=
  ⟨fun σ => match σ.fl with
    | some x => .ret (x, σ)
    | none => .tk fun b => .ret ((b / 64, b / 8 % 8, b % 8), { σ with fl := some (b / 64, b / 8 % 8, b % 8) }), fun X σ i e => by
    have ht : take X (σ.put i e) = ((tk1 X i e).1, σ.put (tk1 X i e).2.1 (tk1 X i e).2.2) := by
      unfold take tk1 Sg.put
      by_cases h0 : e = 0
      · by_cases h1 : i = 15
        · simp [h0, h1]
        · by_cases h2 : i = X.L
          · subst h2; simp [h0, h1]
          · simp [h0, h1, h2]
      · simp [h0]
    unfold modrm
    cases hfl : σ.fl with
    | some x => simp only [show (σ.put i e).fl = some x from hfl, hfl]; rfl
    | none => simp only [show (σ.put i e).fl = none from hfl, hfl, ht]; rfl⟩
theorem rdSibM : Rd sibM :=
  Rd.bind (g := fun b _ σ => (if b / 8 % 8 = 4 then (b % 8, -1, 1) else (b % 8, b / 8 % 8, 2 ^ (b / 64).toNat), σ)) rdTake (fun b => Rd.pure _ (fun _ _ _ => rfl))
theorem rdNumM : ∀ (k i : Nat) (n : Int), Rd (fun X σ => numM X k i n σ)
  | 0, i, n => Rd.pure (fun σ => (n, σ)) (fun _ _ _ => rfl)
  | k + 1, i, n => Rd.bind (g := fun b X σ => numM X k (i + 1) (n + b * 256 ^ i) σ) rdTake (fun b => rdNumM k (i + 1) _)
theorem rdBytesM (s : Int) : Rd (fun X σ => bytesM X s σ) := rdNumM _ _ _
theorem Rd.mapv {α β : Type} {f : Cx → Sg → α × Sg} (u : α → β) (hf : Rd f) : Rd (fun X σ => (u (f X σ).1, (f X σ).2)) :=
  Rd.bind (g := fun a _ σ => (u a, σ)) hf (fun a => Rd.pure _ (fun _ _ _ => rfl))
theorem Rd.same {α : Type} {u : Sg → α} (hu : ∀ σ i e, u (σ.put i e) = u σ) : Rd (fun _ σ => (u σ, σ)) :=
  Rd.pure (fun σ => (u σ, σ)) (fun σ i e => by rw [hu])
theorem rdSibP (r : Int) : Rd (fun X σ => sibP X r σ) := Rd.ifc rdSibM (Rd.same (fun _ _ _ => rfl))
theorem rdDispP (m b : Int) : Rd (fun X σ => dispP X m b σ) :=
  Rd.ifc (rdBytesM 4) (Rd.ifc (Rd.mapv (sgnM 1) (rdBytesM 1)) (Rd.ifc (rdBytesM 4) (Rd.same (fun _ _ _ => rfl))))
theorem rdFinE (s g m b i c : Int) : Rd (fun X σ => finE X s g m b i c σ) := Rd.mapv (fun d => mem9 s (segP g m b) (baseP m b) i c d) (rdDispP m b)
theorem rdPE (s : Int) : Rd (fun X σ => pE X s σ) :=
  Rd.bind (f := modrm) (g := fun x X σ => if x.1 = 3 then (regO x.2.2 s, σ) else finE X s σ.seg x.1 (sibP X x.2.2 σ).1.1 (sibP X x.2.2 σ).1.2.1 (sibP X x.2.2 σ).1.2.2 (sibP X x.2.2 σ).2) rdModrm (fun x =>
    Rd.ifc (Rd.same (fun _ _ _ => rfl)) (Rd.arg (h := fun σ => σ.seg) (g := fun q X σ => finE X s q x.1 (sibP X x.2.2 σ).1.1 (sibP X x.2.2 σ).1.2.1 (sibP X x.2.2 σ).1.2.2 (sibP X x.2.2 σ).2) (fun _ _ _ => rfl)
      (fun q => Rd.bind (g := fun y X σ => finE X s q x.1 y.1 y.2.1 y.2.2 σ) (rdSibP x.2.2) (fun y => rdFinE _ _ _ _ _ _))))
theorem rdPart (p : Pt) (s : Int) : Rd (fun X σ => p.f X s σ) := by
  cases p with
  | A => exact Rd.same (fun _ _ _ => rfl)
  | CL => exact Rd.same (fun _ _ _ => rfl)
  | DX => exact Rd.same (fun _ _ _ => rfl)
  | R => exact Rd.same (u := fun σ => regO (σ.op % 8) s) (fun _ _ _ => rfl)
  | G => exact Rd.mapv (fun x => regO x.2.1 s) rdModrm
  | Rm => exact Rd.mapv (fun x => regO x.2.2 s) rdModrm
  | Cr => exact Rd.mapv (fun x => crO x.2.1) rdModrm
  | I => exact Rd.mapv numO (rdBytesM s)
  | Ib => exact Rd.mapv numO (rdBytesM 1)
  | Iw => exact Rd.mapv numO (rdBytesM 2)
  | Is => exact Rd.mapv (fun n => numO (cutM s (sgnM 1 n))) (rdBytesM 1)
  | J => exact Rd.mapv (fun n => relO (sgnM s n)) (rdBytesM s)
  | Jb => exact Rd.mapv (fun n => relO (sgnM 1 n)) (rdBytesM 1)
  | Far => exact Rd.bind (g := fun n X σ => (farO n (bytesM X 2 σ).1, (bytesM X 2 σ).2)) (rdBytesM s) (fun n => Rd.mapv (fun d => farO n d) (rdBytesM 2))
  | O => exact Rd.arg (h := fun σ => σ.seg) (g := fun q X σ => (mem9 s (segD q) (-1) (-1) 1 (bytesM X 4 σ).1, (bytesM X 4 σ).2)) (fun _ _ _ => rfl) (fun q => Rd.mapv (fun d => mem9 s (segD q) (-1) (-1) 1 d) (rdBytesM 4))
  | E => exact rdPE s
  | Eb => exact rdPE 1
  | Ew => exact rdPE 2
  | Seg r => exact Rd.same (fun _ _ _ => rfl)
  | Num r => exact Rd.same (fun _ _ _ => rfl)
theorem setI_put (i : Nat) (o : Opd) (σ : Sg) (j : Nat) (e : Int) : setI i (o, σ.put j e) = (setI i (o, σ)).put j e := by
  unfold setI
  split <;> rfl
theorem rdStpF (s : Int) : ∀ (fs : List (Cx → Int → Sg → Opd × Sg)) (i : Nat), (∀ f ∈ fs, Rd (fun X σ => f X s σ)) → RdS (fun X σ => stpF X s i fs σ)
  | [], i, _ => RdS.id
  | f :: fs, i, h => RdS.comp (f := fun X σ => setI i (f X s σ)) (g := fun X σ => stpF X s (i + 1) fs σ)
      (Rd.thenS (f := fun X σ => f X s σ) (u := fun a σ => setI i (a, σ)) (h f List.mem_cons_self) (fun a σ j e => setI_put i a σ j e))
      (rdStpF s fs (i + 1) (fun g hg => h g (List.mem_cons_of_mem _ hg)))
theorem RdS.step {u : Sg → Sg} (hu : ∀ σ i e, u (σ.put i e) = (u σ).put i e) : RdS (fun _ σ => u σ) := Rd.pure (fun σ => ((), u σ)) (fun σ i e => by rw [hu])
theorem rdIsM (op sub s : Int) (fs : List (Cx → Int → Sg → Opd × Sg)) (h : ∀ f ∈ fs, Rd (fun X σ => f X s σ)) : RdS (fun X σ => isM X op sub s fs σ) :=
  RdS.comp (f := fun _ σ => hdS op sub s σ) (RdS.step (fun _ _ _ => rfl)) (rdStpF s fs 0 h)
theorem rdParts (ps : List Pt) (s : Int) : ∀ f ∈ ps.map Pt.f, Rd (fun X σ => f X s σ) := by
  intro f hf
  obtain ⟨p, _, rfl⟩ := List.mem_map.1 hf
  exact rdPart p s
theorem rdOnlyM (L : List Int) : RdS (fun X σ => onlyM X L σ) :=
  Rd.bindS (f := modrm) (g := fun x X σ => if L.contains x.2.1 = true then σ else refuse σ) rdModrm (fun x => by
    by_cases h : L.contains x.2.1 = true
    · simp only [h, if_true]; exact RdS.id
    · simp only [h]; exact rdRefuse)
theorem rdOnlyMem : RdS (fun X σ => onlyMem X σ) :=
  Rd.bindS (f := modrm) (g := fun x X σ => if x.1 = 3 then refuse σ else σ) rdModrm (fun x => by
    by_cases h : x.1 = 3
    · simp only [h, if_true]; exact rdRefuse
    · simp only [h, if_false]; exact RdS.id)
theorem Szk.put (z : Szk) (σ : Sg) (i : Nat) (e : Int) : z.of (σ.put i e) = z.of σ := by cases z <;> rfl
theorem RdS.arg {γ : Type} {h : Sg → γ} {g : γ → Cx → Sg → Sg} (hh : ∀ σ i e, h (σ.put i e) = h σ) (hg : ∀ a, RdS (g a)) : RdS (fun X σ => g (h σ) X σ) :=
  Rd.arg (g := fun a X σ => ((), g a X σ)) hh hg
theorem rdGt (t : Gt) : RdS t.g := by
  cases t with
  | no => exact RdS.id
  | only L => exact rdOnlyM L
  | mem => exact rdOnlyMem
theorem rdRowIs (r : Row) : RdS r.is := by
  obtain ⟨gt, op, sb, sz, ps⟩ := r
  cases sb with
  | k x => exact RdS.arg (h := fun σ => sz.of σ) (g := fun s X σ => isM X op x s (ps.map Pt.f) σ) (Szk.put sz) (fun s => rdIsM _ _ _ _ (rdParts ps s))
  | opn => exact RdS.arg (h := fun σ => (σ.op / 8 % 8, sz.of σ)) (g := fun a X σ => isM X op a.1 a.2 (ps.map Pt.f) σ) (fun σ i e => by rw [Szk.put]; rfl) (fun a => rdIsM _ _ _ _ (rdParts ps _))
  | opc => exact RdS.arg (h := fun σ => (σ.op % 16, sz.of σ)) (g := fun a X σ => isM X op a.1 a.2 (ps.map Pt.f) σ) (fun σ i e => by rw [Szk.put]; rfl) (fun a => rdIsM _ _ _ _ (rdParts ps _))
  | mn => exact RdS.arg (h := fun σ => sz.of σ) (g := fun s X σ => isM X op (modrm X σ).1.2.1 s (ps.map Pt.f) (modrm X σ).2) (Szk.put sz) (fun s => Rd.bindS (g := fun x X σ => isM X op x.2.1 s (ps.map Pt.f) σ) rdModrm (fun x => rdIsM _ _ _ _ (rdParts ps _)))
  | mp9 => exact RdS.arg (h := fun σ => sz.of σ) (g := fun s X σ => isM X op (9 + (modrm X σ).1.2.1) s (ps.map Pt.f) (modrm X σ).2) (Szk.put sz) (fun s => Rd.bindS (g := fun x X σ => isM X op (9 + x.2.1) s (ps.map Pt.f) σ) rdModrm (fun x => rdIsM _ _ _ _ (rdParts ps _)))
  | mm4 => exact RdS.arg (h := fun σ => sz.of σ) (g := fun s X σ => isM X op ((modrm X σ).1.2.1 - 4) s (ps.map Pt.f) (modrm X σ).2) (Szk.put sz) (fun s => Rd.bindS (g := fun x X σ => isM X op (x.2.1 - 4) s (ps.map Pt.f) σ) rdModrm (fun x => rdIsM _ _ _ _ (rdParts ps _)))
theorem rdRow (r : Row) : RdS r.g := RdS.comp (f := r.gt.g) (g := r.is) (rdGt r.gt) (rdRowIs r)
theorem RdS.ifc {c : Prop} [Decidable c] {f g : Cx → Sg → Sg} (hf : RdS f) (hg : RdS g) : RdS (fun X σ => if c then f X σ else g X σ) := by
  by_cases h : c
  · simp only [h, if_true]; exact hf
  · simp only [h, if_false]; exact hg
theorem rdIsP (op sub s : Int) (ps : List Pt) : RdS (fun X σ => isM X op sub s (ps.map Pt.f) σ) := rdIsM _ _ _ _ (rdParts ps s)
theorem rdIsStr (sub s : Int) : RdS (fun X σ => isStr X sub s σ) :=
  RdS.comp (f := fun X σ => isM X 36 sub s [pString] σ) (g := fun _ σ => { σ with ins := { σ.ins with rep := σ.rep } })
    (rdIsM _ _ _ _ (by intro f hf; rw [List.mem_singleton] at hf; subst hf; exact Rd.same (u := fun σ => memO σ.seg s) (fun _ _ _ => rfl))) (RdS.step (fun _ _ _ => rfl))
theorem rdGUn (s : Int) : RdS (gUn s) :=
  Rd.bindS (f := modrm) (g := fun x X σ => if x.2.1 = 0 ∨ x.2.1 = 1 then isM X 1 8 s [pE, pI] σ else if x.2.1 = 2 then isM X 1 12 s [pE] σ else if x.2.1 = 3 then isM X 1 11 s [pE] σ else if x.2.1 = 4 ∨ x.2.1 = 5 then isM X 4 (x.2.1 - 4) s [pE] σ else isM X 6 (x.2.1 - 6) s [pE] σ) rdModrm (fun x =>
    RdS.ifc (rdIsP 1 8 s [.E, .I]) (RdS.ifc (rdIsP 1 12 s [.E]) (RdS.ifc (rdIsP 1 11 s [.E]) (RdS.ifc (rdIsP 4 _ s [.E]) (rdIsP 6 _ s [.E])))))
theorem rdIsV (op sub : Int) (ps : List Pt) : RdS (fun X σ => isM X op sub σ.v (ps.map Pt.f) σ) := RdS.arg (h := fun σ => σ.v) (g := fun s X σ => isM X op sub s (ps.map Pt.f) σ) (fun _ _ _ => rfl) (fun s => rdIsP op sub s ps)
theorem rdRefS : RdS (fun _ σ => refuse σ) := rdRefuse
theorem rdGFF : RdS gFF :=
  Rd.bindS (f := modrm) (g := fun x X σ => if x.2.1 = 0 then isM X 1 9 σ.v [pE] σ else if x.2.1 = 1 then isM X 1 10 σ.v [pE] σ else if x.2.1 = 2 then isM X 29 0 σ.v [pE] σ else if x.2.1 = 4 then isM X 27 0 σ.v [pE] σ else if x.2.1 = 6 then isM X 12 0 σ.v [pE] σ else refuse σ) rdModrm (fun x =>
    RdS.ifc (rdIsV 1 9 [.E]) (RdS.ifc (rdIsV 1 10 [.E]) (RdS.ifc (rdIsV 29 0 [.E]) (RdS.ifc (rdIsV 27 0 [.E]) (RdS.ifc (rdIsV 12 0 [.E]) rdRefS)))))
theorem rdGSys : RdS gSys :=
  RdS.comp (f := fun X σ => onlyMem X σ) (g := fun X σ => if (modrm X σ).1.2.1 = 2 then isM X 42 0 4 [pE] (modrm X σ).2 else if (modrm X σ).1.2.1 = 3 then isM X 43 0 4 [pE] (modrm X σ).2 else if (modrm X σ).1.2.1 = 7 then isM X 46 0 4 [pE] (modrm X σ).2 else refuse (modrm X σ).2) rdOnlyMem
    (Rd.bindS (f := modrm) (g := fun x X σ => if x.2.1 = 2 then isM X 42 0 4 [pE] σ else if x.2.1 = 3 then isM X 43 0 4 [pE] σ else if x.2.1 = 7 then isM X 46 0 4 [pE] σ else refuse σ) rdModrm (fun x =>
      RdS.ifc (rdIsP 42 0 4 [.E]) (RdS.ifc (rdIsP 43 0 4 [.E]) (RdS.ifc (rdIsP 46 0 4 [.E]) rdRefS))))
theorem rdGTo : RdS gTo :=
  RdS.comp (f := fun X σ => onlyM X [0, 2, 3, 4, 5] σ) (g := fun X σ => isM X 8 0 2 [pSeg (modrm X σ).1.2.1, pE] (modrm X σ).2) (rdOnlyM _)
    (Rd.bindS (f := modrm) (g := fun x X σ => isM X 8 0 2 [pSeg x.2.1, pE] σ) rdModrm (fun x => rdIsP 8 0 2 [.Seg x.2.1, .E]))
theorem rdGFrom : RdS gFrom :=
  RdS.comp (f := fun X σ => onlyM X [0, 1, 2, 3, 4, 5] σ) (g := fun X σ => isM X 8 0 (if (modrm X σ).1.1 = 3 then (modrm X σ).2.v else 2) [pE, pSeg (modrm X (modrm X σ).2).1.2.1] (modrm X (modrm X σ).2).2) (rdOnlyM _)
    (Rd.bindS (f := modrm) (g := fun x X σ => isM X 8 0 (if x.1 = 3 then σ.v else 2) [pE, pSeg (modrm X σ).1.2.1] (modrm X σ).2) rdModrm (fun x =>
      RdS.arg (h := fun σ => if x.1 = 3 then σ.v else 2) (g := fun s X σ => isM X 8 0 s [pE, pSeg (modrm X σ).1.2.1] (modrm X σ).2) (fun _ _ _ => rfl) (fun s =>
        Rd.bindS (f := modrm) (g := fun y X σ => isM X 8 0 s [pE, pSeg y.2.1] σ) rdModrm (fun y => rdIsP 8 0 s [.E, .Seg y.2.1]))))
theorem rdRule (r : Rule) : RdS r.g := by
  cases r with
  | row r => exact rdRow r
  | str sub z => exact RdS.arg (h := fun σ => z.of σ) (g := fun s X σ => isStr X sub s σ) (Szk.put z) (fun s => rdIsStr sub s)
  | un z => exact RdS.arg (h := fun σ => z.of σ) (g := fun s X σ => gUn s X σ) (Szk.put z) (fun s => rdGUn s)
  | ff => exact rdGFF
  | sys => exact rdGSys
  | to => exact rdGTo
  | frm => exact rdGFrom
theorem preS_put (b : Int) (σ : Sg) (i : Nat) (e : Int) : preS b (σ.put i e) = (preS b σ).put i e := by
  unfold preS
  repeat' split
  all_goals rfl
theorem rdPreL : ∀ (n : Nat) (b : Int), Rd (fun X σ => preL X n b σ)
  | 0, b => Rd.same (fun _ _ _ => rfl)
  | n + 1, b => Rd.ifc (c := isPre b = true) (Rd.bind (f := fun X σ => take X (preS b σ)) (g := fun a X σ => preL X n a σ)
      (Rd.bind (f := fun _ σ => ((), preS b σ)) (g := fun _ X σ => take X σ) (RdS.step (preS_put b)) (fun _ => rdTake)) (fun a => rdPreL n a)) (Rd.same (fun _ _ _ => rfl))
end Go.Proofs.YtbfccfhjgopnbaaGreat
namespace Go.Proofs.YtbfccfhjgopnbaaGreat
open Go.ChangeShapes Go.WideShapes Go.ChangeAt Go.RowKit
set_option linter.unusedVariables false
theorem tk1_err {X : Cx} {i : Nat} {e : Int} (h : e ≠ 0) : tk1 X i e = (0, i, e) := by simp [tk1, h]
theorem Rdr.stuck {α : Type} (X : Cx) : ∀ (t : Rdr α) (i : Nat) (e : Int), e ≠ 0 → (t.run X i e).2 = (i, e)
  | .ret a, i, e, h => rfl
  | .tk k, i, e, h => by
    show ((k (tk1 X i e).1).run X (tk1 X i e).2.1 (tk1 X i e).2.2).2 = _
    rw [tk1_err h]
    exact Rdr.stuck X _ i e h
  | .rf k, i, e, h => by
    show (k.run X i (if e = 0 then 60 else e)).2 = _
    rw [if_neg h]
    exact Rdr.stuck X k i e h
theorem Rdr.stays {α : Type} (X : Cx) (t : Rdr α) (i : Nat) (e : Int) (h : e ≠ 0) : (t.run X i e).2.2 = e := by rw [Rdr.stuck X t i e h]
theorem Rdr.ok0 {α : Type} {X : Cx} {t : Rdr α} {i : Nat} {e : Int} (h : (t.run X i e).2.2 = 0) : e = 0 := by
  by_cases h0 : e = 0
  · exact h0
  · rw [Rdr.stays X t i e h0] at h; exact h
theorem Rdr.up {α : Type} (X : Cx) : ∀ (t : Rdr α) (i : Nat) (e : Int), i ≤ (t.run X i e).2.1
  | .ret a, i, e => Nat.le_refl _
  | .tk k, i, e => by
    show i ≤ ((k (tk1 X i e).1).run X (tk1 X i e).2.1 (tk1 X i e).2.2).2.1
    refine Nat.le_trans ?_ (Rdr.up X _ _ _)
    unfold tk1
    split
    · exact Nat.le_refl _
    · split
      · exact Nat.le_refl _
      · split
        · exact Nat.le_refl _
        · exact Nat.le_succ _
  | .rf k, i, e => Rdr.up X k i _
theorem Rdr.bd {α : Type} (X : Cx) : ∀ (t : Rdr α) (i : Nat) (e : Int), i ≤ 15 → i ≤ X.L → (t.run X i e).2.1 ≤ 15 ∧ (t.run X i e).2.1 ≤ X.L
  | .ret a, i, e, h, h2 => ⟨h, h2⟩
  | .tk k, i, e, h, h2 => by
    show ((k (tk1 X i e).1).run X (tk1 X i e).2.1 (tk1 X i e).2.2).2.1 ≤ 15 ∧ ((k (tk1 X i e).1).run X (tk1 X i e).2.1 (tk1 X i e).2.2).2.1 ≤ X.L
    have : (tk1 X i e).2.1 ≤ 15 ∧ (tk1 X i e).2.1 ≤ X.L := by
      unfold tk1
      split
      · exact ⟨h, h2⟩
      · split
        · exact ⟨h, h2⟩
        · split
          · exact ⟨h, h2⟩
          · exact ⟨by show i + 1 ≤ 15; omega, by show i + 1 ≤ X.L; omega⟩
    exact Rdr.bd X _ _ _ this.1 this.2
  | .rf k, i, e, h, h2 => Rdr.bd X k i _ h h2
theorem Rdr.same {α : Type} (X Y : Cx) (hL : X.L = Y.L) (hb : X.bt = Y.bt) : ∀ (t : Rdr α) (i : Nat) (e : Int), t.run X i e = t.run Y i e
  | .ret a, i, e => rfl
  | .tk k, i, e => by
    have : tk1 X i e = tk1 Y i e := by unfold tk1; rw [hL, hb]
    show (k (tk1 X i e).1).run X (tk1 X i e).2.1 (tk1 X i e).2.2 = (k (tk1 Y i e).1).run Y (tk1 Y i e).2.1 (tk1 Y i e).2.2
    rw [this]
    exact Rdr.same X Y hL hb _ _ _
  | .rf k, i, e => Rdr.same X Y hL hb k i _
/-! ### of readers that answer a state -/
theorem RdS.tree {g : Cx → Sg → Sg} (hg : RdS g) (σ : Sg) : ∃ t : Rdr Sg, ∀ X i e, g X (σ.put i e) = (t.run X i e).1.put (t.run X i e).2.1 (t.run X i e).2.2 := by
  obtain ⟨t, ht⟩ := hg
  refine ⟨(t σ).bind fun p => .ret p.2, fun X i e => ?_⟩
  have h := congrArg Prod.snd (ht X σ i e)
  simp only [Rdr.run_bind] at h ⊢
  exact h
theorem RdS.stuck {g : Cx → Sg → Sg} (hg : RdS g) (X : Cx) (σ : Sg) (h : σ.err ≠ 0) : (g X σ).err = σ.err ∧ (g X σ).at' = σ.at' := by
  obtain ⟨t, ht⟩ := hg.tree σ
  have e := ht X σ.at' σ.err
  rw [Sg.put_self] at e
  rw [e]
  have s := Rdr.stuck X t σ.at' σ.err h
  exact ⟨congrArg Prod.snd s, congrArg Prod.fst s⟩
theorem RdS.ok {g : Cx → Sg → Sg} (hg : RdS g) {X : Cx} {σ : Sg} (h : (g X σ).err = 0) : σ.err = 0 ∧ σ.at' ≤ (g X σ).at' := by
  obtain ⟨t, ht⟩ := hg.tree σ
  have e := ht X σ.at' σ.err
  rw [Sg.put_self] at e
  rw [e] at h ⊢
  exact ⟨Rdr.ok0 h, Rdr.up X t _ _⟩
theorem RdS.bd {g : Cx → Sg → Sg} (hg : RdS g) (X : Cx) (σ : Sg) (h : σ.at' ≤ 15) (h2 : σ.at' ≤ X.L) : (g X σ).at' ≤ 15 ∧ (g X σ).at' ≤ X.L := by
  obtain ⟨t, ht⟩ := hg.tree σ
  have e := ht X σ.at' σ.err
  rw [Sg.put_self] at e
  rw [e]
  exact Rdr.bd X t _ _ h h2
theorem RdS.same {g : Cx → Sg → Sg} (hg : RdS g) (X Y : Cx) (hL : X.L = Y.L) (hb : X.bt = Y.bt) (σ : Sg) : g X σ = g Y σ := by
  obtain ⟨t, ht⟩ := hg.tree σ
  have e := ht X σ.at' σ.err
  have e2 := ht Y σ.at' σ.err
  rw [Sg.put_self] at e e2
  rw [e, e2, Rdr.same X Y hL hb]
/-! ### the whole -/
def sg0 : Sg := ⟨0, 0, 0, 4, -1, 0, none, Ins.zero⟩
def opS (b : Int) (σ : Sg) : Sg := { σ with op := b }
/-- Behind the first byte: prefixes, the opcode, its rule. -/
def behM (rl : Int → Option Rule) (b : Int) (X : Cx) (σ : Sg) : Sg := match rl b with | some r => r.g X (opS b σ) | none => refuse (opS b σ)
def opM (X : Cx) (b : Int) (σ : Sg) : Int × Sg := if b = 15 then (3840 + (take X σ).1, (take X σ).2) else (b, σ)
def restM (rl : Int → Option Rule) (n : Nat) (b : Int) (X : Cx) (σ : Sg) : Sg :=
  behM rl (opM X (preL X n b σ).1 (preL X n b σ).2).1 X (opM X (preL X n b σ).1 (preL X n b σ).2).2
def fullM (rl : Int → Option Rule) (X : Cx) (σ : Sg) : Sg := restM rl 16 (take X σ).1 X (take X σ).2
theorem rdBehM (rl : Int → Option Rule) (b : Int) : RdS (behM rl b) := by
  unfold behM
  cases h : rl b with
  | none => exact RdS.comp (f := fun _ σ => opS b σ) (RdS.step (fun _ _ _ => rfl)) rdRefS
  | some r => exact RdS.comp (f := fun _ σ => opS b σ) (RdS.step (fun _ _ _ => rfl)) (rdRule r)
theorem rdOpM (b : Int) : Rd (fun X σ => opM X b σ) := Rd.ifc (Rd.mapv (fun a => 3840 + a) rdTake) (Rd.same (fun _ _ _ => rfl))
theorem rdRestM (rl : Int → Option Rule) (n : Nat) (b : Int) : RdS (restM rl n b) :=
  Rd.bindS (f := fun X σ => preL X n b σ) (g := fun a X σ => behM rl (opM X a σ).1 X (opM X a σ).2) (rdPreL n b)
    (fun a => Rd.bindS (f := fun X σ => opM X a σ) (g := fun c X σ => behM rl c X σ) (rdOpM a) (fun c => rdBehM rl c))
theorem rdFullM (rl : Int → Option Rule) : RdS (fullM rl) := Rd.bindS (f := take) (g := fun b X σ => restM rl 16 b X σ) rdTake (fun b => rdRestM rl 16 b)
def bx (L : Nat) (bt : Nat → Int) : Cx := ⟨0, 0, none, 0, L, bt, 0⟩
/-- What bytes mean: the instruction and the error. -/
def decM (rl : Int → Option Rule) (L : Nat) (bt : Nat → Int) : Ins × Int :=
  if (fullM rl (bx L bt) sg0).err = 0 then ({ (fullM rl (bx L bt) sg0).ins with len := (fullM rl (bx L bt) sg0).at' }, 0) else (Ins.zero, (fullM rl (bx L bt) sg0).err)
end Go.Proofs.YtbfccfhjgopnbaaGreat
namespace Go.Proofs.YtbfccfhjgopnbaaGreat
open Go.ChangeShapes Go.WideShapes Go.ChangeAt Go.RowKit
set_option linter.unusedVariables false
/-- What the parts leave alone. -/
structure Fr (σ σ' : Sg) : Prop where
  op : σ'.op = σ.op
  v : σ'.v = σ.v
  seg : σ'.seg = σ.seg
  rep : σ'.rep = σ.rep
  ins : σ'.ins = σ.ins
theorem Fr.refl (σ : Sg) : Fr σ σ := ⟨rfl, rfl, rfl, rfl, rfl⟩
theorem Fr.trans {a b c : Sg} (h : Fr a b) (k : Fr b c) : Fr a c := ⟨k.op.trans h.op, k.v.trans h.v, k.seg.trans h.seg, k.rep.trans h.rep, k.ins.trans h.ins⟩
structure Iv (X : Cx) (σ : Sg) : Prop where
  le : σ.at' ≤ X.L
  fl : ∀ m n r, σ.fl = some (m, n, r) → (0 ≤ n ∧ n < 8) ∧ 0 ≤ r ∧ r < 8
  sg : -1 ≤ σ.seg ∧ σ.seg ≤ 5
  vv : σ.v = 2 ∨ σ.v = 4
/-- An operand that there is, of an instruction with that number and that size. -/
def fitO (op s : Int) (o : Opd) : Prop :=
  (o.kind = 0 ∧ o = Opd.zero) ∨ (o.kind = 1 ∧ (0 ≤ o.reg ∧ o.reg < 8) ∧ (o.size = 1 ∨ o.size = 2 ∨ o.size = 4)) ∨
  (o.kind = 2 ∧ (o.size = 1 ∨ o.size = 2 ∨ o.size = 4) ∧ (-1 ≤ o.base ∧ o.base < 8) ∧ (-1 ≤ o.index ∧ o.index < 8 ∧ o.index ≠ 4) ∧ (0 ≤ o.seg ∧ o.seg < 6) ∧ (o.scale = 1 ∨ o.scale = 2 ∨ o.scale = 4 ∨ o.scale = 8)) ∨
  (o.kind = 3 ∧ 0 ≤ o.imm ∧ (o.imm < 256 ^ s.toNat ∨ (op = 30 ∧ o.imm < 4294967296))) ∨ (o.kind = 4 ∧ 0 ≤ o.reg ∧ o.reg < 6) ∨ (o.kind = 5 ∧ (o.reg = 0 ∨ o.reg = 2 ∨ o.reg = 3)) ∨ ((o.kind = 6 ∨ o.kind = 7) ∧ o.reg = 0)
structure Jn (X : Cx) (op s : Int) (σ : Sg) : Prop where
  iv : Iv X σ
  hop : σ.ins.op = op
  hsz : σ.ins.size = s
  hrep : σ.ins.rep = 0
  ha : fitO op s σ.ins.a
  hb : fitO op s σ.ins.b
  hc : fitO op s σ.ins.c
theorem Jn.set {X : Cx} {op s : Int} {σ σ' : Sg} {o : Opd} (h : Jn X op s σ) (i : Nat) (f : Fr σ σ') (v : Iv X σ') (ho : fitO op s o) : Jn X op s (setI i (o, σ')) := by
  have e := f.ins
  have hv : Iv X (setI i (o, σ')) := by unfold setI; split <;> exact ⟨v.le, v.fl, v.sg, v.vv⟩
  unfold setI
  split
  · exact ⟨⟨v.le, v.fl, v.sg, v.vv⟩, by show σ'.ins.op = op; rw [e]; exact h.hop, by show σ'.ins.size = s; rw [e]; exact h.hsz, by show σ'.ins.rep = 0; rw [e]; exact h.hrep, ho, by show fitO op s σ'.ins.b; rw [e]; exact h.hb, by show fitO op s σ'.ins.c; rw [e]; exact h.hc⟩
  · exact ⟨⟨v.le, v.fl, v.sg, v.vv⟩, by show σ'.ins.op = op; rw [e]; exact h.hop, by show σ'.ins.size = s; rw [e]; exact h.hsz, by show σ'.ins.rep = 0; rw [e]; exact h.hrep, by show fitO op s σ'.ins.a; rw [e]; exact h.ha, ho, by show fitO op s σ'.ins.c; rw [e]; exact h.hc⟩
  · exact ⟨⟨v.le, v.fl, v.sg, v.vv⟩, by show σ'.ins.op = op; rw [e]; exact h.hop, by show σ'.ins.size = s; rw [e]; exact h.hsz, by show σ'.ins.rep = 0; rw [e]; exact h.hrep, by show fitO op s σ'.ins.a; rw [e]; exact h.ha, by show fitO op s σ'.ins.b; rw [e]; exact h.hb, ho⟩
/-- The instruction is empty still. -/
def Emp (x : Ins) : Prop := x.a = Opd.zero ∧ x.b = Opd.zero ∧ x.c = Opd.zero ∧ x.rep = 0
theorem Emp.fr {σ σ' : Sg} (h : Emp σ.ins) (f : Fr σ σ') : Emp σ'.ins := by rw [f.ins]; exact h
end Go.Proofs.YtbfccfhjgopnbaaGreat
