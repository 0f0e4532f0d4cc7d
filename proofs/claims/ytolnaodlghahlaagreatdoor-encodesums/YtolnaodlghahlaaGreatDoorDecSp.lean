/- Contracts of the rules that choose. -/
import Derived.Test.YtolnaodlghahlaaGreatDoorDecRule0
import Derived.Deep.RegionWith
namespace Go.Proofs.YtolnaodlghahlaaGreatDoor
open Go.ChangeShapes Go.WideShapes Go.ChangeAt Go.RowKit
set_option linter.unusedVariables false
set_option maxRecDepth 100000

def gUn (s : Int) (X : Cx) (σ : Sg) : Sg :=
  let x := modrm X σ
  let n := x.1.2.1
  if n = 0 ∨ n = 1 then isM X 1 8 s [pE, pI] x.2 else if n = 2 then isM X 1 12 s [pE] x.2 else if n = 3 then isM X 1 11 s [pE] x.2 else if n = 4 ∨ n = 5 then isM X 4 (n - 4) s [pE] x.2 else isM X 6 (n - 6) s [pE] x.2

set_option maxHeartbeats 4000000 in
theorem unary_ok (w : World) (X : Cx) (σ : Sg) (h : St X w σ) (s : Int) (hs : s = 1 ∨ s = 2 ∨ s = 4) :
    Calls Tryz.prog 190 #[.pointer (some ⟨X.F, 0, none⟩), .int .i64 s] w fun e w' => e = .returned (.tuple #[]) ∧ Done X w (gUn s X σ) w' := by
  have cM := modrm_ok w X σ h
  have hbd := modrm_bd h
  obtain ⟨V, hV⟩ : ∃ V, V = gUn s X σ := ⟨_, rfl⟩
  rw [← hV]
  unfold gUn at hV
  obtain ⟨⟨m, n, r⟩, hm⟩ : ∃ x, x = (modrm X σ).1 := ⟨_, rfl⟩
  obtain ⟨σ1, hσ1⟩ : ∃ σ1, σ1 = (modrm X σ).2 := ⟨_, rfl⟩
  simp only [← hm, ← hσ1, mrV] at cM hbd hV
  obtain ⟨_, ⟨n0, n1⟩, _⟩ := hbd
  have fl1 := fld1
  have HS : Hid _ := hs
  have HV : Hid _ := hV
  clear hm hσ1 hV hs h
  rcases (by omega : n = 0 ∨ n = 1 ∨ n = 2 ∨ n = 3 ∨ n = 4 ∨ n = 5 ∨ n = 6 ∨ n = 7) with rfl | rfl | rfl | rfl | rfl | rfl | rfl | rfl
  · go_enter Tryz.func190, Tryz.ntmps190
    go_wp2_with fail
    refine cM.mono ?_; rintro e w1 ⟨rfl, h1, k1⟩
    have cI := is_gen (w1.alloc (.cells #[.func (.func 66) #[] #[], .func (.func 73) #[] #[]] 85)) X σ1 (h1.alloc _) 1 8 s w1.heap.size [⟨66, #[], pE⟩, ⟨73, #[], pI⟩] (by simp) h1.fresh (MapKept.heap_alloc w1 _).1 (by
      intro p hp
      simp at hp
      rcases hp with rfl | rfl
      · exact okE HS.out
      · exact okI HS.out)
    go_wp2_with fail
    refine cI.mono ?_; rintro e w2 ⟨rfl, hd⟩
    have Hd : Hid (Done X w V w2) := ⟨by rw [HV.out]; exact hd.1, (k1.trans (Kp.alloc X.own w1 _)).trans hd.2⟩
    clear hd k1 h1 cI cM
    go_wp2
    go_end0
    exact ⟨rfl, Hd.out⟩
  · go_enter Tryz.func190, Tryz.ntmps190
    go_wp2_with fail
    refine cM.mono ?_; rintro e w1 ⟨rfl, h1, k1⟩
    have cI := is_gen (w1.alloc (.cells #[.func (.func 66) #[] #[], .func (.func 73) #[] #[]] 85)) X σ1 (h1.alloc _) 1 8 s w1.heap.size [⟨66, #[], pE⟩, ⟨73, #[], pI⟩] (by simp) h1.fresh (MapKept.heap_alloc w1 _).1 (by
      intro p hp
      simp at hp
      rcases hp with rfl | rfl
      · exact okE HS.out
      · exact okI HS.out)
    go_wp2_with fail
    refine cI.mono ?_; rintro e w2 ⟨rfl, hd⟩
    have Hd : Hid (Done X w V w2) := ⟨by rw [HV.out]; exact hd.1, (k1.trans (Kp.alloc X.own w1 _)).trans hd.2⟩
    clear hd k1 h1 cI cM
    go_wp2
    go_end0
    exact ⟨rfl, Hd.out⟩
  · go_enter Tryz.func190, Tryz.ntmps190
    go_wp2_with fail
    refine cM.mono ?_; rintro e w1 ⟨rfl, h1, k1⟩
    have cI := is_gen (w1.alloc (.cells #[.func (.func 66) #[] #[]] 85)) X σ1 (h1.alloc _) 1 12 s w1.heap.size [⟨66, #[], pE⟩] (by simp) h1.fresh (MapKept.heap_alloc w1 _).1 (by
      intro p hp
      simp at hp
      subst hp
      exact okE HS.out)
    go_wp2_with fail
    refine cI.mono ?_; rintro e w2 ⟨rfl, hd⟩
    have Hd : Hid (Done X w V w2) := ⟨by rw [HV.out]; exact hd.1, (k1.trans (Kp.alloc X.own w1 _)).trans hd.2⟩
    clear hd k1 h1 cI cM
    go_wp2
    go_end0
    exact ⟨rfl, Hd.out⟩
  · go_enter Tryz.func190, Tryz.ntmps190
    go_wp2_with fail
    refine cM.mono ?_; rintro e w1 ⟨rfl, h1, k1⟩
    have cI := is_gen (w1.alloc (.cells #[.func (.func 66) #[] #[]] 85)) X σ1 (h1.alloc _) 1 11 s w1.heap.size [⟨66, #[], pE⟩] (by simp) h1.fresh (MapKept.heap_alloc w1 _).1 (by
      intro p hp
      simp at hp
      subst hp
      exact okE HS.out)
    go_wp2_with fail
    refine cI.mono ?_; rintro e w2 ⟨rfl, hd⟩
    have Hd : Hid (Done X w V w2) := ⟨by rw [HV.out]; exact hd.1, (k1.trans (Kp.alloc X.own w1 _)).trans hd.2⟩
    clear hd k1 h1 cI cM
    go_wp2
    go_end0
    exact ⟨rfl, Hd.out⟩
  · go_enter Tryz.func190, Tryz.ntmps190
    go_wp2_with fail
    refine cM.mono ?_; rintro e w1 ⟨rfl, h1, k1⟩
    have cI := is_gen (w1.alloc (.cells #[.func (.func 66) #[] #[]] 85)) X σ1 (h1.alloc _) 4 0 s w1.heap.size [⟨66, #[], pE⟩] (by simp) h1.fresh (MapKept.heap_alloc w1 _).1 (by
      intro p hp
      simp at hp
      subst hp
      exact okE HS.out)
    go_wp2_with fail
    refine cI.mono ?_; rintro e w2 ⟨rfl, hd⟩
    have Hd : Hid (Done X w V w2) := ⟨by rw [HV.out]; exact hd.1, (k1.trans (Kp.alloc X.own w1 _)).trans hd.2⟩
    clear hd k1 h1 cI cM
    go_wp2
    go_end0
    exact ⟨rfl, Hd.out⟩
  · go_enter Tryz.func190, Tryz.ntmps190
    go_wp2_with fail
    refine cM.mono ?_; rintro e w1 ⟨rfl, h1, k1⟩
    have cI := is_gen (w1.alloc (.cells #[.func (.func 66) #[] #[]] 85)) X σ1 (h1.alloc _) 4 1 s w1.heap.size [⟨66, #[], pE⟩] (by simp) h1.fresh (MapKept.heap_alloc w1 _).1 (by
      intro p hp
      simp at hp
      subst hp
      exact okE HS.out)
    go_wp2_with fail
    refine cI.mono ?_; rintro e w2 ⟨rfl, hd⟩
    have Hd : Hid (Done X w V w2) := ⟨by rw [HV.out]; exact hd.1, (k1.trans (Kp.alloc X.own w1 _)).trans hd.2⟩
    clear hd k1 h1 cI cM
    go_wp2
    go_end0
    exact ⟨rfl, Hd.out⟩
  · go_enter Tryz.func190, Tryz.ntmps190
    go_wp2_with fail
    refine cM.mono ?_; rintro e w1 ⟨rfl, h1, k1⟩
    have cI := is_gen (w1.alloc (.cells #[.func (.func 66) #[] #[]] 85)) X σ1 (h1.alloc _) 6 0 s w1.heap.size [⟨66, #[], pE⟩] (by simp) h1.fresh (MapKept.heap_alloc w1 _).1 (by
      intro p hp
      simp at hp
      subst hp
      exact okE HS.out)
    go_wp2_with fail
    refine cI.mono ?_; rintro e w2 ⟨rfl, hd⟩
    have Hd : Hid (Done X w V w2) := ⟨by rw [HV.out]; exact hd.1, (k1.trans (Kp.alloc X.own w1 _)).trans hd.2⟩
    clear hd k1 h1 cI cM
    go_wp2
    go_end0
    exact ⟨rfl, Hd.out⟩
  · go_enter Tryz.func190, Tryz.ntmps190
    go_wp2_with fail
    refine cM.mono ?_; rintro e w1 ⟨rfl, h1, k1⟩
    have cI := is_gen (w1.alloc (.cells #[.func (.func 66) #[] #[]] 85)) X σ1 (h1.alloc _) 6 1 s w1.heap.size [⟨66, #[], pE⟩] (by simp) h1.fresh (MapKept.heap_alloc w1 _).1 (by
      intro p hp
      simp at hp
      subst hp
      exact okE HS.out)
    go_wp2_with fail
    refine cI.mono ?_; rintro e w2 ⟨rfl, hd⟩
    have Hd : Hid (Done X w V w2) := ⟨by rw [HV.out]; exact hd.1, (k1.trans (Kp.alloc X.own w1 _)).trans hd.2⟩
    clear hd k1 h1 cI cM
    go_wp2
    go_end0
    exact ⟨rfl, Hd.out⟩

theorem rE0_19 : RuleOk 189 (gUn 1) := by
  intro w X σ h
  have c := unary_ok w X σ h 1 (by decide)
  clear h
  go_enter Tryz.func189, Tryz.ntmps189
  go_wp2_with fail
  refine c.mono ?_; rintro e w1 ⟨rfl, hd⟩
  go_wp2
  go_end0
  exact ⟨rfl, hd⟩

theorem rE0_20 : RuleOk 191 (fun X σ => gUn σ.v X σ) := by
  intro w X σ h
  have f3 := h.f3
  have c := unary_ok w X σ h σ.v h.vs
  clear h
  go_enter Tryz.func191, Tryz.ntmps191
  go_wp2_with fail
  refine c.mono ?_; rintro e w1 ⟨rfl, hd⟩
  go_wp2
  go_end0
  exact ⟨rfl, hd⟩

def gFF (X : Cx) (σ : Sg) : Sg :=
  let x := modrm X σ
  if x.1.2.1 = 0 then isM X 1 9 x.2.v [pE] x.2 else if x.1.2.1 = 1 then isM X 1 10 x.2.v [pE] x.2 else if x.1.2.1 = 2 then isM X 29 0 x.2.v [pE] x.2 else if x.1.2.1 = 4 then isM X 27 0 x.2.v [pE] x.2 else if x.1.2.1 = 6 then isM X 12 0 x.2.v [pE] x.2 else refuse x.2

set_option maxHeartbeats 4000000 in
theorem gFF_ok : RuleOk 199 gFF := by
  intro w X σ h
  obtain ⟨V, hV⟩ : ∃ V, V = gFF X σ := ⟨_, rfl⟩
  rw [← hV]
  unfold gFF at hV
  have cM := fun W (hW : St X W σ) => modrm_ok W X σ hW
  have hbd := fun W (hW : St X W σ) => modrm_bd hW
  obtain ⟨⟨m, n, r⟩, hm⟩ : ∃ x, x = (modrm X σ).1 := ⟨_, rfl⟩
  obtain ⟨σ1, hσ1⟩ : ∃ σ1, σ1 = (modrm X σ).2 := ⟨_, rfl⟩
  simp only [← hm, ← hσ1, mrV] at cM hbd hV
  have fl1 := fld1
  have HV : Hid _ := hV
  have HM : Hid _ := cM
  have HB : Hid _ := hbd
  have Hst : Hid (St X w σ) := h
  clear hm hσ1 hV cM hbd h
  go_enter Tryz.func199, Tryz.ntmps199
  go_wp2_with fail
  refine (HM.out _ Hst.out).mono ?_; rintro e w1 ⟨rfl, h1, k1⟩
  obtain ⟨_, ⟨n0, n1⟩, _⟩ := HB.out _ Hst.out
  have f3 := h1.f3
  have f1 := h1.f1
  have H1 : Hid (St X w1 σ1) := h1
  have K1 : Hid (Kp X.own w w1) := k1
  clear h1 k1
  rcases (by omega : n = 0 ∨ n = 1 ∨ n = 2 ∨ n = 3 ∨ n = 4 ∨ n = 5 ∨ n = 6 ∨ n = 7) with rfl | rfl | rfl | rfl | rfl | rfl | rfl | rfl
  · have cI := is_gen (w1.alloc (.cells #[.func (.func 66) #[] #[]] 85)) X σ1 (H1.out.alloc _) 1 9 σ1.v w1.heap.size [⟨66, #[], pE⟩] (by simp) H1.out.fresh (MapKept.heap_alloc w1 _).1 (by
      intro p hp
      simp at hp
      subst hp
      exact okE H1.out.vs)
    go_wp2_with fail
    refine cI.mono ?_; rintro e w2 ⟨rfl, hd⟩
    have Hd : Hid (Done X w V w2) := ⟨by rw [HV.out]; exact hd.1, (K1.out.trans (Kp.alloc X.own w1 _)).trans hd.2⟩
    clear hd cI
    go_wp2
    go_end0
    exact ⟨rfl, Hd.out⟩
  · have cI := is_gen (w1.alloc (.cells #[.func (.func 66) #[] #[]] 85)) X σ1 (H1.out.alloc _) 1 10 σ1.v w1.heap.size [⟨66, #[], pE⟩] (by simp) H1.out.fresh (MapKept.heap_alloc w1 _).1 (by
      intro p hp
      simp at hp
      subst hp
      exact okE H1.out.vs)
    go_wp2_with fail
    refine cI.mono ?_; rintro e w2 ⟨rfl, hd⟩
    have Hd : Hid (Done X w V w2) := ⟨by rw [HV.out]; exact hd.1, (K1.out.trans (Kp.alloc X.own w1 _)).trans hd.2⟩
    clear hd cI
    go_wp2
    go_end0
    exact ⟨rfl, Hd.out⟩
  · have cI := is_gen (w1.alloc (.cells #[.func (.func 66) #[] #[]] 85)) X σ1 (H1.out.alloc _) 29 0 σ1.v w1.heap.size [⟨66, #[], pE⟩] (by simp) H1.out.fresh (MapKept.heap_alloc w1 _).1 (by
      intro p hp
      simp at hp
      subst hp
      exact okE H1.out.vs)
    go_wp2_with fail
    refine cI.mono ?_; rintro e w2 ⟨rfl, hd⟩
    have Hd : Hid (Done X w V w2) := ⟨by rw [HV.out]; exact hd.1, (K1.out.trans (Kp.alloc X.own w1 _)).trans hd.2⟩
    clear hd cI
    go_wp2
    go_end0
    exact ⟨rfl, Hd.out⟩
  · have cR := refuse_ok w1 X σ1 H1.out
    go_wp2_with fail
    refine cR.mono ?_; rintro e w2 ⟨rfl, hd⟩
    have Hd : Hid (Done X w V w2) := ⟨by rw [HV.out]; exact hd.1, K1.out.trans hd.2⟩
    clear hd cR
    go_wp2
    go_end0
    exact ⟨rfl, Hd.out⟩
  · have cI := is_gen (w1.alloc (.cells #[.func (.func 66) #[] #[]] 85)) X σ1 (H1.out.alloc _) 27 0 σ1.v w1.heap.size [⟨66, #[], pE⟩] (by simp) H1.out.fresh (MapKept.heap_alloc w1 _).1 (by
      intro p hp
      simp at hp
      subst hp
      exact okE H1.out.vs)
    go_wp2_with fail
    refine cI.mono ?_; rintro e w2 ⟨rfl, hd⟩
    have Hd : Hid (Done X w V w2) := ⟨by rw [HV.out]; exact hd.1, (K1.out.trans (Kp.alloc X.own w1 _)).trans hd.2⟩
    clear hd cI
    go_wp2
    go_end0
    exact ⟨rfl, Hd.out⟩
  · have cR := refuse_ok w1 X σ1 H1.out
    go_wp2_with fail
    refine cR.mono ?_; rintro e w2 ⟨rfl, hd⟩
    have Hd : Hid (Done X w V w2) := ⟨by rw [HV.out]; exact hd.1, K1.out.trans hd.2⟩
    clear hd cR
    go_wp2
    go_end0
    exact ⟨rfl, Hd.out⟩
  · have cI := is_gen (w1.alloc (.cells #[.func (.func 66) #[] #[]] 85)) X σ1 (H1.out.alloc _) 12 0 σ1.v w1.heap.size [⟨66, #[], pE⟩] (by simp) H1.out.fresh (MapKept.heap_alloc w1 _).1 (by
      intro p hp
      simp at hp
      subst hp
      exact okE H1.out.vs)
    go_wp2_with fail
    refine cI.mono ?_; rintro e w2 ⟨rfl, hd⟩
    have Hd : Hid (Done X w V w2) := ⟨by rw [HV.out]; exact hd.1, (K1.out.trans (Kp.alloc X.own w1 _)).trans hd.2⟩
    clear hd cI
    go_wp2
    go_end0
    exact ⟨rfl, Hd.out⟩
  · have cR := refuse_ok w1 X σ1 H1.out
    go_wp2_with fail
    refine cR.mono ?_; rintro e w2 ⟨rfl, hd⟩
    have Hd : Hid (Done X w V w2) := ⟨by rw [HV.out]; exact hd.1, K1.out.trans hd.2⟩
    clear hd cR
    go_wp2
    go_end0
    exact ⟨rfl, Hd.out⟩

def gSys (X : Cx) (σ : Sg) : Sg :=
  let x := modrm X (onlyMem X σ)
  if x.1.2.1 = 2 then isM X 42 0 4 [pE] x.2 else if x.1.2.1 = 3 then isM X 43 0 4 [pE] x.2 else if x.1.2.1 = 7 then isM X 46 0 4 [pE] x.2 else refuse x.2

set_option maxHeartbeats 4000000 in
theorem gSys_ok : RuleOk 201 gSys := by
  intro w X σ h
  obtain ⟨V, hV⟩ : ∃ V, V = gSys X σ := ⟨_, rfl⟩
  rw [← hV]
  unfold gSys at hV
  have cO := onlyMem_ok w X σ h
  obtain ⟨σa, hσa⟩ : ∃ σa, σa = onlyMem X σ := ⟨_, rfl⟩
  rw [← hσa] at cO hV
  clear hσa
  have cM := fun W (hW : St X W σa) => modrm_ok W X σa hW
  have hbd := fun W (hW : St X W σa) => modrm_bd hW
  obtain ⟨⟨m, n, r⟩, hm⟩ : ∃ x, x = (modrm X σa).1 := ⟨_, rfl⟩
  obtain ⟨σ1, hσ1⟩ : ∃ σ1, σ1 = (modrm X σa).2 := ⟨_, rfl⟩
  simp only [← hm, ← hσ1, mrV] at cM hbd hV
  have fl1 := fld1
  have HV : Hid _ := hV
  have HM : Hid _ := cM
  have HB : Hid _ := hbd
  have Hst : Hid (St X w σ) := h
  clear hm hσ1 hV cM hbd h
  go_enter Tryz.func201, Tryz.ntmps201
  go_wp2_with fail
  refine cO.mono ?_; rintro e wa ⟨rfl, ha, ka⟩
  go_wp2_with fail
  refine (HM.out _ ha).mono ?_; rintro e w1 ⟨rfl, h1, k1⟩
  replace k1 := ka.trans k1
  obtain ⟨_, ⟨n0, n1⟩, _⟩ := HB.out _ ha
  have f3 := h1.f3
  have f1 := h1.f1
  have H1 : Hid (St X w1 σ1) := h1
  have K1 : Hid (Kp X.own w w1) := k1
  clear h1 k1 ha ka cO
  rcases (by omega : n = 0 ∨ n = 1 ∨ n = 2 ∨ n = 3 ∨ n = 4 ∨ n = 5 ∨ n = 6 ∨ n = 7) with rfl | rfl | rfl | rfl | rfl | rfl | rfl | rfl
  · have cR := refuse_ok w1 X σ1 H1.out
    go_wp2_with fail
    refine cR.mono ?_; rintro e w2 ⟨rfl, hd⟩
    have Hd : Hid (Done X w V w2) := ⟨by rw [HV.out]; exact hd.1, K1.out.trans hd.2⟩
    clear hd cR
    go_wp2
    go_end0
    exact ⟨rfl, Hd.out⟩
  · have cR := refuse_ok w1 X σ1 H1.out
    go_wp2_with fail
    refine cR.mono ?_; rintro e w2 ⟨rfl, hd⟩
    have Hd : Hid (Done X w V w2) := ⟨by rw [HV.out]; exact hd.1, K1.out.trans hd.2⟩
    clear hd cR
    go_wp2
    go_end0
    exact ⟨rfl, Hd.out⟩
  · have cI := is_gen (w1.alloc (.cells #[.func (.func 66) #[] #[]] 85)) X σ1 (H1.out.alloc _) 42 0 4 w1.heap.size [⟨66, #[], pE⟩] (by simp) H1.out.fresh (MapKept.heap_alloc w1 _).1 (by
      intro p hp
      simp at hp
      subst hp
      exact okE (by decide))
    go_wp2_with fail
    refine cI.mono ?_; rintro e w2 ⟨rfl, hd⟩
    have Hd : Hid (Done X w V w2) := ⟨by rw [HV.out]; exact hd.1, (K1.out.trans (Kp.alloc X.own w1 _)).trans hd.2⟩
    clear hd cI
    go_wp2
    go_end0
    exact ⟨rfl, Hd.out⟩
  · have cI := is_gen (w1.alloc (.cells #[.func (.func 66) #[] #[]] 85)) X σ1 (H1.out.alloc _) 43 0 4 w1.heap.size [⟨66, #[], pE⟩] (by simp) H1.out.fresh (MapKept.heap_alloc w1 _).1 (by
      intro p hp
      simp at hp
      subst hp
      exact okE (by decide))
    go_wp2_with fail
    refine cI.mono ?_; rintro e w2 ⟨rfl, hd⟩
    have Hd : Hid (Done X w V w2) := ⟨by rw [HV.out]; exact hd.1, (K1.out.trans (Kp.alloc X.own w1 _)).trans hd.2⟩
    clear hd cI
    go_wp2
    go_end0
    exact ⟨rfl, Hd.out⟩
  · have cR := refuse_ok w1 X σ1 H1.out
    go_wp2_with fail
    refine cR.mono ?_; rintro e w2 ⟨rfl, hd⟩
    have Hd : Hid (Done X w V w2) := ⟨by rw [HV.out]; exact hd.1, K1.out.trans hd.2⟩
    clear hd cR
    go_wp2
    go_end0
    exact ⟨rfl, Hd.out⟩
  · have cR := refuse_ok w1 X σ1 H1.out
    go_wp2_with fail
    refine cR.mono ?_; rintro e w2 ⟨rfl, hd⟩
    have Hd : Hid (Done X w V w2) := ⟨by rw [HV.out]; exact hd.1, K1.out.trans hd.2⟩
    clear hd cR
    go_wp2
    go_end0
    exact ⟨rfl, Hd.out⟩
  · have cR := refuse_ok w1 X σ1 H1.out
    go_wp2_with fail
    refine cR.mono ?_; rintro e w2 ⟨rfl, hd⟩
    have Hd : Hid (Done X w V w2) := ⟨by rw [HV.out]; exact hd.1, K1.out.trans hd.2⟩
    clear hd cR
    go_wp2
    go_end0
    exact ⟨rfl, Hd.out⟩
  · have cI := is_gen (w1.alloc (.cells #[.func (.func 66) #[] #[]] 85)) X σ1 (H1.out.alloc _) 46 0 4 w1.heap.size [⟨66, #[], pE⟩] (by simp) H1.out.fresh (MapKept.heap_alloc w1 _).1 (by
      intro p hp
      simp at hp
      subst hp
      exact okE (by decide))
    go_wp2_with fail
    refine cI.mono ?_; rintro e w2 ⟨rfl, hd⟩
    have Hd : Hid (Done X w V w2) := ⟨by rw [HV.out]; exact hd.1, (K1.out.trans (Kp.alloc X.own w1 _)).trans hd.2⟩
    clear hd cI
    go_wp2
    go_end0
    exact ⟨rfl, Hd.out⟩

def gLea (X : Cx) (σ : Sg) : Sg := isM X 11 0 (onlyMem X σ).v [pG, pE] (onlyMem X σ)

theorem gLea_ok : RuleOk 115 gLea := by
  intro w X σ h
  have cO := onlyMem_ok w X σ h
  unfold gLea
  obtain ⟨σa, hσa⟩ : ∃ σa, σa = onlyMem X σ := ⟨_, rfl⟩
  rw [← hσa] at cO ⊢
  clear hσa h
  go_enter Tryz.func115, Tryz.ntmps115
  go_wp2_with fail
  refine cO.mono ?_; rintro e wa ⟨rfl, ha, ka⟩
  have f3 := ha.f3
  have cI := is_gen (wa.alloc (.cells #[.func (.func 67) #[] #[], .func (.func 66) #[] #[]] 85)) X σa (ha.alloc _) 11 0 σa.v wa.heap.size [⟨67, #[], pG⟩, ⟨66, #[], pE⟩] (by simp) ha.fresh (MapKept.heap_alloc wa _).1 (by
    intro p hp
    simp at hp
    rcases hp with rfl | rfl
    · exact okG ha.vs
    · exact okE ha.vs)
  go_wp2_with fail
  refine cI.mono ?_; rintro e w2 ⟨rfl, hd⟩
  have Hd : Hid (Done X w _ w2) := ⟨hd.1, (ka.trans (Kp.alloc X.own wa _)).trans hd.2⟩
  clear hd cI ha ka cO
  go_wp2
  go_end0
  exact ⟨rfl, Hd.out⟩

def gTo (X : Cx) (σ : Sg) : Sg := isM X 8 0 2 [pSeg (modrm X (onlyM X [0, 2, 3, 4, 5] σ)).1.2.1, pE] (modrm X (onlyM X [0, 2, 3, 4, 5] σ)).2

set_option maxHeartbeats 2000000 in
theorem gTo_ok : RuleOk 116 gTo := by
  intro w X σ h
  unfold gTo
  have h0 : St X (w.alloc (.cells #[.int .i64 0, .int .i64 2, .int .i64 3, .int .i64 4, .int .i64 5] 3)) σ := h.alloc _
  have hn0 := (MapKept.heap_alloc w (.cells #[.int .i64 0, .int .i64 2, .int .i64 3, .int .i64 4, .int .i64 5] 3)).1
  have cO := only_ok _ X σ h0 w.heap.size 5 [0, 2, 3, 4, 5] rfl (by decide) h.fresh (fun j hj => by
    rcases (by omega : j = 0 ∨ j = 1 ∨ j = 2 ∨ j = 3 ∨ j = 4) with rfl | rfl | rfl | rfl | rfl <;> (unfold World.cell?; rw [hn0]; rfl))
  obtain ⟨σa, hσa⟩ : ∃ σa, σa = onlyM X [0, 2, 3, 4, 5] σ := ⟨_, rfl⟩
  rw [← hσa] at cO ⊢
  have cM := fun W (hW : St X W σa) => modrm_ok W X σa hW
  obtain ⟨⟨m, n, r⟩, hm⟩ : ∃ x, x = (modrm X σa).1 := ⟨_, rfl⟩
  obtain ⟨σ1, hσ1⟩ : ∃ σ1, σ1 = (modrm X σa).2 := ⟨_, rfl⟩
  rw [← hm, ← hσ1]
  simp only [← hm, ← hσ1, mrV] at cM ⊢
  have fl1 := fld1
  have HM : Hid _ := cM
  clear hσa h h0 hn0 hm hσ1 cM
  go_enter Tryz.func116, Tryz.ntmps116
  go_wp2_with fail
  refine cO.mono ?_; rintro e wa ⟨rfl, ha, ka⟩
  replace ka := (Kp.alloc X.own w _).trans ka
  clear cO
  go_wp2_with fail
  refine (HM.out _ ha).mono ?_; rintro e w1 ⟨rfl, h1, k1⟩
  go_wp2_with fail
  refine (segment_ok _ _).mono ?_; rintro e w3 ⟨rfl, hw⟩; subst hw
  have cI := is_gen ((w1.alloc (.cells #[.int .i64 n] 3)).alloc (.cells #[.func (.func 252) #[] #[.pointer (some ⟨w1.heap.size, 0, none⟩)], .func (.func 66) #[] #[]] 85)) X σ1 ((h1.alloc _).alloc _) 8 0 2 (w1.heap.size + 1) [⟨252, #[.pointer (some ⟨w1.heap.size, 0, none⟩)], pSeg n⟩, ⟨66, #[], pE⟩] (by simp) h1.fresh1 (heap2 w1 _ _) (by
    intro p hp
    simp at hp
    rcases hp with rfl | rfl
    · exact seg_ok h1.fresh (cell_kept (cell_new w1 (.int .i64 n) 3) (Kp.alloc X.own _ _) h1.fresh)
    · exact okE (by decide))
  go_wp2_with fail
  refine cI.mono ?_; rintro e w2 ⟨rfl, hd⟩
  have Hd : Hid (Done X w _ w2) := ⟨hd.1, (((ka.trans k1).trans (Kp.alloc X.own _ _)).trans (Kp.alloc X.own _ _)).trans hd.2⟩
  clear hd cI ha ka h1 k1
  go_wp2
  go_end0
  exact ⟨rfl, Hd.out⟩

def gFrom (X : Cx) (σ : Sg) : Sg :=
  let x := modrm X (onlyM X [0, 1, 2, 3, 4, 5] σ)
  let y := modrm X x.2
  isM X 8 0 (if x.1.1 = 3 then x.2.v else 2) [pE, pSeg y.1.2.1] y.2

set_option maxHeartbeats 4000000 in
theorem gFrom_ok : RuleOk 114 gFrom := by
  intro w X σ h
  unfold gFrom
  have h0 : St X (w.alloc (.cells #[.int .i64 0, .int .i64 1, .int .i64 2, .int .i64 3, .int .i64 4, .int .i64 5] 3)) σ := h.alloc _
  have hn0 := (MapKept.heap_alloc w (.cells #[.int .i64 0, .int .i64 1, .int .i64 2, .int .i64 3, .int .i64 4, .int .i64 5] 3)).1
  have cO := only_ok _ X σ h0 w.heap.size 6 [0, 1, 2, 3, 4, 5] rfl (by decide) h.fresh (fun j hj => by
    rcases (by omega : j = 0 ∨ j = 1 ∨ j = 2 ∨ j = 3 ∨ j = 4 ∨ j = 5) with rfl | rfl | rfl | rfl | rfl | rfl <;> (unfold World.cell?; rw [hn0]; rfl))
  obtain ⟨σa, hσa⟩ : ∃ σa, σa = onlyM X [0, 1, 2, 3, 4, 5] σ := ⟨_, rfl⟩
  rw [← hσa] at cO ⊢
  have cM := fun W (hW : St X W σa) => modrm_ok W X σa hW
  obtain ⟨⟨m, n, r⟩, hm⟩ : ∃ x, x = (modrm X σa).1 := ⟨_, rfl⟩
  obtain ⟨σ1, hσ1⟩ : ∃ σ1, σ1 = (modrm X σa).2 := ⟨_, rfl⟩
  have cM2 := fun W (hW : St X W σ1) => modrm_ok W X σ1 hW
  obtain ⟨⟨m2, n2, r2⟩, hm2⟩ : ∃ x, x = (modrm X σ1).1 := ⟨_, rfl⟩
  obtain ⟨σ2, hσ2⟩ : ∃ σ2, σ2 = (modrm X σ1).2 := ⟨_, rfl⟩
  simp only [← hm, ← hσ1, ← hm2, ← hσ2, mrV] at cM cM2 ⊢
  obtain ⟨s, hs⟩ : ∃ s, s = if m = 3 then σ1.v else 2 := ⟨_, rfl⟩
  rw [← hs]
  have fl0 := fld0
  have fl1 := fld1
  have HM : Hid _ := cM
  have HM2 : Hid _ := cM2
  have HS : Hid _ := hs
  clear hσa h h0 hn0 hm hσ1 cM hm2 hσ2 cM2 hs
  go_enter Tryz.func114, Tryz.ntmps114
  go_wp2_with fail
  refine cO.mono ?_; rintro e wa ⟨rfl, ha, ka⟩
  replace ka := (Kp.alloc X.own w _).trans ka
  clear cO
  go_wp2_with fail
  refine (HM.out _ ha).mono ?_; rintro e w1 ⟨rfl, h1, k1⟩
  have f3 := h1.f3
  by_cases h3 : m = 3
  · have hs1 : σ1.v = s := by rw [HS.out, if_pos h3]
    have hsz : s = 1 ∨ s = 2 ∨ s = 4 := by rw [← hs1]; exact h1.vs
    rw [hs1] at f3
    have HZ : Hid _ := hsz
    clear hsz hs1
    go_wp2_with fail
    refine (HM2.out _ h1).mono ?_; rintro e w2 ⟨rfl, h2, k2⟩
    go_wp2_with fail
    refine (segment_ok _ _).mono ?_; rintro e w3 ⟨rfl, hw⟩; subst hw
    have cI := is_gen ((w2.alloc (.cells #[.int .i64 n2] 3)).alloc (.cells #[.func (.func 66) #[] #[], .func (.func 252) #[] #[.pointer (some ⟨w2.heap.size, 0, none⟩)]] 85)) X σ2 ((h2.alloc _).alloc _) 8 0 s (w2.heap.size + 1) [⟨66, #[], pE⟩, ⟨252, #[.pointer (some ⟨w2.heap.size, 0, none⟩)], pSeg n2⟩] (by simp) h2.fresh1 (heap2 w2 _ _) (by
      intro p hp
      simp at hp
      rcases hp with rfl | rfl
      · exact okE HZ.out
      · exact seg_ok h2.fresh (cell_kept (cell_new w2 (.int .i64 n2) 3) (Kp.alloc X.own _ _) h2.fresh))
    go_wp2_with fail
    refine cI.mono ?_; rintro e w4 ⟨rfl, hd⟩
    have Hd : Hid (Done X w _ w4) := ⟨hd.1, ((((ka.trans k1).trans k2).trans (Kp.alloc X.own _ _)).trans (Kp.alloc X.own _ _)).trans hd.2⟩
    clear hd cI ha ka h1 k1 h2 k2
    go_wp2
    go_end0
    exact ⟨rfl, Hd.out⟩
  · have hs1 : s = 2 := by rw [HS.out, if_neg h3]
    have HS1 : Hid _ := hs1
    clear hs1
    go_wp2_with fail
    refine (HM2.out _ h1).mono ?_; rintro e w2 ⟨rfl, h2, k2⟩
    go_wp2_with fail
    refine (segment_ok _ _).mono ?_; rintro e w3 ⟨rfl, hw⟩; subst hw
    have cI := is_gen ((w2.alloc (.cells #[.int .i64 n2] 3)).alloc (.cells #[.func (.func 66) #[] #[], .func (.func 252) #[] #[.pointer (some ⟨w2.heap.size, 0, none⟩)]] 85)) X σ2 ((h2.alloc _).alloc _) 8 0 2 (w2.heap.size + 1) [⟨66, #[], pE⟩, ⟨252, #[.pointer (some ⟨w2.heap.size, 0, none⟩)], pSeg n2⟩] (by simp) h2.fresh1 (heap2 w2 _ _) (by
      intro p hp
      simp at hp
      rcases hp with rfl | rfl
      · exact okE (by decide)
      · exact seg_ok h2.fresh (cell_kept (cell_new w2 (.int .i64 n2) 3) (Kp.alloc X.own _ _) h2.fresh))
    go_wp2_with fail
    refine cI.mono ?_; rintro e w4 ⟨rfl, hd⟩
    have Hd : Hid (Done X w (isM X 8 0 2 [pE, pSeg n2] σ2) w4) := ⟨hd.1, ((((ka.trans k1).trans k2).trans (Kp.alloc X.own _ _)).trans (Kp.alloc X.own _ _)).trans hd.2⟩
    clear hd cI ha ka h1 k1 h2 k2
    go_wp2
    go_end0
    rw [HS1.out]
    exact ⟨rfl, Hd.out⟩

end Go.Proofs.YtolnaodlghahlaaGreatDoor
