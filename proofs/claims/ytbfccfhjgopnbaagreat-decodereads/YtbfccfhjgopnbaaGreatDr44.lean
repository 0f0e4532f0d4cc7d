/- The document's reader, and the code's (DecR2). -/
import Derived.Test.YtbfccfhjgopnbaaGreatDr03
import Derived.Deep.RegionWith
set_option linter.unusedSimpArgs false
namespace Go.Proofs.YtbfccfhjgopnbaaGreat
open Go.ChangeShapes Go.WideShapes Go.ChangeAt Go.RowKit
set_option linter.unusedVariables false
set_option maxRecDepth 100000
set_option maxHeartbeats 4000000 in
theorem r00_2 : RuleOk 37 (fun X σ => isM X 1 (σ.op / 8 % 8) σ.v [pE, pG] σ) := by
  intro w X σ h
  have f3 := h.f3
  have hF := h.ltF
  have hfre := h.fresh
  have Hst : Hid (St X w σ) := h
  have Hfre : Hid (¬ X.own w.heap.size) := hfre
  clear h hfre
  have HP : Hid (∀ W : World, ∀ p ∈ ([⟨35, #[], pE⟩, ⟨36, #[], pG⟩] : List Prt), PartOk X W p.n p.cap p.f σ.v) := by
    intro W p hp
    simp at hp
    rcases hp with rfl | rfl
    · exact okE Hst.out.vs
    · exact okG Hst.out.vs
  go_enter Tryz.func37, Tryz.ntmps37
  have Hd0 : Hid (St X w.drew σ) := Hst.out.drewN 1
  have Kd0 : Hid (Kp X.own w w.drew) := (Kp.refl _ _).drewN 1
  have Hd1 : Hid (St X (w.alloc (.cells #[.func (.func 35) #[] #[], .func (.func 36) #[] #[]] 55)).drew σ) := (Hst.out.alloc _).drewN 1
  have Kd1 : Hid (Kp X.own w (w.alloc (.cells #[.func (.func 35) #[] #[], .func (.func 36) #[] #[]] 55)).drew) := (Kp.alloc _ _ _).drewN 1
  have Hh1 : Hid ((w.alloc (.cells #[.func (.func 35) #[] #[], .func (.func 36) #[] #[]] 55)).drew.heap[w.heap.size]? = some (.cells #[.func (.func 35) #[] #[], .func (.func 36) #[] #[]] 55)) := (MapKept.heap_alloc w _).1
  go_region_with (first
    | (go_at_call 34; refine Calls.mono (n_ok _ X σ ?_) ?_; (first | exact Hd0.out | exact Hd1.out); rintro e w0 ⟨rfl, hw⟩; subst hw)
    | (go_at_call 33; have cI := is_gen (w.alloc (.cells #[.func (.func 35) #[] #[], .func (.func 36) #[] #[]] 55)).drew X σ Hd1.out 1 (σ.op / 8 % 8) σ.v w.heap.size [⟨35, #[], pE⟩, ⟨36, #[], pG⟩] (by decide) Hfre.out Hh1.out (HP.out _); refine cI.mono ?_; rintro e w2 ⟨rfl, hd⟩; have hk := Kd1.out.trans hd.2))
  all_goals
    have hs9 := hd.1
    clear hd
    go_wp2
    go_end0
    exact ⟨rfl, hs9, hk⟩
set_option maxHeartbeats 4000000 in
theorem r00_6 : RuleOk 43 (fun X σ => isM X 1 (σ.op / 8 % 8) σ.v [pA, pI] σ) := by
  intro w X σ h
  have f3 := h.f3
  have hF := h.ltF
  have hfre := h.fresh
  have Hst : Hid (St X w σ) := h
  have Hfre : Hid (¬ X.own w.heap.size) := hfre
  clear h hfre
  have HP : Hid (∀ W : World, ∀ p ∈ ([⟨41, #[], pA⟩, ⟨42, #[], pI⟩] : List Prt), PartOk X W p.n p.cap p.f σ.v) := by
    intro W p hp
    simp at hp
    rcases hp with rfl | rfl
    · exact okA Hst.out.vs
    · exact okI Hst.out.vs
  go_enter Tryz.func43, Tryz.ntmps43
  have Hd0 : Hid (St X w.drew σ) := Hst.out.drewN 1
  have Kd0 : Hid (Kp X.own w w.drew) := (Kp.refl _ _).drewN 1
  have Hd1 : Hid (St X (w.alloc (.cells #[.func (.func 41) #[] #[], .func (.func 42) #[] #[]] 55)).drew σ) := (Hst.out.alloc _).drewN 1
  have Kd1 : Hid (Kp X.own w (w.alloc (.cells #[.func (.func 41) #[] #[], .func (.func 42) #[] #[]] 55)).drew) := (Kp.alloc _ _ _).drewN 1
  have Hh1 : Hid ((w.alloc (.cells #[.func (.func 41) #[] #[], .func (.func 42) #[] #[]] 55)).drew.heap[w.heap.size]? = some (.cells #[.func (.func 41) #[] #[], .func (.func 42) #[] #[]] 55)) := (MapKept.heap_alloc w _).1
  go_region_with (first
    | (go_at_call 34; refine Calls.mono (n_ok _ X σ ?_) ?_; (first | exact Hd0.out | exact Hd1.out); rintro e w0 ⟨rfl, hw⟩; subst hw)
    | (go_at_call 33; have cI := is_gen (w.alloc (.cells #[.func (.func 41) #[] #[], .func (.func 42) #[] #[]] 55)).drew X σ Hd1.out 1 (σ.op / 8 % 8) σ.v w.heap.size [⟨41, #[], pA⟩, ⟨42, #[], pI⟩] (by decide) Hfre.out Hh1.out (HP.out _); refine cI.mono ?_; rintro e w2 ⟨rfl, hd⟩; have hk := Kd1.out.trans hd.2))
  all_goals
    have hs9 := hd.1
    clear hd
    go_wp2
    go_end0
    exact ⟨rfl, hs9, hk⟩
set_option maxHeartbeats 4000000 in
theorem r00_10 : RuleOk 48 (fun X σ => isM X 12 0 σ.v [pSeg 3] σ) := by
  intro w X σ h
  have f3 := h.f3
  have hF := h.ltF
  have hfre := h.fresh
  have Hst : Hid (St X w σ) := h
  have Hfre : Hid (¬ X.own w.heap.size) := hfre
  clear h hfre
  have HP : Hid (∀ (W : World) (q : Nat), ¬ X.own q → W.cell? ⟨q, 0, none⟩ = some (.int .i64 3) → ∀ p ∈ ([⟨221, #[.pointer (some ⟨q, 0, none⟩)], pSeg 3⟩] : List Prt), PartOk X W p.n p.cap p.f σ.v) := by
    intro W q hq hc p hp
    simp at hp
    subst hp
    exact seg_ok hq hc
  go_enter Tryz.func48, Tryz.ntmps48
  have Hd0 : Hid (St X w.drew σ) := Hst.out.drewN 1
  have Kd0 : Hid (Kp X.own w w.drew) := (Kp.refl _ _).drewN 1
  have Hd2 : Hid (St X ((w.alloc (.cells #[.int .i64 3] 3)).alloc (.cells #[.func (.func 221) #[] #[.pointer (some ⟨w.heap.size, 0, none⟩)]] 55)).drew σ) := ((Hst.out.alloc _).alloc _).drewN 1
  have Kd2 : Hid (Kp X.own w ((w.alloc (.cells #[.int .i64 3] 3)).alloc (.cells #[.func (.func 221) #[] #[.pointer (some ⟨w.heap.size, 0, none⟩)]] 55)).drew) := ((Kp.alloc X.own w _).trans (Kp.alloc X.own _ _)).drewN 1
  have Hh2 : Hid (((w.alloc (.cells #[.int .i64 3] 3)).alloc (.cells #[.func (.func 221) #[] #[.pointer (some ⟨w.heap.size, 0, none⟩)]] 55)).drew.heap[w.heap.size + 1]? = some (.cells #[.func (.func 221) #[] #[.pointer (some ⟨w.heap.size, 0, none⟩)]] 55)) := heap2 w _ _
  have Hc2 : Hid (((w.alloc (.cells #[.int .i64 3] 3)).alloc (.cells #[.func (.func 221) #[] #[.pointer (some ⟨w.heap.size, 0, none⟩)]] 55)).drew.cell? ⟨w.heap.size, 0, none⟩ = some (.int .i64 3)) := cell_kept (cell_new w (.int .i64 3) 3) ((Kp.alloc X.own _ _).drewN 1) Hfre.out
  have Hf2 : Hid (¬ X.own (w.heap.size + 1)) := Hst.out.fresh1
  go_region_with (first
    | (go_at_call 45; refine (segment_ok _ _).mono ?_; rintro e w3 ⟨rfl, hw⟩; subst hw)
    | (go_at_call 33; have cI := is_gen ((w.alloc (.cells #[.int .i64 3] 3)).alloc (.cells #[.func (.func 221) #[] #[.pointer (some ⟨w.heap.size, 0, none⟩)]] 55)).drew X σ Hd2.out 12 0 σ.v (w.heap.size + 1) [⟨221, #[.pointer (some ⟨w.heap.size, 0, none⟩)], pSeg 3⟩] (by simp) Hf2.out Hh2.out (HP.out _ _ Hfre.out Hc2.out); refine cI.mono ?_; rintro e w2 ⟨rfl, hd⟩; have hk := Kd2.out.trans hd.2))
  all_goals
    have hs9 := hd.1
    clear hd
    go_wp2
    go_end0
    exact ⟨rfl, hs9, hk⟩
set_option maxHeartbeats 4000000 in
theorem r00_14 : RuleOk 52 (fun X σ => isM X 7 0 1 [] σ) := by
  intro w X σ h
  have f3 := h.f3
  have hF := h.ltF
  have hfre := h.fresh
  have Hst : Hid (St X w σ) := h
  have Hfre : Hid (¬ X.own w.heap.size) := hfre
  clear h hfre
  go_enter Tryz.func52, Tryz.ntmps52
  go_wp2_with fail
  refine (is_nil _ X σ Hst.out 7 0 1).mono ?_; rintro e w2 ⟨rfl, hd⟩
  have hk := hd.2
  have hs9 := hd.1
  clear hd
  go_wp2
  go_end0
  exact ⟨rfl, hs9, hk⟩
set_option maxHeartbeats 4000000 in
theorem r40_1 : RuleOk 56 (fun X σ => isM X 1 9 σ.v [pR] σ) := by
  intro w X σ h
  have f3 := h.f3
  have hF := h.ltF
  have hfre := h.fresh
  have Hst : Hid (St X w σ) := h
  have Hfre : Hid (¬ X.own w.heap.size) := hfre
  clear h hfre
  have HP : Hid (∀ W : World, ∀ p ∈ ([⟨57, #[], pR⟩] : List Prt), PartOk X W p.n p.cap p.f σ.v) := by
    intro W p hp
    simp at hp
    subst hp
    exact okR Hst.out.vs
  go_enter Tryz.func56, Tryz.ntmps56
  go_wp2_with fail
  have cI := is_gen (w.alloc (.cells #[.func (.func 57) #[] #[]] 55)) X σ (Hst.out.alloc _) 1 9 σ.v w.heap.size [⟨57, #[], pR⟩] (by decide) (Hst.out.fresh) (MapKept.heap_alloc w (.cells #[.func (.func 57) #[] #[]] 55)).1 (HP.out _)
  refine cI.mono ?_; rintro e w2 ⟨rfl, hd⟩
  have hk := ((Kp.alloc X.own _ _)).trans hd.2
  have hs9 := hd.1
  clear hd
  go_wp2
  go_end0
  exact ⟨rfl, hs9, hk⟩
set_option maxHeartbeats 4000000 in
theorem r40_5 : RuleOk 61 (fun X σ => isM X 14 0 σ.v [] σ) := by
  intro w X σ h
  have f3 := h.f3
  have hF := h.ltF
  have hfre := h.fresh
  have Hst : Hid (St X w σ) := h
  have Hfre : Hid (¬ X.own w.heap.size) := hfre
  clear h hfre
  go_enter Tryz.func61, Tryz.ntmps61
  go_wp2_with fail
  refine (is_nil _ X σ Hst.out 14 0 σ.v).mono ?_; rintro e w2 ⟨rfl, hd⟩
  have hk := hd.2
  have hs9 := hd.1
  clear hd
  go_wp2
  go_end0
  exact ⟨rfl, hs9, hk⟩
set_option maxHeartbeats 4000000 in
theorem r40_9 : RuleOk 65 (fun X σ => isM X 12 0 σ.v [pIs] σ) := by
  intro w X σ h
  have f3 := h.f3
  have hF := h.ltF
  have hfre := h.fresh
  have Hst : Hid (St X w σ) := h
  have Hfre : Hid (¬ X.own w.heap.size) := hfre
  clear h hfre
  have HP : Hid (∀ W : World, ∀ p ∈ ([⟨66, #[], pIs⟩] : List Prt), PartOk X W p.n p.cap p.f σ.v) := by
    intro W p hp
    simp at hp
    subst hp
    exact okIs Hst.out.vs
  go_enter Tryz.func65, Tryz.ntmps65
  go_wp2_with fail
  have cI := is_gen (w.alloc (.cells #[.func (.func 66) #[] #[]] 55)) X σ (Hst.out.alloc _) 12 0 σ.v w.heap.size [⟨66, #[], pIs⟩] (by decide) (Hst.out.fresh) (MapKept.heap_alloc w (.cells #[.func (.func 66) #[] #[]] 55)).1 (HP.out _)
  refine cI.mono ?_; rintro e w2 ⟨rfl, hd⟩
  have hk := ((Kp.alloc X.own _ _)).trans hd.2
  have hs9 := hd.1
  clear hd
  go_wp2
  go_end0
  exact ⟨rfl, hs9, hk⟩
set_option maxHeartbeats 4000000 in
theorem r80_2 : RuleOk 73 (fun X σ => isM X 1 (modrm X σ).1.2.1 σ.v [pE, pI] (modrm X σ).2) := by
  intro w X σ h
  have f3 := h.f3
  have hF := h.ltF
  have hfre := h.fresh
  have cM := fun W (hW : St X W σ) => modrm_ok W X σ hW
  have hv1 := modrm_v X σ
  have hbd := modrm_bd h
  obtain ⟨⟨m, n, r⟩, hm⟩ : ∃ x, x = (modrm X σ).1 := ⟨_, rfl⟩
  obtain ⟨σ1, hσ1⟩ : ∃ σ1, σ1 = (modrm X σ).2 := ⟨_, rfl⟩
  obtain ⟨V, hV⟩ : ∃ V, V = isM X 1 n σ.v [pE, pI] σ1 := ⟨_, rfl⟩
  show Calls _ _ _ _ fun e w' => _ ∧ Done X w (isM X 1 (modrm X σ).1.2.1 σ.v [pE, pI] (modrm X σ).2) w'
  rw [show isM X 1 (modrm X σ).1.2.1 σ.v [pE, pI] (modrm X σ).2 = V by rw [hV, hσ1, ← hm]]
  simp only [← hm, ← hσ1, mrV] at cM hv1 hbd
  obtain ⟨_, ⟨n0, n1⟩, _⟩ := hbd
  have fl1 := fld1
  have HV : Hid (V = isM X 1 n σ.v [pE, pI] σ1) := hV
  have Hv1 : Hid (σ1.v = σ.v) := hv1
  have HM : Hid _ := cM
  clear hm hσ1 hV hv1 cM
  have Hst : Hid (St X w σ) := h
  have Hfre : Hid (¬ X.own w.heap.size) := hfre
  clear h hfre
  have HP : Hid (∀ W : World, ∀ p ∈ ([⟨35, #[], pE⟩, ⟨42, #[], pI⟩] : List Prt), PartOk X W p.n p.cap p.f σ.v) := by
    intro W p hp
    simp at hp
    rcases hp with rfl | rfl
    · exact okE Hst.out.vs
    · exact okI Hst.out.vs
  go_enter Tryz.func73, Tryz.ntmps73
  have Hd0 : Hid (St X w.drew σ) := Hst.out.drewN 1
  have Kd0 : Hid (Kp X.own w w.drew) := (Kp.refl _ _).drewN 1
  have Hd1 : Hid (St X (w.alloc (.cells #[.func (.func 35) #[] #[], .func (.func 42) #[] #[]] 55)).drew σ) := (Hst.out.alloc _).drewN 1
  have Kd1 : Hid (Kp X.own w (w.alloc (.cells #[.func (.func 35) #[] #[], .func (.func 42) #[] #[]] 55)).drew) := (Kp.alloc _ _ _).drewN 1
  have Hh1 : Hid ((w.alloc (.cells #[.func (.func 35) #[] #[], .func (.func 42) #[] #[]] 55)).drew.heap[w.heap.size]? = some (.cells #[.func (.func 35) #[] #[], .func (.func 42) #[] #[]] 55)) := (MapKept.heap_alloc w _).1
  go_region_with (first
    | (go_at_call 72; refine Calls.mono (HM.out _ ?_) ?_; (first | exact Hd0.out | exact Hd1.out); rintro e w1 ⟨rfl, h1, k1⟩; have g3 : w1.cell? ⟨X.F, 3, none⟩ = some (.int .i64 σ.v) := (by rw [← Hv1.out]; exact h1.f3); have gF := h1.ltF; (try have hsl := heap_kept Hh1.out k1 Hfre.out))
    | (go_at_call 33; first | (have cI := is_gen w1 X σ1 h1 1 n σ.v w.heap.size [⟨35, #[], pE⟩, ⟨42, #[], pI⟩] (by decide) Hfre.out hsl (HP.out _); refine cI.mono ?_; rintro e w2 ⟨rfl, hd⟩; have hk := (Kd1.out.trans k1).trans hd.2) | (have cI := is_gen (w1.alloc (.cells #[.func (.func 35) #[] #[], .func (.func 42) #[] #[]] 55)) X σ1 (h1.alloc _) 1 n σ.v w1.heap.size [⟨35, #[], pE⟩, ⟨42, #[], pI⟩] (by decide) h1.fresh (MapKept.heap_alloc w1 (.cells #[.func (.func 35) #[] #[], .func (.func 42) #[] #[]] 55)).1 (HP.out _); refine cI.mono ?_; rintro e w2 ⟨rfl, hd⟩; have hk := ((Kd0.out.trans k1).trans (Kp.alloc X.own w1 _)).trans hd.2)))
  all_goals
    have hs9 := hd.1
    clear hd
    go_wp2
    go_end0
    rw [HV.out]
    exact ⟨rfl, hs9, hk⟩
set_option maxHeartbeats 4000000 in
theorem r80_6 : RuleOk 77 (fun X σ => isM X 10 0 1 [pE, pG] σ) := by
  intro w X σ h
  have f3 := h.f3
  have hF := h.ltF
  have hfre := h.fresh
  have Hst : Hid (St X w σ) := h
  have Hfre : Hid (¬ X.own w.heap.size) := hfre
  clear h hfre
  have HP : Hid (∀ W : World, ∀ p ∈ ([⟨35, #[], pE⟩, ⟨36, #[], pG⟩] : List Prt), PartOk X W p.n p.cap p.f 1) := by
    intro W p hp
    simp at hp
    rcases hp with rfl | rfl
    · exact okE (by decide)
    · exact okG (by decide)
  go_enter Tryz.func77, Tryz.ntmps77
  go_wp2_with fail
  have cI := is_gen (w.alloc (.cells #[.func (.func 35) #[] #[], .func (.func 36) #[] #[]] 55)) X σ (Hst.out.alloc _) 10 0 1 w.heap.size [⟨35, #[], pE⟩, ⟨36, #[], pG⟩] (by decide) (Hst.out.fresh) (MapKept.heap_alloc w (.cells #[.func (.func 35) #[] #[], .func (.func 36) #[] #[]] 55)).1 (HP.out _)
  refine cI.mono ?_; rintro e w2 ⟨rfl, hd⟩
  have hk := ((Kp.alloc X.own _ _)).trans hd.2
  have hs9 := hd.1
  clear hd
  go_wp2
  go_end0
  exact ⟨rfl, hs9, hk⟩
set_option maxHeartbeats 4000000 in
theorem r80_10 : RuleOk 81 (fun X σ => isM X 8 0 1 [pG, pE] σ) := by
  intro w X σ h
  have f3 := h.f3
  have hF := h.ltF
  have hfre := h.fresh
  have Hst : Hid (St X w σ) := h
  have Hfre : Hid (¬ X.own w.heap.size) := hfre
  clear h hfre
  have HP : Hid (∀ W : World, ∀ p ∈ ([⟨36, #[], pG⟩, ⟨35, #[], pE⟩] : List Prt), PartOk X W p.n p.cap p.f 1) := by
    intro W p hp
    simp at hp
    rcases hp with rfl | rfl
    · exact okG (by decide)
    · exact okE (by decide)
  go_enter Tryz.func81, Tryz.ntmps81
  go_wp2_with fail
  have cI := is_gen (w.alloc (.cells #[.func (.func 36) #[] #[], .func (.func 35) #[] #[]] 55)) X σ (Hst.out.alloc _) 8 0 1 w.heap.size [⟨36, #[], pG⟩, ⟨35, #[], pE⟩] (by decide) (Hst.out.fresh) (MapKept.heap_alloc w (.cells #[.func (.func 36) #[] #[], .func (.func 35) #[] #[]] 55)).1 (HP.out _)
  refine cI.mono ?_; rintro e w2 ⟨rfl, hd⟩
  have hk := ((Kp.alloc X.own _ _)).trans hd.2
  have hs9 := hd.1
  clear hd
  go_wp2
  go_end0
  exact ⟨rfl, hs9, hk⟩
set_option maxHeartbeats 4000000 in
theorem r80_14 : RuleOk 89 (fun X σ => isM X 20 0 σ.v [] σ) := by
  intro w X σ h
  have f3 := h.f3
  have hF := h.ltF
  have hfre := h.fresh
  have Hst : Hid (St X w σ) := h
  have Hfre : Hid (¬ X.own w.heap.size) := hfre
  clear h hfre
  go_enter Tryz.func89, Tryz.ntmps89
  go_wp2_with fail
  refine (is_nil _ X σ Hst.out 20 0 σ.v).mono ?_; rintro e w2 ⟨rfl, hd⟩
  have hk := hd.2
  have hs9 := hd.1
  clear hd
  go_wp2
  go_end0
  exact ⟨rfl, hs9, hk⟩
set_option maxHeartbeats 4000000 in
theorem r80_18 : RuleOk 93 (fun X σ => isM X 18 0 1 [] σ) := by
  intro w X σ h
  have f3 := h.f3
  have hF := h.ltF
  have hfre := h.fresh
  have Hst : Hid (St X w σ) := h
  have Hfre : Hid (¬ X.own w.heap.size) := hfre
  clear h hfre
  go_enter Tryz.func93, Tryz.ntmps93
  go_wp2_with fail
  refine (is_nil _ X σ Hst.out 18 0 1).mono ?_; rintro e w2 ⟨rfl, hd⟩
  have hk := hd.2
  have hs9 := hd.1
  clear hd
  go_wp2
  go_end0
  exact ⟨rfl, hs9, hk⟩
set_option maxHeartbeats 4000000 in
theorem rA0_2 : RuleOk 98 (fun X σ => isM X 8 0 σ.v [pA, pO] σ) := by
  intro w X σ h
  have f3 := h.f3
  have hF := h.ltF
  have hfre := h.fresh
  have Hst : Hid (St X w σ) := h
  have Hfre : Hid (¬ X.own w.heap.size) := hfre
  clear h hfre
  have HP : Hid (∀ W : World, ∀ p ∈ ([⟨41, #[], pA⟩, ⟨97, #[], pO⟩] : List Prt), PartOk X W p.n p.cap p.f σ.v) := by
    intro W p hp
    simp at hp
    rcases hp with rfl | rfl
    · exact okA Hst.out.vs
    · exact okO Hst.out.vs
  go_enter Tryz.func98, Tryz.ntmps98
  go_wp2_with fail
  have cI := is_gen (w.alloc (.cells #[.func (.func 41) #[] #[], .func (.func 97) #[] #[]] 55)) X σ (Hst.out.alloc _) 8 0 σ.v w.heap.size [⟨41, #[], pA⟩, ⟨97, #[], pO⟩] (by decide) (Hst.out.fresh) (MapKept.heap_alloc w (.cells #[.func (.func 41) #[] #[], .func (.func 97) #[] #[]] 55)).1 (HP.out _)
  refine cI.mono ?_; rintro e w2 ⟨rfl, hd⟩
  have hk := ((Kp.alloc X.own _ _)).trans hd.2
  have hs9 := hd.1
  clear hd
  go_wp2
  go_end0
  exact ⟨rfl, hs9, hk⟩
theorem rA0_6 : RuleOk 103 (fun X σ => isStr X 0 σ.v σ) := by
  intro w X σ h
  have f3 := h.f3
  have c := isString_ok w X σ h 0 σ.v (h.vs)
  clear h
  go_enter Tryz.func103, Tryz.ntmps103
  go_wp2_with fail
  refine c.mono ?_; rintro e w1 ⟨rfl, hd⟩
  go_wp2
  go_end0
  exact ⟨rfl, hd⟩
set_option maxHeartbeats 4000000 in
theorem rA0_10 : RuleOk 107 (fun X σ => isM X 1 8 σ.v [pA, pI] σ) := by
  intro w X σ h
  have f3 := h.f3
  have hF := h.ltF
  have hfre := h.fresh
  have Hst : Hid (St X w σ) := h
  have Hfre : Hid (¬ X.own w.heap.size) := hfre
  clear h hfre
  have HP : Hid (∀ W : World, ∀ p ∈ ([⟨41, #[], pA⟩, ⟨42, #[], pI⟩] : List Prt), PartOk X W p.n p.cap p.f σ.v) := by
    intro W p hp
    simp at hp
    rcases hp with rfl | rfl
    · exact okA Hst.out.vs
    · exact okI Hst.out.vs
  go_enter Tryz.func107, Tryz.ntmps107
  go_wp2_with fail
  have cI := is_gen (w.alloc (.cells #[.func (.func 41) #[] #[], .func (.func 42) #[] #[]] 55)) X σ (Hst.out.alloc _) 1 8 σ.v w.heap.size [⟨41, #[], pA⟩, ⟨42, #[], pI⟩] (by decide) (Hst.out.fresh) (MapKept.heap_alloc w (.cells #[.func (.func 41) #[] #[], .func (.func 42) #[] #[]] 55)).1 (HP.out _)
  refine cI.mono ?_; rintro e w2 ⟨rfl, hd⟩
  have hk := ((Kp.alloc X.own _ _)).trans hd.2
  have hs9 := hd.1
  clear hd
  go_wp2
  go_end0
  exact ⟨rfl, hs9, hk⟩
theorem rA0_14 : RuleOk 111 (fun X σ => isStr X 3 σ.v σ) := by
  intro w X σ h
  have f3 := h.f3
  have c := isString_ok w X σ h 3 σ.v (h.vs)
  clear h
  go_enter Tryz.func111, Tryz.ntmps111
  go_wp2_with fail
  refine c.mono ?_; rintro e w1 ⟨rfl, hd⟩
  go_wp2
  go_end0
  exact ⟨rfl, hd⟩
set_option maxHeartbeats 4000000 in
theorem rA0_18 : RuleOk 115 (fun X σ => isM X 8 0 σ.v [pR, pI] σ) := by
  intro w X σ h
  have f3 := h.f3
  have hF := h.ltF
  have hfre := h.fresh
  have Hst : Hid (St X w σ) := h
  have Hfre : Hid (¬ X.own w.heap.size) := hfre
  clear h hfre
  have HP : Hid (∀ W : World, ∀ p ∈ ([⟨57, #[], pR⟩, ⟨42, #[], pI⟩] : List Prt), PartOk X W p.n p.cap p.f σ.v) := by
    intro W p hp
    simp at hp
    rcases hp with rfl | rfl
    · exact okR Hst.out.vs
    · exact okI Hst.out.vs
  go_enter Tryz.func115, Tryz.ntmps115
  go_wp2_with fail
  have cI := is_gen (w.alloc (.cells #[.func (.func 57) #[] #[], .func (.func 42) #[] #[]] 55)) X σ (Hst.out.alloc _) 8 0 σ.v w.heap.size [⟨57, #[], pR⟩, ⟨42, #[], pI⟩] (by decide) (Hst.out.fresh) (MapKept.heap_alloc w (.cells #[.func (.func 57) #[] #[], .func (.func 42) #[] #[]] 55)).1 (HP.out _)
  refine cI.mono ?_; rintro e w2 ⟨rfl, hd⟩
  have hk := ((Kp.alloc X.own _ _)).trans hd.2
  have hs9 := hd.1
  clear hd
  go_wp2
  go_end0
  exact ⟨rfl, hs9, hk⟩
set_option maxHeartbeats 4000000 in
theorem rC0_4 : RuleOk 121 (fun X σ => isM X 30 0 σ.v [pNum 0] σ) := by
  intro w X σ h
  have f3 := h.f3
  have hF := h.ltF
  have hfre := h.fresh
  have Hst : Hid (St X w σ) := h
  have Hfre : Hid (¬ X.own w.heap.size) := hfre
  clear h hfre
  have HP : Hid (∀ (W : World) (q : Nat), ¬ X.own q → W.cell? ⟨q, 0, none⟩ = some (.int .u32 0) → ∀ p ∈ ([⟨227, #[.pointer (some ⟨q, 0, none⟩)], pNum 0⟩] : List Prt), PartOk X W p.n p.cap p.f σ.v) := by
    intro W q hq hc p hp
    simp at hp
    subst hp
    exact num_ok hq hc
  go_enter Tryz.func121, Tryz.ntmps121
  have Hd0 : Hid (St X w.drew σ) := Hst.out.drewN 1
  have Kd0 : Hid (Kp X.own w w.drew) := (Kp.refl _ _).drewN 1
  have Hd2 : Hid (St X ((w.alloc (.cells #[.int .u32 0] 24)).alloc (.cells #[.func (.func 227) #[] #[.pointer (some ⟨w.heap.size, 0, none⟩)]] 55)).drew σ) := ((Hst.out.alloc _).alloc _).drewN 1
  have Kd2 : Hid (Kp X.own w ((w.alloc (.cells #[.int .u32 0] 24)).alloc (.cells #[.func (.func 227) #[] #[.pointer (some ⟨w.heap.size, 0, none⟩)]] 55)).drew) := ((Kp.alloc X.own w _).trans (Kp.alloc X.own _ _)).drewN 1
  have Hh2 : Hid (((w.alloc (.cells #[.int .u32 0] 24)).alloc (.cells #[.func (.func 227) #[] #[.pointer (some ⟨w.heap.size, 0, none⟩)]] 55)).drew.heap[w.heap.size + 1]? = some (.cells #[.func (.func 227) #[] #[.pointer (some ⟨w.heap.size, 0, none⟩)]] 55)) := heap2 w _ _
  have Hc2 : Hid (((w.alloc (.cells #[.int .u32 0] 24)).alloc (.cells #[.func (.func 227) #[] #[.pointer (some ⟨w.heap.size, 0, none⟩)]] 55)).drew.cell? ⟨w.heap.size, 0, none⟩ = some (.int .u32 0)) := cell_kept (cell_new w (.int .u32 0) 24) ((Kp.alloc X.own _ _).drewN 1) Hfre.out
  have Hf2 : Hid (¬ X.own (w.heap.size + 1)) := Hst.out.fresh1
  go_region_with (first
    | (go_at_call 122; refine (constant_ok _ _).mono ?_; rintro e w3 ⟨rfl, hw⟩; subst hw)
    | (go_at_call 33; have cI := is_gen ((w.alloc (.cells #[.int .u32 0] 24)).alloc (.cells #[.func (.func 227) #[] #[.pointer (some ⟨w.heap.size, 0, none⟩)]] 55)).drew X σ Hd2.out 30 0 σ.v (w.heap.size + 1) [⟨227, #[.pointer (some ⟨w.heap.size, 0, none⟩)], pNum 0⟩] (by simp) Hf2.out Hh2.out (HP.out _ _ Hfre.out Hc2.out); refine cI.mono ?_; rintro e w2 ⟨rfl, hd⟩; have hk := Kd2.out.trans hd.2))
  all_goals
    have hs9 := hd.1
    clear hd
    go_wp2
    go_end0
    exact ⟨rfl, hs9, hk⟩
set_option maxHeartbeats 4000000 in
theorem rC0_8 : RuleOk 126 (fun X σ => isM X 32 1 4 [pNum 3] σ) := by
  intro w X σ h
  have f3 := h.f3
  have hF := h.ltF
  have hfre := h.fresh
  have Hst : Hid (St X w σ) := h
  have Hfre : Hid (¬ X.own w.heap.size) := hfre
  clear h hfre
  have HP : Hid (∀ (W : World) (q : Nat), ¬ X.own q → W.cell? ⟨q, 0, none⟩ = some (.int .u32 3) → ∀ p ∈ ([⟨227, #[.pointer (some ⟨q, 0, none⟩)], pNum 3⟩] : List Prt), PartOk X W p.n p.cap p.f 4) := by
    intro W q hq hc p hp
    simp at hp
    subst hp
    exact num_ok hq hc
  go_enter Tryz.func126, Tryz.ntmps126
  go_wp2_with fail
  refine (constant_ok _ _).mono ?_; rintro e w3 ⟨rfl, hw⟩; subst hw
  have hcap : w.alloc (.cells #[.int .u32 3] 24) = w.alloc (.cells #[.int .u32 3] 24) := rfl
  have g1 : St X (w.alloc (.cells #[.int .u32 3] 24)) σ := Hst.out.alloc _
  have gc := cell_new w (.int .u32 3) 24
  go_wp2_with fail
  have cI := is_gen ((w.alloc (.cells #[.int .u32 3] 24)).alloc (.cells #[.func (.func 227) #[] #[.pointer (some ⟨w.heap.size, 0, none⟩)]] 55)) X σ (g1.alloc _) 32 1 4 (w.heap.size + 1) [⟨227, #[.pointer (some ⟨w.heap.size, 0, none⟩)], pNum 3⟩] (by simp) Hst.out.fresh1 (heap2 w (.cells #[.int .u32 3] 24) (.cells #[.func (.func 227) #[] #[.pointer (some ⟨w.heap.size, 0, none⟩)]] 55)) (HP.out _ _ (Hst.out.fresh) (cell_kept gc (Kp.alloc X.own _ _) (Hst.out.fresh)))
  refine cI.mono ?_; rintro e w2 ⟨rfl, hd⟩
  have hk := (((Kp.alloc X.own _ _)).trans (Kp.alloc X.own _ _)).trans hd.2
  have hs9 := hd.1
  clear hd
  go_wp2
  go_end0
  exact ⟨rfl, hs9, hk⟩
set_option maxHeartbeats 4000000 in
theorem rC0_12 : RuleOk 130 (fun X σ => isM X 2 (modrm X σ).1.2.1 1 [pE, pNum 1] (modrm X σ).2) := by
  intro w X σ h
  have f3 := h.f3
  have hF := h.ltF
  have hfre := h.fresh
  have cM := fun W (hW : St X W σ) => modrm_ok W X σ hW
  have hv1 := modrm_v X σ
  have hbd := modrm_bd h
  obtain ⟨⟨m, n, r⟩, hm⟩ : ∃ x, x = (modrm X σ).1 := ⟨_, rfl⟩
  obtain ⟨σ1, hσ1⟩ : ∃ σ1, σ1 = (modrm X σ).2 := ⟨_, rfl⟩
  obtain ⟨V, hV⟩ : ∃ V, V = isM X 2 n 1 [pE, pNum 1] σ1 := ⟨_, rfl⟩
  show Calls _ _ _ _ fun e w' => _ ∧ Done X w (isM X 2 (modrm X σ).1.2.1 1 [pE, pNum 1] (modrm X σ).2) w'
  rw [show isM X 2 (modrm X σ).1.2.1 1 [pE, pNum 1] (modrm X σ).2 = V by rw [hV, hσ1, ← hm]]
  simp only [← hm, ← hσ1, mrV] at cM hv1 hbd
  obtain ⟨_, ⟨n0, n1⟩, _⟩ := hbd
  have fl1 := fld1
  have HV : Hid (V = isM X 2 n 1 [pE, pNum 1] σ1) := hV
  have Hv1 : Hid (σ1.v = σ.v) := hv1
  have HM : Hid _ := cM
  clear hm hσ1 hV hv1 cM
  have Hst : Hid (St X w σ) := h
  have Hfre : Hid (¬ X.own w.heap.size) := hfre
  clear h hfre
  have HP : Hid (∀ (W : World) (q : Nat), ¬ X.own q → W.cell? ⟨q, 0, none⟩ = some (.int .u32 1) → ∀ p ∈ ([⟨35, #[], pE⟩, ⟨227, #[.pointer (some ⟨q, 0, none⟩)], pNum 1⟩] : List Prt), PartOk X W p.n p.cap p.f 1) := by
    intro W q hq hc p hp
    simp at hp
    rcases hp with rfl | rfl
    · exact okE (by decide)
    · exact num_ok hq hc
  go_enter Tryz.func130, Tryz.ntmps130
  go_wp2_with fail
  refine (HM.out _ Hst.out).mono ?_; rintro e w1 ⟨rfl, h1, k1⟩
  go_wp2_with fail
  refine (constant_ok _ _).mono ?_; rintro e w3 ⟨rfl, hw⟩; subst hw
  have hcap : w1.alloc (.cells #[.int .u32 1] 24) = w1.alloc (.cells #[.int .u32 1] 24) := rfl
  have g1 : St X (w1.alloc (.cells #[.int .u32 1] 24)) σ1 := h1.alloc _
  have gc := cell_new w1 (.int .u32 1) 24
  go_wp2_with fail
  have cI := is_gen ((w1.alloc (.cells #[.int .u32 1] 24)).alloc (.cells #[.func (.func 35) #[] #[], .func (.func 227) #[] #[.pointer (some ⟨w1.heap.size, 0, none⟩)]] 55)) X σ1 (g1.alloc _) 2 n 1 (w1.heap.size + 1) [⟨35, #[], pE⟩, ⟨227, #[.pointer (some ⟨w1.heap.size, 0, none⟩)], pNum 1⟩] (by simp) h1.fresh1 (heap2 w1 (.cells #[.int .u32 1] 24) (.cells #[.func (.func 35) #[] #[], .func (.func 227) #[] #[.pointer (some ⟨w1.heap.size, 0, none⟩)]] 55)) (HP.out _ _ (h1.fresh) (cell_kept gc (Kp.alloc X.own _ _) (h1.fresh)))
  refine cI.mono ?_; rintro e w2 ⟨rfl, hd⟩
  have hk := (((k1).trans (Kp.alloc X.own _ _)).trans (Kp.alloc X.own _ _)).trans hd.2
  have hs9 := hd.1
  clear hd
  go_wp2
  go_end0
  rw [HV.out]
  exact ⟨rfl, hs9, hk⟩
set_option maxHeartbeats 4000000 in
theorem rC0_16 : RuleOk 135 (fun X σ => isM X 7 4 1 [pI] σ) := by
  intro w X σ h
  have f3 := h.f3
  have hF := h.ltF
  have hfre := h.fresh
  have Hst : Hid (St X w σ) := h
  have Hfre : Hid (¬ X.own w.heap.size) := hfre
  clear h hfre
  have HP : Hid (∀ W : World, ∀ p ∈ ([⟨42, #[], pI⟩] : List Prt), PartOk X W p.n p.cap p.f 1) := by
    intro W p hp
    simp at hp
    subst hp
    exact okI (by decide)
  go_enter Tryz.func135, Tryz.ntmps135
  go_wp2_with fail
  have cI := is_gen (w.alloc (.cells #[.func (.func 42) #[] #[]] 55)) X σ (Hst.out.alloc _) 7 4 1 w.heap.size [⟨42, #[], pI⟩] (by decide) (Hst.out.fresh) (MapKept.heap_alloc w (.cells #[.func (.func 42) #[] #[]] 55)).1 (HP.out _)
  refine cI.mono ?_; rintro e w2 ⟨rfl, hd⟩
  have hk := ((Kp.alloc X.own _ _)).trans hd.2
  have hs9 := hd.1
  clear hd
  go_wp2
  go_end0
  exact ⟨rfl, hs9, hk⟩
set_option maxHeartbeats 4000000 in
theorem rE0_3 : RuleOk 139 (fun X σ => isM X 31 2 σ.v [pJb] σ) := by
  intro w X σ h
  have f3 := h.f3
  have hF := h.ltF
  have hfre := h.fresh
  have Hst : Hid (St X w σ) := h
  have Hfre : Hid (¬ X.own w.heap.size) := hfre
  clear h hfre
  have HP : Hid (∀ W : World, ∀ p ∈ ([⟨70, #[], pJb⟩] : List Prt), PartOk X W p.n p.cap p.f σ.v) := by
    intro W p hp
    simp at hp
    subst hp
    exact okJb Hst.out.vs
  go_enter Tryz.func139, Tryz.ntmps139
  go_wp2_with fail
  have cI := is_gen (w.alloc (.cells #[.func (.func 70) #[] #[]] 55)) X σ (Hst.out.alloc _) 31 2 σ.v w.heap.size [⟨70, #[], pJb⟩] (by decide) (Hst.out.fresh) (MapKept.heap_alloc w (.cells #[.func (.func 70) #[] #[]] 55)).1 (HP.out _)
  refine cI.mono ?_; rintro e w2 ⟨rfl, hd⟩
  have hk := ((Kp.alloc X.own _ _)).trans hd.2
  have hs9 := hd.1
  clear hd
  go_wp2
  go_end0
  exact ⟨rfl, hs9, hk⟩
set_option maxHeartbeats 4000000 in
theorem rE0_7 : RuleOk 143 (fun X σ => isM X 38 0 1 [pIb, pA] σ) := by
  intro w X σ h
  have f3 := h.f3
  have hF := h.ltF
  have hfre := h.fresh
  have Hst : Hid (St X w σ) := h
  have Hfre : Hid (¬ X.own w.heap.size) := hfre
  clear h hfre
  have HP : Hid (∀ W : World, ∀ p ∈ ([⟨117, #[], pIb⟩, ⟨41, #[], pA⟩] : List Prt), PartOk X W p.n p.cap p.f 1) := by
    intro W p hp
    simp at hp
    rcases hp with rfl | rfl
    · exact okIb (by decide)
    · exact okA (by decide)
  go_enter Tryz.func143, Tryz.ntmps143
  go_wp2_with fail
  have cI := is_gen (w.alloc (.cells #[.func (.func 117) #[] #[], .func (.func 41) #[] #[]] 55)) X σ (Hst.out.alloc _) 38 0 1 w.heap.size [⟨117, #[], pIb⟩, ⟨41, #[], pA⟩] (by decide) (Hst.out.fresh) (MapKept.heap_alloc w (.cells #[.func (.func 117) #[] #[], .func (.func 41) #[] #[]] 55)).1 (HP.out _)
  refine cI.mono ?_; rintro e w2 ⟨rfl, hd⟩
  have hk := ((Kp.alloc X.own _ _)).trans hd.2
  have hs9 := hd.1
  clear hd
  go_wp2
  go_end0
  exact ⟨rfl, hs9, hk⟩
set_option maxHeartbeats 4000000 in
theorem rE0_11 : RuleOk 148 (fun X σ => isM X 34 0 σ.v [pFar] σ) := by
  intro w X σ h
  have f3 := h.f3
  have hF := h.ltF
  have hfre := h.fresh
  have Hst : Hid (St X w σ) := h
  have Hfre : Hid (¬ X.own w.heap.size) := hfre
  clear h hfre
  have HP : Hid (∀ W : World, ∀ p ∈ ([⟨149, #[], pFar⟩] : List Prt), PartOk X W p.n p.cap p.f σ.v) := by
    intro W p hp
    simp at hp
    subst hp
    exact okFar Hst.out.vs
  go_enter Tryz.func148, Tryz.ntmps148
  go_wp2_with fail
  have cI := is_gen (w.alloc (.cells #[.func (.func 149) #[] #[]] 55)) X σ (Hst.out.alloc _) 34 0 σ.v w.heap.size [⟨149, #[], pFar⟩] (by decide) (Hst.out.fresh) (MapKept.heap_alloc w (.cells #[.func (.func 149) #[] #[]] 55)).1 (HP.out _)
  refine cI.mono ?_; rintro e w2 ⟨rfl, hd⟩
  have hk := ((Kp.alloc X.own _ _)).trans hd.2
  have hs9 := hd.1
  clear hd
  go_wp2
  go_end0
  exact ⟨rfl, hs9, hk⟩
set_option maxHeartbeats 4000000 in
theorem rE0_15 : RuleOk 154 (fun X σ => isM X 38 0 1 [pDX, pA] σ) := by
  intro w X σ h
  have f3 := h.f3
  have hF := h.ltF
  have hfre := h.fresh
  have Hst : Hid (St X w σ) := h
  have Hfre : Hid (¬ X.own w.heap.size) := hfre
  clear h hfre
  have HP : Hid (∀ W : World, ∀ p ∈ ([⟨152, #[], pDX⟩, ⟨41, #[], pA⟩] : List Prt), PartOk X W p.n p.cap p.f 1) := by
    intro W p hp
    simp at hp
    rcases hp with rfl | rfl
    · exact okDX (by decide)
    · exact okA (by decide)
  go_enter Tryz.func154, Tryz.ntmps154
  go_wp2_with fail
  have cI := is_gen (w.alloc (.cells #[.func (.func 152) #[] #[], .func (.func 41) #[] #[]] 55)) X σ (Hst.out.alloc _) 38 0 1 w.heap.size [⟨152, #[], pDX⟩, ⟨41, #[], pA⟩] (by decide) (Hst.out.fresh) (MapKept.heap_alloc w (.cells #[.func (.func 152) #[] #[], .func (.func 41) #[] #[]] 55)).1 (HP.out _)
  refine cI.mono ?_; rintro e w2 ⟨rfl, hd⟩
  have hk := ((Kp.alloc X.own _ _)).trans hd.2
  have hs9 := hd.1
  clear hd
  go_wp2
  go_end0
  exact ⟨rfl, hs9, hk⟩
set_option maxHeartbeats 4000000 in
theorem rE0_21 : RuleOk 161 (fun X σ => isM X 39 0 4 [] σ) := by
  intro w X σ h
  have f3 := h.f3
  have hF := h.ltF
  have hfre := h.fresh
  have Hst : Hid (St X w σ) := h
  have Hfre : Hid (¬ X.own w.heap.size) := hfre
  clear h hfre
  go_enter Tryz.func161, Tryz.ntmps161
  go_wp2_with fail
  refine (is_nil _ X σ Hst.out 39 0 4).mono ?_; rintro e w2 ⟨rfl, hd⟩
  have hk := hd.2
  have hs9 := hd.1
  clear hd
  go_wp2
  go_end0
  exact ⟨rfl, hs9, hk⟩
set_option maxHeartbeats 4000000 in
theorem rE0_25 : RuleOk 165 (fun X σ => isM X 39 3 4 [] σ) := by
  intro w X σ h
  have f3 := h.f3
  have hF := h.ltF
  have hfre := h.fresh
  have Hst : Hid (St X w σ) := h
  have Hfre : Hid (¬ X.own w.heap.size) := hfre
  clear h hfre
  go_enter Tryz.func165, Tryz.ntmps165
  go_wp2_with fail
  refine (is_nil _ X σ Hst.out 39 3 4).mono ?_; rintro e w2 ⟨rfl, hd⟩
  have hk := hd.2
  have hs9 := hd.1
  clear hd
  go_wp2
  go_end0
  exact ⟨rfl, hs9, hk⟩
set_option maxHeartbeats 4000000 in
theorem r0F_2 : RuleOk 171 (fun X σ => isM X 47 0 4 [] σ) := by
  intro w X σ h
  have f3 := h.f3
  have hF := h.ltF
  have hfre := h.fresh
  have Hst : Hid (St X w σ) := h
  have Hfre : Hid (¬ X.own w.heap.size) := hfre
  clear h hfre
  go_enter Tryz.func171, Tryz.ntmps171
  go_wp2_with fail
  refine (is_nil _ X σ Hst.out 47 0 4).mono ?_; rintro e w2 ⟨rfl, hd⟩
  have hk := hd.2
  have hs9 := hd.1
  clear hd
  go_wp2
  go_end0
  exact ⟨rfl, hs9, hk⟩
set_option maxHeartbeats 4000000 in
theorem r0F_6 : RuleOk 177 (fun X σ => isM X 28 (σ.op % 16) σ.v [pJ] σ) := by
  intro w X σ h
  have f3 := h.f3
  have hF := h.ltF
  have hfre := h.fresh
  have Hst : Hid (St X w σ) := h
  have Hfre : Hid (¬ X.own w.heap.size) := hfre
  clear h hfre
  have HP : Hid (∀ W : World, ∀ p ∈ ([⟨146, #[], pJ⟩] : List Prt), PartOk X W p.n p.cap p.f σ.v) := by
    intro W p hp
    simp at hp
    subst hp
    exact okJ Hst.out.vs
  go_enter Tryz.func177, Tryz.ntmps177
  have Hd0 : Hid (St X w.drew σ) := Hst.out.drewN 1
  have Kd0 : Hid (Kp X.own w w.drew) := (Kp.refl _ _).drewN 1
  have Hd1 : Hid (St X (w.alloc (.cells #[.func (.func 146) #[] #[]] 55)).drew σ) := (Hst.out.alloc _).drewN 1
  have Kd1 : Hid (Kp X.own w (w.alloc (.cells #[.func (.func 146) #[] #[]] 55)).drew) := (Kp.alloc _ _ _).drewN 1
  have Hh1 : Hid ((w.alloc (.cells #[.func (.func 146) #[] #[]] 55)).drew.heap[w.heap.size]? = some (.cells #[.func (.func 146) #[] #[]] 55)) := (MapKept.heap_alloc w _).1
  go_region_with (first
    | (go_at_call 69; refine Calls.mono (c_ok _ X σ ?_) ?_; (first | exact Hd0.out | exact Hd1.out); rintro e w0 ⟨rfl, hw⟩; subst hw)
    | (go_at_call 33; have cI := is_gen (w.alloc (.cells #[.func (.func 146) #[] #[]] 55)).drew X σ Hd1.out 28 (σ.op % 16) σ.v w.heap.size [⟨146, #[], pJ⟩] (by decide) Hfre.out Hh1.out (HP.out _); refine cI.mono ?_; rintro e w2 ⟨rfl, hd⟩; have hk := Kd1.out.trans hd.2))
  all_goals
    have hs9 := hd.1
    clear hd
    go_wp2
    go_end0
    exact ⟨rfl, hs9, hk⟩
set_option maxHeartbeats 4000000 in
theorem r0F_10 : RuleOk 181 (fun X σ => isM X 23 0 σ.v [pE, pG] σ) := by
  intro w X σ h
  have f3 := h.f3
  have hF := h.ltF
  have hfre := h.fresh
  have Hst : Hid (St X w σ) := h
  have Hfre : Hid (¬ X.own w.heap.size) := hfre
  clear h hfre
  have HP : Hid (∀ W : World, ∀ p ∈ ([⟨35, #[], pE⟩, ⟨36, #[], pG⟩] : List Prt), PartOk X W p.n p.cap p.f σ.v) := by
    intro W p hp
    simp at hp
    rcases hp with rfl | rfl
    · exact okE Hst.out.vs
    · exact okG Hst.out.vs
  go_enter Tryz.func181, Tryz.ntmps181
  go_wp2_with fail
  have cI := is_gen (w.alloc (.cells #[.func (.func 35) #[] #[], .func (.func 36) #[] #[]] 55)) X σ (Hst.out.alloc _) 23 0 σ.v w.heap.size [⟨35, #[], pE⟩, ⟨36, #[], pG⟩] (by decide) (Hst.out.fresh) (MapKept.heap_alloc w (.cells #[.func (.func 35) #[] #[], .func (.func 36) #[] #[]] 55)).1 (HP.out _)
  refine cI.mono ?_; rintro e w2 ⟨rfl, hd⟩
  have hk := ((Kp.alloc X.own _ _)).trans hd.2
  have hs9 := hd.1
  clear hd
  go_wp2
  go_end0
  exact ⟨rfl, hs9, hk⟩
set_option maxHeartbeats 4000000 in
theorem r0F_14 : RuleOk 185 (fun X σ => isM X 13 0 σ.v [pSeg 5] σ) := by
  intro w X σ h
  have f3 := h.f3
  have hF := h.ltF
  have hfre := h.fresh
  have Hst : Hid (St X w σ) := h
  have Hfre : Hid (¬ X.own w.heap.size) := hfre
  clear h hfre
  have HP : Hid (∀ (W : World) (q : Nat), ¬ X.own q → W.cell? ⟨q, 0, none⟩ = some (.int .i64 5) → ∀ p ∈ ([⟨221, #[.pointer (some ⟨q, 0, none⟩)], pSeg 5⟩] : List Prt), PartOk X W p.n p.cap p.f σ.v) := by
    intro W q hq hc p hp
    simp at hp
    subst hp
    exact seg_ok hq hc
  go_enter Tryz.func185, Tryz.ntmps185
  have Hd0 : Hid (St X w.drew σ) := Hst.out.drewN 1
  have Kd0 : Hid (Kp X.own w w.drew) := (Kp.refl _ _).drewN 1
  have Hd2 : Hid (St X ((w.alloc (.cells #[.int .i64 5] 3)).alloc (.cells #[.func (.func 221) #[] #[.pointer (some ⟨w.heap.size, 0, none⟩)]] 55)).drew σ) := ((Hst.out.alloc _).alloc _).drewN 1
  have Kd2 : Hid (Kp X.own w ((w.alloc (.cells #[.int .i64 5] 3)).alloc (.cells #[.func (.func 221) #[] #[.pointer (some ⟨w.heap.size, 0, none⟩)]] 55)).drew) := ((Kp.alloc X.own w _).trans (Kp.alloc X.own _ _)).drewN 1
  have Hh2 : Hid (((w.alloc (.cells #[.int .i64 5] 3)).alloc (.cells #[.func (.func 221) #[] #[.pointer (some ⟨w.heap.size, 0, none⟩)]] 55)).drew.heap[w.heap.size + 1]? = some (.cells #[.func (.func 221) #[] #[.pointer (some ⟨w.heap.size, 0, none⟩)]] 55)) := heap2 w _ _
  have Hc2 : Hid (((w.alloc (.cells #[.int .i64 5] 3)).alloc (.cells #[.func (.func 221) #[] #[.pointer (some ⟨w.heap.size, 0, none⟩)]] 55)).drew.cell? ⟨w.heap.size, 0, none⟩ = some (.int .i64 5)) := cell_kept (cell_new w (.int .i64 5) 3) ((Kp.alloc X.own _ _).drewN 1) Hfre.out
  have Hf2 : Hid (¬ X.own (w.heap.size + 1)) := Hst.out.fresh1
  go_region_with (first
    | (go_at_call 45; refine (segment_ok _ _).mono ?_; rintro e w3 ⟨rfl, hw⟩; subst hw)
    | (go_at_call 33; have cI := is_gen ((w.alloc (.cells #[.int .i64 5] 3)).alloc (.cells #[.func (.func 221) #[] #[.pointer (some ⟨w.heap.size, 0, none⟩)]] 55)).drew X σ Hd2.out 13 0 σ.v (w.heap.size + 1) [⟨221, #[.pointer (some ⟨w.heap.size, 0, none⟩)], pSeg 5⟩] (by simp) Hf2.out Hh2.out (HP.out _ _ Hfre.out Hc2.out); refine cI.mono ?_; rintro e w2 ⟨rfl, hd⟩; have hk := Kd2.out.trans hd.2))
  all_goals
    have hs9 := hd.1
    clear hd
    go_wp2
    go_end0
    exact ⟨rfl, hs9, hk⟩
set_option maxHeartbeats 4000000 in
theorem r0F_18 : RuleOk 189 (fun X σ => isM X 5 0 σ.v [pG, pE] σ) := by
  intro w X σ h
  have f3 := h.f3
  have hF := h.ltF
  have hfre := h.fresh
  have Hst : Hid (St X w σ) := h
  have Hfre : Hid (¬ X.own w.heap.size) := hfre
  clear h hfre
  have HP : Hid (∀ W : World, ∀ p ∈ ([⟨36, #[], pG⟩, ⟨35, #[], pE⟩] : List Prt), PartOk X W p.n p.cap p.f σ.v) := by
    intro W p hp
    simp at hp
    rcases hp with rfl | rfl
    · exact okG Hst.out.vs
    · exact okE Hst.out.vs
  go_enter Tryz.func189, Tryz.ntmps189
  go_wp2_with fail
  have cI := is_gen (w.alloc (.cells #[.func (.func 36) #[] #[], .func (.func 35) #[] #[]] 55)) X σ (Hst.out.alloc _) 5 0 σ.v w.heap.size [⟨36, #[], pG⟩, ⟨35, #[], pE⟩] (by decide) (Hst.out.fresh) (MapKept.heap_alloc w (.cells #[.func (.func 36) #[] #[], .func (.func 35) #[] #[]] 55)).1 (HP.out _)
  refine cI.mono ?_; rintro e w2 ⟨rfl, hd⟩
  have hk := ((Kp.alloc X.own _ _)).trans hd.2
  have hs9 := hd.1
  clear hd
  go_wp2
  go_end0
  exact ⟨rfl, hs9, hk⟩
set_option maxHeartbeats 4000000 in
theorem r0F_23 : RuleOk 196 (fun X σ => isM X 23 3 σ.v [pE, pG] σ) := by
  intro w X σ h
  have f3 := h.f3
  have hF := h.ltF
  have hfre := h.fresh
  have Hst : Hid (St X w σ) := h
  have Hfre : Hid (¬ X.own w.heap.size) := hfre
  clear h hfre
  have HP : Hid (∀ W : World, ∀ p ∈ ([⟨35, #[], pE⟩, ⟨36, #[], pG⟩] : List Prt), PartOk X W p.n p.cap p.f σ.v) := by
    intro W p hp
    simp at hp
    rcases hp with rfl | rfl
    · exact okE Hst.out.vs
    · exact okG Hst.out.vs
  go_enter Tryz.func196, Tryz.ntmps196
  go_wp2_with fail
  have cI := is_gen (w.alloc (.cells #[.func (.func 35) #[] #[], .func (.func 36) #[] #[]] 55)) X σ (Hst.out.alloc _) 23 3 σ.v w.heap.size [⟨35, #[], pE⟩, ⟨36, #[], pG⟩] (by decide) (Hst.out.fresh) (MapKept.heap_alloc w (.cells #[.func (.func 35) #[] #[], .func (.func 36) #[] #[]] 55)).1 (HP.out _)
  refine cI.mono ?_; rintro e w2 ⟨rfl, hd⟩
  have hk := ((Kp.alloc X.own _ _)).trans hd.2
  have hs9 := hd.1
  clear hd
  go_wp2
  go_end0
  exact ⟨rfl, hs9, hk⟩
set_option maxHeartbeats 4000000 in
theorem r0F_27 : RuleOk 200 (fun X σ => isM X 9 1 σ.v [pG, pEw] σ) := by
  intro w X σ h
  have f3 := h.f3
  have hF := h.ltF
  have hfre := h.fresh
  have Hst : Hid (St X w σ) := h
  have Hfre : Hid (¬ X.own w.heap.size) := hfre
  clear h hfre
  have HP : Hid (∀ W : World, ∀ p ∈ ([⟨36, #[], pG⟩, ⟨194, #[], pEw⟩] : List Prt), PartOk X W p.n p.cap p.f σ.v) := by
    intro W p hp
    simp at hp
    rcases hp with rfl | rfl
    · exact okG Hst.out.vs
    · exact okEw Hst.out.vs
  go_enter Tryz.func200, Tryz.ntmps200
  go_wp2_with fail
  have cI := is_gen (w.alloc (.cells #[.func (.func 36) #[] #[], .func (.func 194) #[] #[]] 55)) X σ (Hst.out.alloc _) 9 1 σ.v w.heap.size [⟨36, #[], pG⟩, ⟨194, #[], pEw⟩] (by decide) (Hst.out.fresh) (MapKept.heap_alloc w (.cells #[.func (.func 36) #[] #[], .func (.func 194) #[] #[]] 55)).1 (HP.out _)
  refine cI.mono ?_; rintro e w2 ⟨rfl, hd⟩
  have hk := ((Kp.alloc X.own _ _)).trans hd.2
  have hs9 := hd.1
  clear hd
  go_wp2
  go_end0
  exact ⟨rfl, hs9, hk⟩
end Go.Proofs.YtbfccfhjgopnbaaGreat
