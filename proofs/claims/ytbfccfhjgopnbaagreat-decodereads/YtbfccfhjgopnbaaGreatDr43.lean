/- The document's reader, and the code's (DecR1). -/
import Derived.Test.YtbfccfhjgopnbaaGreatDr03
import Derived.Deep.RegionWith
set_option linter.unusedSimpArgs false
namespace Go.Proofs.YtbfccfhjgopnbaaGreat
open Go.ChangeShapes Go.WideShapes Go.ChangeAt Go.RowKit
set_option linter.unusedVariables false
set_option maxRecDepth 100000
set_option maxHeartbeats 4000000 in
theorem r00_1 : RuleOk 32 (fun X σ => isM X 1 (σ.op / 8 % 8) 1 [pE, pG] σ) := by
  intro w X σ h
  have f3 := h.f3
  have hF := h.ltF
  have hfre := h.fresh
  have Hst : Hid (St X w σ) := h
  have Hfre : Hid (¬ X.own w.heap.size) := hfre
  clear h hfre
  have HP : Hid (∀ W : World, ∀ p ∈ ([⟨35, #[], pE⟩, ⟨36, #[], pG⟩] : List Prt), PartOk X W p.n p.cap p.f 1) := by
    intro W p hp
    simp at hp
    rcases hp with rfl | rfl
    · exact okE (by decide)
    · exact okG (by decide)
  go_enter Tryz.func32, Tryz.ntmps32
  go_wp2_with fail
  refine (n_ok _ X σ Hst.out).mono ?_; rintro e w0 ⟨rfl, hw⟩; replace hw := hw.symm; subst hw
  go_wp2_with fail
  have cI := is_gen (w.alloc (.cells #[.func (.func 35) #[] #[], .func (.func 36) #[] #[]] 55)) X σ (Hst.out.alloc _) 1 (σ.op / 8 % 8) 1 w.heap.size [⟨35, #[], pE⟩, ⟨36, #[], pG⟩] (by decide) (Hst.out.fresh) (MapKept.heap_alloc w (.cells #[.func (.func 35) #[] #[], .func (.func 36) #[] #[]] 55)).1 (HP.out _)
  refine cI.mono ?_; rintro e w2 ⟨rfl, hd⟩
  have hk := ((Kp.alloc X.own _ _)).trans hd.2
  have hs9 := hd.1
  clear hd
  go_wp2
  go_end0
  exact ⟨rfl, hs9, hk⟩
set_option maxHeartbeats 4000000 in
theorem r00_5 : RuleOk 40 (fun X σ => isM X 1 (σ.op / 8 % 8) 1 [pA, pI] σ) := by
  intro w X σ h
  have f3 := h.f3
  have hF := h.ltF
  have hfre := h.fresh
  have Hst : Hid (St X w σ) := h
  have Hfre : Hid (¬ X.own w.heap.size) := hfre
  clear h hfre
  have HP : Hid (∀ W : World, ∀ p ∈ ([⟨41, #[], pA⟩, ⟨42, #[], pI⟩] : List Prt), PartOk X W p.n p.cap p.f 1) := by
    intro W p hp
    simp at hp
    rcases hp with rfl | rfl
    · exact okA (by decide)
    · exact okI (by decide)
  go_enter Tryz.func40, Tryz.ntmps40
  go_wp2_with fail
  refine (n_ok _ X σ Hst.out).mono ?_; rintro e w0 ⟨rfl, hw⟩; replace hw := hw.symm; subst hw
  go_wp2_with fail
  have cI := is_gen (w.alloc (.cells #[.func (.func 41) #[] #[], .func (.func 42) #[] #[]] 55)) X σ (Hst.out.alloc _) 1 (σ.op / 8 % 8) 1 w.heap.size [⟨41, #[], pA⟩, ⟨42, #[], pI⟩] (by decide) (Hst.out.fresh) (MapKept.heap_alloc w (.cells #[.func (.func 41) #[] #[], .func (.func 42) #[] #[]] 55)).1 (HP.out _)
  refine cI.mono ?_; rintro e w2 ⟨rfl, hd⟩
  have hk := ((Kp.alloc X.own _ _)).trans hd.2
  have hs9 := hd.1
  clear hd
  go_wp2
  go_end0
  exact ⟨rfl, hs9, hk⟩
set_option maxHeartbeats 4000000 in
theorem r00_9 : RuleOk 47 (fun X σ => isM X 12 0 σ.v [pSeg 2] σ) := by
  intro w X σ h
  have f3 := h.f3
  have hF := h.ltF
  have hfre := h.fresh
  have Hst : Hid (St X w σ) := h
  have Hfre : Hid (¬ X.own w.heap.size) := hfre
  clear h hfre
  have HP : Hid (∀ (W : World) (q : Nat), ¬ X.own q → W.cell? ⟨q, 0, none⟩ = some (.int .i64 2) → ∀ p ∈ ([⟨221, #[.pointer (some ⟨q, 0, none⟩)], pSeg 2⟩] : List Prt), PartOk X W p.n p.cap p.f σ.v) := by
    intro W q hq hc p hp
    simp at hp
    subst hp
    exact seg_ok hq hc
  go_enter Tryz.func47, Tryz.ntmps47
  have Hd0 : Hid (St X w.drew σ) := Hst.out.drewN 1
  have Kd0 : Hid (Kp X.own w w.drew) := (Kp.refl _ _).drewN 1
  have Hd2 : Hid (St X ((w.alloc (.cells #[.int .i64 2] 3)).alloc (.cells #[.func (.func 221) #[] #[.pointer (some ⟨w.heap.size, 0, none⟩)]] 55)).drew σ) := ((Hst.out.alloc _).alloc _).drewN 1
  have Kd2 : Hid (Kp X.own w ((w.alloc (.cells #[.int .i64 2] 3)).alloc (.cells #[.func (.func 221) #[] #[.pointer (some ⟨w.heap.size, 0, none⟩)]] 55)).drew) := ((Kp.alloc X.own w _).trans (Kp.alloc X.own _ _)).drewN 1
  have Hh2 : Hid (((w.alloc (.cells #[.int .i64 2] 3)).alloc (.cells #[.func (.func 221) #[] #[.pointer (some ⟨w.heap.size, 0, none⟩)]] 55)).drew.heap[w.heap.size + 1]? = some (.cells #[.func (.func 221) #[] #[.pointer (some ⟨w.heap.size, 0, none⟩)]] 55)) := heap2 w _ _
  have Hc2 : Hid (((w.alloc (.cells #[.int .i64 2] 3)).alloc (.cells #[.func (.func 221) #[] #[.pointer (some ⟨w.heap.size, 0, none⟩)]] 55)).drew.cell? ⟨w.heap.size, 0, none⟩ = some (.int .i64 2)) := cell_kept (cell_new w (.int .i64 2) 3) ((Kp.alloc X.own _ _).drewN 1) Hfre.out
  have Hf2 : Hid (¬ X.own (w.heap.size + 1)) := Hst.out.fresh1
  go_region_with (first
    | (go_at_call 45; refine (segment_ok _ _).mono ?_; rintro e w3 ⟨rfl, hw⟩; subst hw)
    | (go_at_call 33; have cI := is_gen ((w.alloc (.cells #[.int .i64 2] 3)).alloc (.cells #[.func (.func 221) #[] #[.pointer (some ⟨w.heap.size, 0, none⟩)]] 55)).drew X σ Hd2.out 12 0 σ.v (w.heap.size + 1) [⟨221, #[.pointer (some ⟨w.heap.size, 0, none⟩)], pSeg 2⟩] (by simp) Hf2.out Hh2.out (HP.out _ _ Hfre.out Hc2.out); refine cI.mono ?_; rintro e w2 ⟨rfl, hd⟩; have hk := Kd2.out.trans hd.2))
  all_goals
    have hs9 := hd.1
    clear hd
    go_wp2
    go_end0
    exact ⟨rfl, hs9, hk⟩
set_option maxHeartbeats 4000000 in
theorem r00_13 : RuleOk 51 (fun X σ => isM X 13 0 σ.v [pSeg 3] σ) := by
  intro w X σ h
  have f3 := h.f3
  have hF := h.ltF
  have hfre := h.fresh
  have Hst : Hid (St X w σ) := h
  have Hfre : Hid (¬ X.own w.heap.size) := hfre
  clear h hfre
  have HP : Hid (∀ (W : World) (q : Nat), ¬ X.own q → W.cell? ⟨q, 0, none⟩ = some (.int .i64 3) → ∀ p ∈ ([⟨221, #[.pointer (some ⟨q, 0, none⟩)], pSeg 3⟩] : List Prt), PartOk X W p.n p.cap p.f σ.v) := by
    intro W q hq hc p hp
    simp at hp
    subst hp
    exact seg_ok hq hc
  go_enter Tryz.func51, Tryz.ntmps51
  have Hd0 : Hid (St X w.drew σ) := Hst.out.drewN 1
  have Kd0 : Hid (Kp X.own w w.drew) := (Kp.refl _ _).drewN 1
  have Hd2 : Hid (St X ((w.alloc (.cells #[.int .i64 3] 3)).alloc (.cells #[.func (.func 221) #[] #[.pointer (some ⟨w.heap.size, 0, none⟩)]] 55)).drew σ) := ((Hst.out.alloc _).alloc _).drewN 1
  have Kd2 : Hid (Kp X.own w ((w.alloc (.cells #[.int .i64 3] 3)).alloc (.cells #[.func (.func 221) #[] #[.pointer (some ⟨w.heap.size, 0, none⟩)]] 55)).drew) := ((Kp.alloc X.own w _).trans (Kp.alloc X.own _ _)).drewN 1
  have Hh2 : Hid (((w.alloc (.cells #[.int .i64 3] 3)).alloc (.cells #[.func (.func 221) #[] #[.pointer (some ⟨w.heap.size, 0, none⟩)]] 55)).drew.heap[w.heap.size + 1]? = some (.cells #[.func (.func 221) #[] #[.pointer (some ⟨w.heap.size, 0, none⟩)]] 55)) := heap2 w _ _
  have Hc2 : Hid (((w.alloc (.cells #[.int .i64 3] 3)).alloc (.cells #[.func (.func 221) #[] #[.pointer (some ⟨w.heap.size, 0, none⟩)]] 55)).drew.cell? ⟨w.heap.size, 0, none⟩ = some (.int .i64 3)) := cell_kept (cell_new w (.int .i64 3) 3) ((Kp.alloc X.own _ _).drewN 1) Hfre.out
  have Hf2 : Hid (¬ X.own (w.heap.size + 1)) := Hst.out.fresh1
  go_region_with (first
    | (go_at_call 45; refine (segment_ok _ _).mono ?_; rintro e w3 ⟨rfl, hw⟩; subst hw)
    | (go_at_call 33; have cI := is_gen ((w.alloc (.cells #[.int .i64 3] 3)).alloc (.cells #[.func (.func 221) #[] #[.pointer (some ⟨w.heap.size, 0, none⟩)]] 55)).drew X σ Hd2.out 13 0 σ.v (w.heap.size + 1) [⟨221, #[.pointer (some ⟨w.heap.size, 0, none⟩)], pSeg 3⟩] (by simp) Hf2.out Hh2.out (HP.out _ _ Hfre.out Hc2.out); refine cI.mono ?_; rintro e w2 ⟨rfl, hd⟩; have hk := Kd2.out.trans hd.2))
  all_goals
    have hs9 := hd.1
    clear hd
    go_wp2
    go_end0
    exact ⟨rfl, hs9, hk⟩
set_option maxHeartbeats 4000000 in
theorem r00_17 : RuleOk 55 (fun X σ => isM X 7 3 1 [] σ) := by
  intro w X σ h
  have f3 := h.f3
  have hF := h.ltF
  have hfre := h.fresh
  have Hst : Hid (St X w σ) := h
  have Hfre : Hid (¬ X.own w.heap.size) := hfre
  clear h hfre
  go_enter Tryz.func55, Tryz.ntmps55
  go_wp2_with fail
  refine (is_nil _ X σ Hst.out 7 3 1).mono ?_; rintro e w2 ⟨rfl, hd⟩
  have hk := hd.2
  have hs9 := hd.1
  clear hd
  go_wp2
  go_end0
  exact ⟨rfl, hs9, hk⟩
set_option maxHeartbeats 4000000 in
theorem r40_4 : RuleOk 60 (fun X σ => isM X 13 0 σ.v [pR] σ) := by
  intro w X σ h
  have f3 := h.f3
  have hF := h.ltF
  have hfre := h.fresh
  have Hst : Hid (St X w σ) := h
  have Hfre : Hid (¬ X.own w.heap.size) := hfre
  clear h hfre
  have HP : Hid (∀ W : World, ∀ p ∈ ([⟨57, #[], pR⟩] : List Prt), PartOk X W p.n p.cap p.f σ.v) := by
    intro W p hp
    simp at hp
    subst hp
    exact okR Hst.out.vs
  go_enter Tryz.func60, Tryz.ntmps60
  go_wp2_with fail
  have cI := is_gen (w.alloc (.cells #[.func (.func 57) #[] #[]] 55)) X σ (Hst.out.alloc _) 13 0 σ.v w.heap.size [⟨57, #[], pR⟩] (by decide) (Hst.out.fresh) (MapKept.heap_alloc w (.cells #[.func (.func 57) #[] #[]] 55)).1 (HP.out _)
  refine cI.mono ?_; rintro e w2 ⟨rfl, hd⟩
  have hk := ((Kp.alloc X.own _ _)).trans hd.2
  have hs9 := hd.1
  clear hd
  go_wp2
  go_end0
  exact ⟨rfl, hs9, hk⟩
set_option maxHeartbeats 4000000 in
theorem r40_8 : RuleOk 64 (fun X σ => isM X 5 0 σ.v [pG, pE, pI] σ) := by
  intro w X σ h
  have f3 := h.f3
  have hF := h.ltF
  have hfre := h.fresh
  have Hst : Hid (St X w σ) := h
  have Hfre : Hid (¬ X.own w.heap.size) := hfre
  clear h hfre
  have HP : Hid (∀ W : World, ∀ p ∈ ([⟨36, #[], pG⟩, ⟨35, #[], pE⟩, ⟨42, #[], pI⟩] : List Prt), PartOk X W p.n p.cap p.f σ.v) := by
    intro W p hp
    simp at hp
    rcases hp with rfl | rfl | rfl
    · exact okG Hst.out.vs
    · exact okE Hst.out.vs
    · exact okI Hst.out.vs
  go_enter Tryz.func64, Tryz.ntmps64
  go_wp2_with fail
  have cI := is_gen (w.alloc (.cells #[.func (.func 36) #[] #[], .func (.func 35) #[] #[], .func (.func 42) #[] #[]] 55)) X σ (Hst.out.alloc _) 5 0 σ.v w.heap.size [⟨36, #[], pG⟩, ⟨35, #[], pE⟩, ⟨42, #[], pI⟩] (by decide) (Hst.out.fresh) (MapKept.heap_alloc w (.cells #[.func (.func 36) #[] #[], .func (.func 35) #[] #[], .func (.func 42) #[] #[]] 55)).1 (HP.out _)
  refine cI.mono ?_; rintro e w2 ⟨rfl, hd⟩
  have hk := ((Kp.alloc X.own _ _)).trans hd.2
  have hs9 := hd.1
  clear hd
  go_wp2
  go_end0
  exact ⟨rfl, hs9, hk⟩
set_option maxHeartbeats 4000000 in
theorem r80_1 : RuleOk 71 (fun X σ => isM X 1 (modrm X σ).1.2.1 1 [pE, pI] (modrm X σ).2) := by
  intro w X σ h
  have f3 := h.f3
  have hF := h.ltF
  have hfre := h.fresh
  have cM := fun W (hW : St X W σ) => modrm_ok W X σ hW
  have hv1 := modrm_v X σ
  have hbd := modrm_bd h
  obtain ⟨⟨m, n, r⟩, hm⟩ : ∃ x, x = (modrm X σ).1 := ⟨_, rfl⟩
  obtain ⟨σ1, hσ1⟩ : ∃ σ1, σ1 = (modrm X σ).2 := ⟨_, rfl⟩
  obtain ⟨V, hV⟩ : ∃ V, V = isM X 1 n 1 [pE, pI] σ1 := ⟨_, rfl⟩
  show Calls _ _ _ _ fun e w' => _ ∧ Done X w (isM X 1 (modrm X σ).1.2.1 1 [pE, pI] (modrm X σ).2) w'
  rw [show isM X 1 (modrm X σ).1.2.1 1 [pE, pI] (modrm X σ).2 = V by rw [hV, hσ1, ← hm]]
  simp only [← hm, ← hσ1, mrV] at cM hv1 hbd
  obtain ⟨_, ⟨n0, n1⟩, _⟩ := hbd
  have fl1 := fld1
  have HV : Hid (V = isM X 1 n 1 [pE, pI] σ1) := hV
  have Hv1 : Hid (σ1.v = σ.v) := hv1
  have HM : Hid _ := cM
  clear hm hσ1 hV hv1 cM
  have Hst : Hid (St X w σ) := h
  have Hfre : Hid (¬ X.own w.heap.size) := hfre
  clear h hfre
  have HP : Hid (∀ W : World, ∀ p ∈ ([⟨35, #[], pE⟩, ⟨42, #[], pI⟩] : List Prt), PartOk X W p.n p.cap p.f 1) := by
    intro W p hp
    simp at hp
    rcases hp with rfl | rfl
    · exact okE (by decide)
    · exact okI (by decide)
  go_enter Tryz.func71, Tryz.ntmps71
  go_wp2_with fail
  refine (HM.out _ Hst.out).mono ?_; rintro e w1 ⟨rfl, h1, k1⟩
  go_wp2_with fail
  have cI := is_gen (w1.alloc (.cells #[.func (.func 35) #[] #[], .func (.func 42) #[] #[]] 55)) X σ1 (h1.alloc _) 1 n 1 w1.heap.size [⟨35, #[], pE⟩, ⟨42, #[], pI⟩] (by decide) (h1.fresh) (MapKept.heap_alloc w1 (.cells #[.func (.func 35) #[] #[], .func (.func 42) #[] #[]] 55)).1 (HP.out _)
  refine cI.mono ?_; rintro e w2 ⟨rfl, hd⟩
  have hk := ((k1).trans (Kp.alloc X.own _ _)).trans hd.2
  have hs9 := hd.1
  clear hd
  go_wp2
  go_end0
  rw [HV.out]
  exact ⟨rfl, hs9, hk⟩
set_option maxHeartbeats 4000000 in
theorem r80_5 : RuleOk 76 (fun X σ => isM X 1 8 σ.v [pE, pG] σ) := by
  intro w X σ h
  have f3 := h.f3
  have hF := h.ltF
  have hfre := h.fresh
  have Hst : Hid (St X w σ) := h
  have Hfre : Hid (¬ X.own w.heap.size) := hfre
  clear h hfre
  have HP : Hid (∀ W : World, ∀ p ∈ ([⟨35, #[], pE⟩, ⟨36, #[], pG⟩] : List Prt), PartOk X W p.n p.cap p.f σ.v) := by
    intro W p hp
    simp at hp
    rcases hp with rfl | rfl
    · exact okE Hst.out.vs
    · exact okG Hst.out.vs
  go_enter Tryz.func76, Tryz.ntmps76
  go_wp2_with fail
  have cI := is_gen (w.alloc (.cells #[.func (.func 35) #[] #[], .func (.func 36) #[] #[]] 55)) X σ (Hst.out.alloc _) 1 8 σ.v w.heap.size [⟨35, #[], pE⟩, ⟨36, #[], pG⟩] (by decide) (Hst.out.fresh) (MapKept.heap_alloc w (.cells #[.func (.func 35) #[] #[], .func (.func 36) #[] #[]] 55)).1 (HP.out _)
  refine cI.mono ?_; rintro e w2 ⟨rfl, hd⟩
  have hk := ((Kp.alloc X.own _ _)).trans hd.2
  have hs9 := hd.1
  clear hd
  go_wp2
  go_end0
  exact ⟨rfl, hs9, hk⟩
set_option maxHeartbeats 4000000 in
theorem r80_9 : RuleOk 80 (fun X σ => isM X 8 0 σ.v [pE, pG] σ) := by
  intro w X σ h
  have f3 := h.f3
  have hF := h.ltF
  have hfre := h.fresh
  have Hst : Hid (St X w σ) := h
  have Hfre : Hid (¬ X.own w.heap.size) := hfre
  clear h hfre
  have HP : Hid (∀ W : World, ∀ p ∈ ([⟨35, #[], pE⟩, ⟨36, #[], pG⟩] : List Prt), PartOk X W p.n p.cap p.f σ.v) := by
    intro W p hp
    simp at hp
    rcases hp with rfl | rfl
    · exact okE Hst.out.vs
    · exact okG Hst.out.vs
  go_enter Tryz.func80, Tryz.ntmps80
  go_wp2_with fail
  have cI := is_gen (w.alloc (.cells #[.func (.func 35) #[] #[], .func (.func 36) #[] #[]] 55)) X σ (Hst.out.alloc _) 8 0 σ.v w.heap.size [⟨35, #[], pE⟩, ⟨36, #[], pG⟩] (by decide) (Hst.out.fresh) (MapKept.heap_alloc w (.cells #[.func (.func 35) #[] #[], .func (.func 36) #[] #[]] 55)).1 (HP.out _)
  refine cI.mono ?_; rintro e w2 ⟨rfl, hd⟩
  have hk := ((Kp.alloc X.own _ _)).trans hd.2
  have hs9 := hd.1
  clear hd
  go_wp2
  go_end0
  exact ⟨rfl, hs9, hk⟩
set_option maxHeartbeats 4000000 in
theorem r80_13 : RuleOk 88 (fun X σ => isM X 10 0 σ.v [pR, pA] σ) := by
  intro w X σ h
  have f3 := h.f3
  have hF := h.ltF
  have hfre := h.fresh
  have Hst : Hid (St X w σ) := h
  have Hfre : Hid (¬ X.own w.heap.size) := hfre
  clear h hfre
  have HP : Hid (∀ W : World, ∀ p ∈ ([⟨57, #[], pR⟩, ⟨41, #[], pA⟩] : List Prt), PartOk X W p.n p.cap p.f σ.v) := by
    intro W p hp
    simp at hp
    rcases hp with rfl | rfl
    · exact okR Hst.out.vs
    · exact okA Hst.out.vs
  go_enter Tryz.func88, Tryz.ntmps88
  go_wp2_with fail
  have cI := is_gen (w.alloc (.cells #[.func (.func 57) #[] #[], .func (.func 41) #[] #[]] 55)) X σ (Hst.out.alloc _) 10 0 σ.v w.heap.size [⟨57, #[], pR⟩, ⟨41, #[], pA⟩] (by decide) (Hst.out.fresh) (MapKept.heap_alloc w (.cells #[.func (.func 57) #[] #[], .func (.func 41) #[] #[]] 55)).1 (HP.out _)
  refine cI.mono ?_; rintro e w2 ⟨rfl, hd⟩
  have hk := ((Kp.alloc X.own _ _)).trans hd.2
  have hs9 := hd.1
  clear hd
  go_wp2
  go_end0
  exact ⟨rfl, hs9, hk⟩
set_option maxHeartbeats 4000000 in
theorem r80_17 : RuleOk 92 (fun X σ => isM X 17 0 σ.v [] σ) := by
  intro w X σ h
  have f3 := h.f3
  have hF := h.ltF
  have hfre := h.fresh
  have Hst : Hid (St X w σ) := h
  have Hfre : Hid (¬ X.own w.heap.size) := hfre
  clear h hfre
  go_enter Tryz.func92, Tryz.ntmps92
  go_wp2_with fail
  refine (is_nil _ X σ Hst.out 17 0 σ.v).mono ?_; rintro e w2 ⟨rfl, hd⟩
  have hk := hd.2
  have hs9 := hd.1
  clear hd
  go_wp2
  go_end0
  exact ⟨rfl, hs9, hk⟩
set_option maxHeartbeats 4000000 in
theorem rA0_1 : RuleOk 96 (fun X σ => isM X 8 0 1 [pA, pO] σ) := by
  intro w X σ h
  have f3 := h.f3
  have hF := h.ltF
  have hfre := h.fresh
  have Hst : Hid (St X w σ) := h
  have Hfre : Hid (¬ X.own w.heap.size) := hfre
  clear h hfre
  have HP : Hid (∀ W : World, ∀ p ∈ ([⟨41, #[], pA⟩, ⟨97, #[], pO⟩] : List Prt), PartOk X W p.n p.cap p.f 1) := by
    intro W p hp
    simp at hp
    rcases hp with rfl | rfl
    · exact okA (by decide)
    · exact okO (by decide)
  go_enter Tryz.func96, Tryz.ntmps96
  go_wp2_with fail
  have cI := is_gen (w.alloc (.cells #[.func (.func 41) #[] #[], .func (.func 97) #[] #[]] 55)) X σ (Hst.out.alloc _) 8 0 1 w.heap.size [⟨41, #[], pA⟩, ⟨97, #[], pO⟩] (by decide) (Hst.out.fresh) (MapKept.heap_alloc w (.cells #[.func (.func 41) #[] #[], .func (.func 97) #[] #[]] 55)).1 (HP.out _)
  refine cI.mono ?_; rintro e w2 ⟨rfl, hd⟩
  have hk := ((Kp.alloc X.own _ _)).trans hd.2
  have hs9 := hd.1
  clear hd
  go_wp2
  go_end0
  exact ⟨rfl, hs9, hk⟩
theorem rA0_5 : RuleOk 101 (fun X σ => isStr X 0 1 σ) := by
  intro w X σ h
  have f3 := h.f3
  have c := isString_ok w X σ h 0 1 (by decide)
  clear h
  go_enter Tryz.func101, Tryz.ntmps101
  go_wp2_with fail
  refine c.mono ?_; rintro e w1 ⟨rfl, hd⟩
  go_wp2
  go_end0
  exact ⟨rfl, hd⟩
set_option maxHeartbeats 4000000 in
theorem rA0_9 : RuleOk 106 (fun X σ => isM X 1 8 1 [pA, pI] σ) := by
  intro w X σ h
  have f3 := h.f3
  have hF := h.ltF
  have hfre := h.fresh
  have Hst : Hid (St X w σ) := h
  have Hfre : Hid (¬ X.own w.heap.size) := hfre
  clear h hfre
  have HP : Hid (∀ W : World, ∀ p ∈ ([⟨41, #[], pA⟩, ⟨42, #[], pI⟩] : List Prt), PartOk X W p.n p.cap p.f 1) := by
    intro W p hp
    simp at hp
    rcases hp with rfl | rfl
    · exact okA (by decide)
    · exact okI (by decide)
  go_enter Tryz.func106, Tryz.ntmps106
  go_wp2_with fail
  have cI := is_gen (w.alloc (.cells #[.func (.func 41) #[] #[], .func (.func 42) #[] #[]] 55)) X σ (Hst.out.alloc _) 1 8 1 w.heap.size [⟨41, #[], pA⟩, ⟨42, #[], pI⟩] (by decide) (Hst.out.fresh) (MapKept.heap_alloc w (.cells #[.func (.func 41) #[] #[], .func (.func 42) #[] #[]] 55)).1 (HP.out _)
  refine cI.mono ?_; rintro e w2 ⟨rfl, hd⟩
  have hk := ((Kp.alloc X.own _ _)).trans hd.2
  have hs9 := hd.1
  clear hd
  go_wp2
  go_end0
  exact ⟨rfl, hs9, hk⟩
theorem rA0_13 : RuleOk 110 (fun X σ => isStr X 3 1 σ) := by
  intro w X σ h
  have f3 := h.f3
  have c := isString_ok w X σ h 3 1 (by decide)
  clear h
  go_enter Tryz.func110, Tryz.ntmps110
  go_wp2_with fail
  refine c.mono ?_; rintro e w1 ⟨rfl, hd⟩
  go_wp2
  go_end0
  exact ⟨rfl, hd⟩
set_option maxHeartbeats 4000000 in
theorem rA0_17 : RuleOk 114 (fun X σ => isM X 8 0 1 [pR, pI] σ) := by
  intro w X σ h
  have f3 := h.f3
  have hF := h.ltF
  have hfre := h.fresh
  have Hst : Hid (St X w σ) := h
  have Hfre : Hid (¬ X.own w.heap.size) := hfre
  clear h hfre
  have HP : Hid (∀ W : World, ∀ p ∈ ([⟨57, #[], pR⟩, ⟨42, #[], pI⟩] : List Prt), PartOk X W p.n p.cap p.f 1) := by
    intro W p hp
    simp at hp
    rcases hp with rfl | rfl
    · exact okR (by decide)
    · exact okI (by decide)
  go_enter Tryz.func114, Tryz.ntmps114
  go_wp2_with fail
  have cI := is_gen (w.alloc (.cells #[.func (.func 57) #[] #[], .func (.func 42) #[] #[]] 55)) X σ (Hst.out.alloc _) 8 0 1 w.heap.size [⟨57, #[], pR⟩, ⟨42, #[], pI⟩] (by decide) (Hst.out.fresh) (MapKept.heap_alloc w (.cells #[.func (.func 57) #[] #[], .func (.func 42) #[] #[]] 55)).1 (HP.out _)
  refine cI.mono ?_; rintro e w2 ⟨rfl, hd⟩
  have hk := ((Kp.alloc X.own _ _)).trans hd.2
  have hs9 := hd.1
  clear hd
  go_wp2
  go_end0
  exact ⟨rfl, hs9, hk⟩
set_option maxHeartbeats 4000000 in
theorem rC0_3 : RuleOk 119 (fun X σ => isM X 30 0 σ.v [pIw] σ) := by
  intro w X σ h
  have f3 := h.f3
  have hF := h.ltF
  have hfre := h.fresh
  have Hst : Hid (St X w σ) := h
  have Hfre : Hid (¬ X.own w.heap.size) := hfre
  clear h hfre
  have HP : Hid (∀ W : World, ∀ p ∈ ([⟨120, #[], pIw⟩] : List Prt), PartOk X W p.n p.cap p.f σ.v) := by
    intro W p hp
    simp at hp
    subst hp
    exact okIw Hst.out.vs
  go_enter Tryz.func119, Tryz.ntmps119
  go_wp2_with fail
  have cI := is_gen (w.alloc (.cells #[.func (.func 120) #[] #[]] 55)) X σ (Hst.out.alloc _) 30 0 σ.v w.heap.size [⟨120, #[], pIw⟩] (by decide) (Hst.out.fresh) (MapKept.heap_alloc w (.cells #[.func (.func 120) #[] #[]] 55)).1 (HP.out _)
  refine cI.mono ?_; rintro e w2 ⟨rfl, hd⟩
  have hk := ((Kp.alloc X.own _ _)).trans hd.2
  have hs9 := hd.1
  clear hd
  go_wp2
  go_end0
  exact ⟨rfl, hs9, hk⟩
set_option maxHeartbeats 4000000 in
theorem rC0_7 : RuleOk 125 (fun X σ => isM X 35 0 σ.v [] σ) := by
  intro w X σ h
  have f3 := h.f3
  have hF := h.ltF
  have hfre := h.fresh
  have Hst : Hid (St X w σ) := h
  have Hfre : Hid (¬ X.own w.heap.size) := hfre
  clear h hfre
  go_enter Tryz.func125, Tryz.ntmps125
  go_wp2_with fail
  refine (is_nil _ X σ Hst.out 35 0 σ.v).mono ?_; rintro e w2 ⟨rfl, hd⟩
  have hk := hd.2
  have hs9 := hd.1
  clear hd
  go_wp2
  go_end0
  exact ⟨rfl, hs9, hk⟩
set_option maxHeartbeats 4000000 in
theorem rC0_11 : RuleOk 129 (fun X σ => isM X 33 0 σ.v [] σ) := by
  intro w X σ h
  have f3 := h.f3
  have hF := h.ltF
  have hfre := h.fresh
  have Hst : Hid (St X w σ) := h
  have Hfre : Hid (¬ X.own w.heap.size) := hfre
  clear h hfre
  go_enter Tryz.func129, Tryz.ntmps129
  go_wp2_with fail
  refine (is_nil _ X σ Hst.out 33 0 σ.v).mono ?_; rintro e w2 ⟨rfl, hd⟩
  have hk := hd.2
  have hs9 := hd.1
  clear hd
  go_wp2
  go_end0
  exact ⟨rfl, hs9, hk⟩
set_option maxHeartbeats 4000000 in
theorem rC0_15 : RuleOk 134 (fun X σ => isM X 2 (modrm X σ).1.2.1 σ.v [pE, pCL] (modrm X σ).2) := by
  intro w X σ h
  have f3 := h.f3
  have hF := h.ltF
  have hfre := h.fresh
  have cM := fun W (hW : St X W σ) => modrm_ok W X σ hW
  have hv1 := modrm_v X σ
  have hbd := modrm_bd h
  obtain ⟨⟨m, n, r⟩, hm⟩ : ∃ x, x = (modrm X σ).1 := ⟨_, rfl⟩
  obtain ⟨σ1, hσ1⟩ : ∃ σ1, σ1 = (modrm X σ).2 := ⟨_, rfl⟩
  obtain ⟨V, hV⟩ : ∃ V, V = isM X 2 n σ.v [pE, pCL] σ1 := ⟨_, rfl⟩
  show Calls _ _ _ _ fun e w' => _ ∧ Done X w (isM X 2 (modrm X σ).1.2.1 σ.v [pE, pCL] (modrm X σ).2) w'
  rw [show isM X 2 (modrm X σ).1.2.1 σ.v [pE, pCL] (modrm X σ).2 = V by rw [hV, hσ1, ← hm]]
  simp only [← hm, ← hσ1, mrV] at cM hv1 hbd
  obtain ⟨_, ⟨n0, n1⟩, _⟩ := hbd
  have fl1 := fld1
  have HV : Hid (V = isM X 2 n σ.v [pE, pCL] σ1) := hV
  have Hv1 : Hid (σ1.v = σ.v) := hv1
  have HM : Hid _ := cM
  clear hm hσ1 hV hv1 cM
  have Hst : Hid (St X w σ) := h
  have Hfre : Hid (¬ X.own w.heap.size) := hfre
  clear h hfre
  have HP : Hid (∀ W : World, ∀ p ∈ ([⟨35, #[], pE⟩, ⟨133, #[], pCL⟩] : List Prt), PartOk X W p.n p.cap p.f σ.v) := by
    intro W p hp
    simp at hp
    rcases hp with rfl | rfl
    · exact okE Hst.out.vs
    · exact okCL Hst.out.vs
  go_enter Tryz.func134, Tryz.ntmps134
  have Hd0 : Hid (St X w.drew σ) := Hst.out.drewN 1
  have Kd0 : Hid (Kp X.own w w.drew) := (Kp.refl _ _).drewN 1
  have Hd1 : Hid (St X (w.alloc (.cells #[.func (.func 35) #[] #[], .func (.func 133) #[] #[]] 55)).drew σ) := (Hst.out.alloc _).drewN 1
  have Kd1 : Hid (Kp X.own w (w.alloc (.cells #[.func (.func 35) #[] #[], .func (.func 133) #[] #[]] 55)).drew) := (Kp.alloc _ _ _).drewN 1
  have Hh1 : Hid ((w.alloc (.cells #[.func (.func 35) #[] #[], .func (.func 133) #[] #[]] 55)).drew.heap[w.heap.size]? = some (.cells #[.func (.func 35) #[] #[], .func (.func 133) #[] #[]] 55)) := (MapKept.heap_alloc w _).1
  go_region_with (first
    | (go_at_call 72; refine Calls.mono (HM.out _ ?_) ?_; (first | exact Hd0.out | exact Hd1.out); rintro e w1 ⟨rfl, h1, k1⟩; have g3 : w1.cell? ⟨X.F, 3, none⟩ = some (.int .i64 σ.v) := (by rw [← Hv1.out]; exact h1.f3); have gF := h1.ltF; (try have hsl := heap_kept Hh1.out k1 Hfre.out))
    | (go_at_call 33; first | (have cI := is_gen w1 X σ1 h1 2 n σ.v w.heap.size [⟨35, #[], pE⟩, ⟨133, #[], pCL⟩] (by decide) Hfre.out hsl (HP.out _); refine cI.mono ?_; rintro e w2 ⟨rfl, hd⟩; have hk := (Kd1.out.trans k1).trans hd.2) | (have cI := is_gen (w1.alloc (.cells #[.func (.func 35) #[] #[], .func (.func 133) #[] #[]] 55)) X σ1 (h1.alloc _) 2 n σ.v w1.heap.size [⟨35, #[], pE⟩, ⟨133, #[], pCL⟩] (by decide) h1.fresh (MapKept.heap_alloc w1 (.cells #[.func (.func 35) #[] #[], .func (.func 133) #[] #[]] 55)).1 (HP.out _); refine cI.mono ?_; rintro e w2 ⟨rfl, hd⟩; have hk := ((Kd0.out.trans k1).trans (Kp.alloc X.own w1 _)).trans hd.2)))
  all_goals
    have hs9 := hd.1
    clear hd
    go_wp2
    go_end0
    rw [HV.out]
    exact ⟨rfl, hs9, hk⟩
set_option maxHeartbeats 4000000 in
theorem rE0_2 : RuleOk 138 (fun X σ => isM X 31 1 σ.v [pJb] σ) := by
  intro w X σ h
  have f3 := h.f3
  have hF := h.ltF
  have hfre := h.fresh
  have Hst : Hid (St X w σ) := h
  have Hfre : Hid (¬ X.own w.heap.size) := hfre
  clear h hfre
  have HP : Hid (∀ W : World, ∀ p ∈ ([⟨70, #[], pJb⟩] : List Prt), PartOk X W p.n p.cap p.f σ.v) := by
    intro W p hp
    simp at hp
    subst hp
    exact okJb Hst.out.vs
  go_enter Tryz.func138, Tryz.ntmps138
  go_wp2_with fail
  have cI := is_gen (w.alloc (.cells #[.func (.func 70) #[] #[]] 55)) X σ (Hst.out.alloc _) 31 1 σ.v w.heap.size [⟨70, #[], pJb⟩] (by decide) (Hst.out.fresh) (MapKept.heap_alloc w (.cells #[.func (.func 70) #[] #[]] 55)).1 (HP.out _)
  refine cI.mono ?_; rintro e w2 ⟨rfl, hd⟩
  have hk := ((Kp.alloc X.own _ _)).trans hd.2
  have hs9 := hd.1
  clear hd
  go_wp2
  go_end0
  exact ⟨rfl, hs9, hk⟩
set_option maxHeartbeats 4000000 in
theorem rE0_6 : RuleOk 142 (fun X σ => isM X 37 0 σ.v [pA, pIb] σ) := by
  intro w X σ h
  have f3 := h.f3
  have hF := h.ltF
  have hfre := h.fresh
  have Hst : Hid (St X w σ) := h
  have Hfre : Hid (¬ X.own w.heap.size) := hfre
  clear h hfre
  have HP : Hid (∀ W : World, ∀ p ∈ ([⟨41, #[], pA⟩, ⟨117, #[], pIb⟩] : List Prt), PartOk X W p.n p.cap p.f σ.v) := by
    intro W p hp
    simp at hp
    rcases hp with rfl | rfl
    · exact okA Hst.out.vs
    · exact okIb Hst.out.vs
  go_enter Tryz.func142, Tryz.ntmps142
  go_wp2_with fail
  have cI := is_gen (w.alloc (.cells #[.func (.func 41) #[] #[], .func (.func 117) #[] #[]] 55)) X σ (Hst.out.alloc _) 37 0 σ.v w.heap.size [⟨41, #[], pA⟩, ⟨117, #[], pIb⟩] (by decide) (Hst.out.fresh) (MapKept.heap_alloc w (.cells #[.func (.func 41) #[] #[], .func (.func 117) #[] #[]] 55)).1 (HP.out _)
  refine cI.mono ?_; rintro e w2 ⟨rfl, hd⟩
  have hk := ((Kp.alloc X.own _ _)).trans hd.2
  have hs9 := hd.1
  clear hd
  go_wp2
  go_end0
  exact ⟨rfl, hs9, hk⟩
set_option maxHeartbeats 4000000 in
theorem rE0_10 : RuleOk 147 (fun X σ => isM X 27 0 σ.v [pJ] σ) := by
  intro w X σ h
  have f3 := h.f3
  have hF := h.ltF
  have hfre := h.fresh
  have Hst : Hid (St X w σ) := h
  have Hfre : Hid (¬ X.own w.heap.size) := hfre
  clear h hfre
  have HP : Hid (∀ W : World, ∀ p ∈ ([⟨146, #[], pJ⟩] : List Prt), PartOk X W p.n p.cap p.f σ.v) := by
    intro W p hp
    simp at hp
    subst hp
    exact okJ Hst.out.vs
  go_enter Tryz.func147, Tryz.ntmps147
  go_wp2_with fail
  have cI := is_gen (w.alloc (.cells #[.func (.func 146) #[] #[]] 55)) X σ (Hst.out.alloc _) 27 0 σ.v w.heap.size [⟨146, #[], pJ⟩] (by decide) (Hst.out.fresh) (MapKept.heap_alloc w (.cells #[.func (.func 146) #[] #[]] 55)).1 (HP.out _)
  refine cI.mono ?_; rintro e w2 ⟨rfl, hd⟩
  have hk := ((Kp.alloc X.own _ _)).trans hd.2
  have hs9 := hd.1
  clear hd
  go_wp2
  go_end0
  exact ⟨rfl, hs9, hk⟩
set_option maxHeartbeats 4000000 in
theorem rE0_14 : RuleOk 153 (fun X σ => isM X 37 0 σ.v [pA, pDX] σ) := by
  intro w X σ h
  have f3 := h.f3
  have hF := h.ltF
  have hfre := h.fresh
  have Hst : Hid (St X w σ) := h
  have Hfre : Hid (¬ X.own w.heap.size) := hfre
  clear h hfre
  have HP : Hid (∀ W : World, ∀ p ∈ ([⟨41, #[], pA⟩, ⟨152, #[], pDX⟩] : List Prt), PartOk X W p.n p.cap p.f σ.v) := by
    intro W p hp
    simp at hp
    rcases hp with rfl | rfl
    · exact okA Hst.out.vs
    · exact okDX Hst.out.vs
  go_enter Tryz.func153, Tryz.ntmps153
  go_wp2_with fail
  have cI := is_gen (w.alloc (.cells #[.func (.func 41) #[] #[], .func (.func 152) #[] #[]] 55)) X σ (Hst.out.alloc _) 37 0 σ.v w.heap.size [⟨41, #[], pA⟩, ⟨152, #[], pDX⟩] (by decide) (Hst.out.fresh) (MapKept.heap_alloc w (.cells #[.func (.func 41) #[] #[], .func (.func 152) #[] #[]] 55)).1 (HP.out _)
  refine cI.mono ?_; rintro e w2 ⟨rfl, hd⟩
  have hk := ((Kp.alloc X.own _ _)).trans hd.2
  have hs9 := hd.1
  clear hd
  go_wp2
  go_end0
  exact ⟨rfl, hs9, hk⟩
set_option maxHeartbeats 4000000 in
theorem rE0_18 : RuleOk 157 (fun X σ => isM X 39 2 4 [] σ) := by
  intro w X σ h
  have f3 := h.f3
  have hF := h.ltF
  have hfre := h.fresh
  have Hst : Hid (St X w σ) := h
  have Hfre : Hid (¬ X.own w.heap.size) := hfre
  clear h hfre
  go_enter Tryz.func157, Tryz.ntmps157
  go_wp2_with fail
  refine (is_nil _ X σ Hst.out 39 2 4).mono ?_; rintro e w2 ⟨rfl, hd⟩
  have hk := hd.2
  have hs9 := hd.1
  clear hd
  go_wp2
  go_end0
  exact ⟨rfl, hs9, hk⟩
set_option maxHeartbeats 4000000 in
theorem rE0_24 : RuleOk 164 (fun X σ => isM X 39 6 4 [] σ) := by
  intro w X σ h
  have f3 := h.f3
  have hF := h.ltF
  have hfre := h.fresh
  have Hst : Hid (St X w σ) := h
  have Hfre : Hid (¬ X.own w.heap.size) := hfre
  clear h hfre
  go_enter Tryz.func164, Tryz.ntmps164
  go_wp2_with fail
  refine (is_nil _ X σ Hst.out 39 6 4).mono ?_; rintro e w2 ⟨rfl, hd⟩
  have hk := hd.2
  have hs9 := hd.1
  clear hd
  go_wp2
  go_end0
  exact ⟨rfl, hs9, hk⟩
set_option maxHeartbeats 4000000 in
theorem r0F_1 : RuleOk 169 (fun X σ => isM X 44 0 2 [pE] (onlyM X [3] σ)) := by
  intro w X σ h
  have hfre := h.fresh
  have h0 : St X (w.alloc (.cells #[.int .i64 3] 3)) σ := h.alloc _
  have hn0 := (MapKept.heap_alloc w (.cells #[.int .i64 3] 3)).1
  have cO := only_ok _ X σ h0 w.heap.size 1 [3] rfl (by decide) hfre (fun j hj => by
    rcases (by omega : j = 0) with rfl <;> (unfold World.cell?; rw [hn0]; rfl))
  obtain ⟨σa, hσa⟩ : ∃ σa, σa = onlyM X [3] σ := ⟨_, rfl⟩
  show Calls _ _ _ _ fun e w' => _ ∧ Done X w (isM X 44 0 2 [pE] (onlyM X [3] σ)) w'
  rw [← hσa] at cO ⊢
  clear hσa h h0 hn0
  go_enter Tryz.func169, Tryz.ntmps169
  go_wp2_with fail
  refine cO.mono ?_; rintro e wa ⟨rfl, h, ka⟩
  replace ka := (Kp.alloc X.own w _).trans ka
  clear cO hfre
  have f3 := h.f3
  have hF := h.ltF
  have hfre := h.fresh
  have Hst : Hid (St X wa σa) := h
  have Hfre : Hid (¬ X.own wa.heap.size) := hfre
  clear h hfre
  have HP : Hid (∀ W : World, ∀ p ∈ ([⟨35, #[], pE⟩] : List Prt), PartOk X W p.n p.cap p.f 2) := by
    intro W p hp
    simp at hp
    subst hp
    exact okE (by decide)
  go_wp2_with fail
  have cI := is_gen (wa.alloc (.cells #[.func (.func 35) #[] #[]] 55)) X σa (Hst.out.alloc _) 44 0 2 wa.heap.size [⟨35, #[], pE⟩] (by decide) (Hst.out.fresh) (MapKept.heap_alloc wa (.cells #[.func (.func 35) #[] #[]] 55)).1 (HP.out _)
  refine cI.mono ?_; rintro e w2 ⟨rfl, hd⟩
  have hk := ((ka).trans (Kp.alloc X.own _ _)).trans hd.2
  have hs9 := hd.1
  clear hd
  go_wp2
  go_end0
  exact ⟨rfl, hs9, hk⟩
set_option maxHeartbeats 4000000 in
theorem r0F_5 : RuleOk 176 (fun X σ => isM X 26 (σ.op % 16) σ.v [pG, pE] σ) := by
  intro w X σ h
  have f3 := h.f3
  have hF := h.ltF
  have hfre := h.fresh
  have Hst : Hid (St X w σ) := h
  have Hfre : Hid (¬ X.own w.heap.size) := hfre
  clear h hfre
  have HP : Hid (∀ W : World, ∀ p ∈ ([⟨36, #[], pG⟩, ⟨35, #[], pE⟩] : List Prt), PartOk X W p.n p.cap p.f σ.v) := by
    intro W p hp
    simp at hp
    rcases hp with rfl | rfl
    · exact okG Hst.out.vs
    · exact okE Hst.out.vs
  go_enter Tryz.func176, Tryz.ntmps176
  have Hd0 : Hid (St X w.drew σ) := Hst.out.drewN 1
  have Kd0 : Hid (Kp X.own w w.drew) := (Kp.refl _ _).drewN 1
  have Hd1 : Hid (St X (w.alloc (.cells #[.func (.func 36) #[] #[], .func (.func 35) #[] #[]] 55)).drew σ) := (Hst.out.alloc _).drewN 1
  have Kd1 : Hid (Kp X.own w (w.alloc (.cells #[.func (.func 36) #[] #[], .func (.func 35) #[] #[]] 55)).drew) := (Kp.alloc _ _ _).drewN 1
  have Hh1 : Hid ((w.alloc (.cells #[.func (.func 36) #[] #[], .func (.func 35) #[] #[]] 55)).drew.heap[w.heap.size]? = some (.cells #[.func (.func 36) #[] #[], .func (.func 35) #[] #[]] 55)) := (MapKept.heap_alloc w _).1
  go_region_with (first
    | (go_at_call 69; refine Calls.mono (c_ok _ X σ ?_) ?_; (first | exact Hd0.out | exact Hd1.out); rintro e w0 ⟨rfl, hw⟩; subst hw)
    | (go_at_call 33; have cI := is_gen (w.alloc (.cells #[.func (.func 36) #[] #[], .func (.func 35) #[] #[]] 55)).drew X σ Hd1.out 26 (σ.op % 16) σ.v w.heap.size [⟨36, #[], pG⟩, ⟨35, #[], pE⟩] (by decide) Hfre.out Hh1.out (HP.out _); refine cI.mono ?_; rintro e w2 ⟨rfl, hd⟩; have hk := Kd1.out.trans hd.2))
  all_goals
    have hs9 := hd.1
    clear hd
    go_wp2
    go_end0
    exact ⟨rfl, hs9, hk⟩
set_option maxHeartbeats 4000000 in
theorem r0F_9 : RuleOk 180 (fun X σ => isM X 13 0 σ.v [pSeg 4] σ) := by
  intro w X σ h
  have f3 := h.f3
  have hF := h.ltF
  have hfre := h.fresh
  have Hst : Hid (St X w σ) := h
  have Hfre : Hid (¬ X.own w.heap.size) := hfre
  clear h hfre
  have HP : Hid (∀ (W : World) (q : Nat), ¬ X.own q → W.cell? ⟨q, 0, none⟩ = some (.int .i64 4) → ∀ p ∈ ([⟨221, #[.pointer (some ⟨q, 0, none⟩)], pSeg 4⟩] : List Prt), PartOk X W p.n p.cap p.f σ.v) := by
    intro W q hq hc p hp
    simp at hp
    subst hp
    exact seg_ok hq hc
  go_enter Tryz.func180, Tryz.ntmps180
  have Hd0 : Hid (St X w.drew σ) := Hst.out.drewN 1
  have Kd0 : Hid (Kp X.own w w.drew) := (Kp.refl _ _).drewN 1
  have Hd2 : Hid (St X ((w.alloc (.cells #[.int .i64 4] 3)).alloc (.cells #[.func (.func 221) #[] #[.pointer (some ⟨w.heap.size, 0, none⟩)]] 55)).drew σ) := ((Hst.out.alloc _).alloc _).drewN 1
  have Kd2 : Hid (Kp X.own w ((w.alloc (.cells #[.int .i64 4] 3)).alloc (.cells #[.func (.func 221) #[] #[.pointer (some ⟨w.heap.size, 0, none⟩)]] 55)).drew) := ((Kp.alloc X.own w _).trans (Kp.alloc X.own _ _)).drewN 1
  have Hh2 : Hid (((w.alloc (.cells #[.int .i64 4] 3)).alloc (.cells #[.func (.func 221) #[] #[.pointer (some ⟨w.heap.size, 0, none⟩)]] 55)).drew.heap[w.heap.size + 1]? = some (.cells #[.func (.func 221) #[] #[.pointer (some ⟨w.heap.size, 0, none⟩)]] 55)) := heap2 w _ _
  have Hc2 : Hid (((w.alloc (.cells #[.int .i64 4] 3)).alloc (.cells #[.func (.func 221) #[] #[.pointer (some ⟨w.heap.size, 0, none⟩)]] 55)).drew.cell? ⟨w.heap.size, 0, none⟩ = some (.int .i64 4)) := cell_kept (cell_new w (.int .i64 4) 3) ((Kp.alloc X.own _ _).drewN 1) Hfre.out
  have Hf2 : Hid (¬ X.own (w.heap.size + 1)) := Hst.out.fresh1
  go_region_with (first
    | (go_at_call 45; refine (segment_ok _ _).mono ?_; rintro e w3 ⟨rfl, hw⟩; subst hw)
    | (go_at_call 33; have cI := is_gen ((w.alloc (.cells #[.int .i64 4] 3)).alloc (.cells #[.func (.func 221) #[] #[.pointer (some ⟨w.heap.size, 0, none⟩)]] 55)).drew X σ Hd2.out 13 0 σ.v (w.heap.size + 1) [⟨221, #[.pointer (some ⟨w.heap.size, 0, none⟩)], pSeg 4⟩] (by simp) Hf2.out Hh2.out (HP.out _ _ Hfre.out Hc2.out); refine cI.mono ?_; rintro e w2 ⟨rfl, hd⟩; have hk := Kd2.out.trans hd.2))
  all_goals
    have hs9 := hd.1
    clear hd
    go_wp2
    go_end0
    exact ⟨rfl, hs9, hk⟩
set_option maxHeartbeats 4000000 in
theorem r0F_13 : RuleOk 184 (fun X σ => isM X 12 0 σ.v [pSeg 5] σ) := by
  intro w X σ h
  have f3 := h.f3
  have hF := h.ltF
  have hfre := h.fresh
  have Hst : Hid (St X w σ) := h
  have Hfre : Hid (¬ X.own w.heap.size) := hfre
  clear h hfre
  have HP : Hid (∀ (W : World) (q : Nat), ¬ X.own q → W.cell? ⟨q, 0, none⟩ = some (.int .i64 5) → ∀ p ∈ ([⟨221, #[.pointer (some ⟨q, 0, none⟩)], pSeg 5⟩] : List Prt), PartOk X W p.n p.cap p.f σ.v) := by
    intro W q hq hc p hp
    simp at hp
    subst hp
    exact seg_ok hq hc
  go_enter Tryz.func184, Tryz.ntmps184
  have Hd0 : Hid (St X w.drew σ) := Hst.out.drewN 1
  have Kd0 : Hid (Kp X.own w w.drew) := (Kp.refl _ _).drewN 1
  have Hd2 : Hid (St X ((w.alloc (.cells #[.int .i64 5] 3)).alloc (.cells #[.func (.func 221) #[] #[.pointer (some ⟨w.heap.size, 0, none⟩)]] 55)).drew σ) := ((Hst.out.alloc _).alloc _).drewN 1
  have Kd2 : Hid (Kp X.own w ((w.alloc (.cells #[.int .i64 5] 3)).alloc (.cells #[.func (.func 221) #[] #[.pointer (some ⟨w.heap.size, 0, none⟩)]] 55)).drew) := ((Kp.alloc X.own w _).trans (Kp.alloc X.own _ _)).drewN 1
  have Hh2 : Hid (((w.alloc (.cells #[.int .i64 5] 3)).alloc (.cells #[.func (.func 221) #[] #[.pointer (some ⟨w.heap.size, 0, none⟩)]] 55)).drew.heap[w.heap.size + 1]? = some (.cells #[.func (.func 221) #[] #[.pointer (some ⟨w.heap.size, 0, none⟩)]] 55)) := heap2 w _ _
  have Hc2 : Hid (((w.alloc (.cells #[.int .i64 5] 3)).alloc (.cells #[.func (.func 221) #[] #[.pointer (some ⟨w.heap.size, 0, none⟩)]] 55)).drew.cell? ⟨w.heap.size, 0, none⟩ = some (.int .i64 5)) := cell_kept (cell_new w (.int .i64 5) 3) ((Kp.alloc X.own _ _).drewN 1) Hfre.out
  have Hf2 : Hid (¬ X.own (w.heap.size + 1)) := Hst.out.fresh1
  go_region_with (first
    | (go_at_call 45; refine (segment_ok _ _).mono ?_; rintro e w3 ⟨rfl, hw⟩; subst hw)
    | (go_at_call 33; have cI := is_gen ((w.alloc (.cells #[.int .i64 5] 3)).alloc (.cells #[.func (.func 221) #[] #[.pointer (some ⟨w.heap.size, 0, none⟩)]] 55)).drew X σ Hd2.out 12 0 σ.v (w.heap.size + 1) [⟨221, #[.pointer (some ⟨w.heap.size, 0, none⟩)], pSeg 5⟩] (by simp) Hf2.out Hh2.out (HP.out _ _ Hfre.out Hc2.out); refine cI.mono ?_; rintro e w2 ⟨rfl, hd⟩; have hk := Kd2.out.trans hd.2))
  all_goals
    have hs9 := hd.1
    clear hd
    go_wp2
    go_end0
    exact ⟨rfl, hs9, hk⟩
set_option maxHeartbeats 4000000 in
theorem r0F_17 : RuleOk 188 (fun X σ => isM X 3 1 σ.v [pE, pG, pCL] σ) := by
  intro w X σ h
  have f3 := h.f3
  have hF := h.ltF
  have hfre := h.fresh
  have Hst : Hid (St X w σ) := h
  have Hfre : Hid (¬ X.own w.heap.size) := hfre
  clear h hfre
  have HP : Hid (∀ W : World, ∀ p ∈ ([⟨35, #[], pE⟩, ⟨36, #[], pG⟩, ⟨133, #[], pCL⟩] : List Prt), PartOk X W p.n p.cap p.f σ.v) := by
    intro W p hp
    simp at hp
    rcases hp with rfl | rfl | rfl
    · exact okE Hst.out.vs
    · exact okG Hst.out.vs
    · exact okCL Hst.out.vs
  go_enter Tryz.func188, Tryz.ntmps188
  go_wp2_with fail
  have cI := is_gen (w.alloc (.cells #[.func (.func 35) #[] #[], .func (.func 36) #[] #[], .func (.func 133) #[] #[]] 55)) X σ (Hst.out.alloc _) 3 1 σ.v w.heap.size [⟨35, #[], pE⟩, ⟨36, #[], pG⟩, ⟨133, #[], pCL⟩] (by decide) (Hst.out.fresh) (MapKept.heap_alloc w (.cells #[.func (.func 35) #[] #[], .func (.func 36) #[] #[], .func (.func 133) #[] #[]] 55)).1 (HP.out _)
  refine cI.mono ?_; rintro e w2 ⟨rfl, hd⟩
  have hk := ((Kp.alloc X.own _ _)).trans hd.2
  have hs9 := hd.1
  clear hd
  go_wp2
  go_end0
  exact ⟨rfl, hs9, hk⟩
set_option maxHeartbeats 4000000 in
theorem r0F_21 : RuleOk 193 (fun X σ => isM X 9 0 σ.v [pG, pEw] σ) := by
  intro w X σ h
  have f3 := h.f3
  have hF := h.ltF
  have hfre := h.fresh
  have Hst : Hid (St X w σ) := h
  have Hfre : Hid (¬ X.own w.heap.size) := hfre
  clear h hfre
  have HP : Hid (∀ W : World, ∀ p ∈ ([⟨36, #[], pG⟩, ⟨194, #[], pEw⟩] : List Prt), PartOk X W p.n p.cap p.f σ.v) := by
    intro W p hp
    simp at hp
    rcases hp with rfl | rfl
    · exact okG Hst.out.vs
    · exact okEw Hst.out.vs
  go_enter Tryz.func193, Tryz.ntmps193
  go_wp2_with fail
  have cI := is_gen (w.alloc (.cells #[.func (.func 36) #[] #[], .func (.func 194) #[] #[]] 55)) X σ (Hst.out.alloc _) 9 0 σ.v w.heap.size [⟨36, #[], pG⟩, ⟨194, #[], pEw⟩] (by decide) (Hst.out.fresh) (MapKept.heap_alloc w (.cells #[.func (.func 36) #[] #[], .func (.func 194) #[] #[]] 55)).1 (HP.out _)
  refine cI.mono ?_; rintro e w2 ⟨rfl, hd⟩
  have hk := ((Kp.alloc X.own _ _)).trans hd.2
  have hs9 := hd.1
  clear hd
  go_wp2
  go_end0
  exact ⟨rfl, hs9, hk⟩
set_option maxHeartbeats 4000000 in
theorem r0F_26 : RuleOk 199 (fun X σ => isM X 9 1 σ.v [pG, pEb] σ) := by
  intro w X σ h
  have f3 := h.f3
  have hF := h.ltF
  have hfre := h.fresh
  have Hst : Hid (St X w σ) := h
  have Hfre : Hid (¬ X.own w.heap.size) := hfre
  clear h hfre
  have HP : Hid (∀ W : World, ∀ p ∈ ([⟨36, #[], pG⟩, ⟨192, #[], pEb⟩] : List Prt), PartOk X W p.n p.cap p.f σ.v) := by
    intro W p hp
    simp at hp
    rcases hp with rfl | rfl
    · exact okG Hst.out.vs
    · exact okEb Hst.out.vs
  go_enter Tryz.func199, Tryz.ntmps199
  go_wp2_with fail
  have cI := is_gen (w.alloc (.cells #[.func (.func 36) #[] #[], .func (.func 192) #[] #[]] 55)) X σ (Hst.out.alloc _) 9 1 σ.v w.heap.size [⟨36, #[], pG⟩, ⟨192, #[], pEb⟩] (by decide) (Hst.out.fresh) (MapKept.heap_alloc w (.cells #[.func (.func 36) #[] #[], .func (.func 192) #[] #[]] 55)).1 (HP.out _)
  refine cI.mono ?_; rintro e w2 ⟨rfl, hd⟩
  have hk := ((Kp.alloc X.own _ _)).trans hd.2
  have hs9 := hd.1
  clear hd
  go_wp2
  go_end0
  exact ⟨rfl, hs9, hk⟩
end Go.Proofs.YtbfccfhjgopnbaaGreat
