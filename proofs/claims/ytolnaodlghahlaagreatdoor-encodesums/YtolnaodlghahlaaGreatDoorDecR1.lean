/- Contracts of the table's rules. -/
import Derived.Test.YtolnaodlghahlaaGreatDoorDecRule0
import Derived.Deep.RegionWith
namespace Go.Proofs.YtolnaodlghahlaaGreatDoor
open Go.ChangeShapes Go.WideShapes Go.ChangeAt Go.RowKit
set_option linter.unusedVariables false
set_option maxRecDepth 100000

set_option maxHeartbeats 4000000 in
theorem r00_1 : RuleOk 63 (fun X σ => isM X 1 (σ.op / 8 % 8) 1 [pE, pG] σ) := by
  intro w X σ h
  have f3 := h.f3
  have hF := h.ltF
  have hfre := h.fresh
  have Hst : Hid (St X w σ) := h
  have Hfre : Hid (¬ X.own w.heap.size) := hfre
  clear h hfre
  have HP : Hid (∀ W : World, ∀ p ∈ ([⟨66, #[], pE⟩, ⟨67, #[], pG⟩] : List Prt), PartOk X W p.n p.cap p.f 1) := by
    intro W p hp
    simp at hp
    rcases hp with rfl | rfl
    · exact okE (by decide)
    · exact okG (by decide)
  go_enter Tryz.func63, Tryz.ntmps63
  go_wp2_with fail
  refine (n_ok _ X σ Hst.out).mono ?_; rintro e w0 ⟨rfl, hw⟩; replace hw := hw.symm; subst hw
  go_wp2_with fail
  have cI := is_gen (w.alloc (.cells #[.func (.func 66) #[] #[], .func (.func 67) #[] #[]] 85)) X σ (Hst.out.alloc _) 1 (σ.op / 8 % 8) 1 w.heap.size [⟨66, #[], pE⟩, ⟨67, #[], pG⟩] (by decide) (Hst.out.fresh) (MapKept.heap_alloc w (.cells #[.func (.func 66) #[] #[], .func (.func 67) #[] #[]] 85)).1 (HP.out _)
  refine cI.mono ?_; rintro e w2 ⟨rfl, hd⟩
  have hk := ((Kp.alloc X.own _ _)).trans hd.2
  have hs9 := hd.1
  clear hd
  go_wp2
  go_end0
  exact ⟨rfl, hs9, hk⟩

set_option maxHeartbeats 4000000 in
theorem r00_5 : RuleOk 71 (fun X σ => isM X 1 (σ.op / 8 % 8) 1 [pA, pI] σ) := by
  intro w X σ h
  have f3 := h.f3
  have hF := h.ltF
  have hfre := h.fresh
  have Hst : Hid (St X w σ) := h
  have Hfre : Hid (¬ X.own w.heap.size) := hfre
  clear h hfre
  have HP : Hid (∀ W : World, ∀ p ∈ ([⟨72, #[], pA⟩, ⟨73, #[], pI⟩] : List Prt), PartOk X W p.n p.cap p.f 1) := by
    intro W p hp
    simp at hp
    rcases hp with rfl | rfl
    · exact okA (by decide)
    · exact okI (by decide)
  go_enter Tryz.func71, Tryz.ntmps71
  go_wp2_with fail
  refine (n_ok _ X σ Hst.out).mono ?_; rintro e w0 ⟨rfl, hw⟩; replace hw := hw.symm; subst hw
  go_wp2_with fail
  have cI := is_gen (w.alloc (.cells #[.func (.func 72) #[] #[], .func (.func 73) #[] #[]] 85)) X σ (Hst.out.alloc _) 1 (σ.op / 8 % 8) 1 w.heap.size [⟨72, #[], pA⟩, ⟨73, #[], pI⟩] (by decide) (Hst.out.fresh) (MapKept.heap_alloc w (.cells #[.func (.func 72) #[] #[], .func (.func 73) #[] #[]] 85)).1 (HP.out _)
  refine cI.mono ?_; rintro e w2 ⟨rfl, hd⟩
  have hk := ((Kp.alloc X.own _ _)).trans hd.2
  have hs9 := hd.1
  clear hd
  go_wp2
  go_end0
  exact ⟨rfl, hs9, hk⟩

set_option maxHeartbeats 4000000 in
theorem r00_9 : RuleOk 78 (fun X σ => isM X 12 0 σ.v [pSeg 2] σ) := by
  intro w X σ h
  have f3 := h.f3
  have hF := h.ltF
  have hfre := h.fresh
  have Hst : Hid (St X w σ) := h
  have Hfre : Hid (¬ X.own w.heap.size) := hfre
  clear h hfre
  have HP : Hid (∀ (W : World) (q : Nat), ¬ X.own q → W.cell? ⟨q, 0, none⟩ = some (.int .i64 2) → ∀ p ∈ ([⟨252, #[.pointer (some ⟨q, 0, none⟩)], pSeg 2⟩] : List Prt), PartOk X W p.n p.cap p.f σ.v) := by
    intro W q hq hc p hp
    simp at hp
    subst hp
    exact seg_ok hq hc
  go_enter Tryz.func78, Tryz.ntmps78
  have Hd0 : Hid (St X w.drew σ) := Hst.out.drewN 1
  have Kd0 : Hid (Kp X.own w w.drew) := (Kp.refl _ _).drewN 1
  have Hd2 : Hid (St X ((w.alloc (.cells #[.int .i64 2] 3)).alloc (.cells #[.func (.func 252) #[] #[.pointer (some ⟨w.heap.size, 0, none⟩)]] 85)).drew σ) := ((Hst.out.alloc _).alloc _).drewN 1
  have Kd2 : Hid (Kp X.own w ((w.alloc (.cells #[.int .i64 2] 3)).alloc (.cells #[.func (.func 252) #[] #[.pointer (some ⟨w.heap.size, 0, none⟩)]] 85)).drew) := ((Kp.alloc X.own w _).trans (Kp.alloc X.own _ _)).drewN 1
  have Hh2 : Hid (((w.alloc (.cells #[.int .i64 2] 3)).alloc (.cells #[.func (.func 252) #[] #[.pointer (some ⟨w.heap.size, 0, none⟩)]] 85)).drew.heap[w.heap.size + 1]? = some (.cells #[.func (.func 252) #[] #[.pointer (some ⟨w.heap.size, 0, none⟩)]] 85)) := heap2 w _ _
  have Hc2 : Hid (((w.alloc (.cells #[.int .i64 2] 3)).alloc (.cells #[.func (.func 252) #[] #[.pointer (some ⟨w.heap.size, 0, none⟩)]] 85)).drew.cell? ⟨w.heap.size, 0, none⟩ = some (.int .i64 2)) := cell_kept (cell_new w (.int .i64 2) 3) ((Kp.alloc X.own _ _).drewN 1) Hfre.out
  have Hf2 : Hid (¬ X.own (w.heap.size + 1)) := Hst.out.fresh1
  go_region_with (first
    | (go_at_call 76; refine (segment_ok _ _).mono ?_; rintro e w3 ⟨rfl, hw⟩; subst hw)
    | (go_at_call 64; have cI := is_gen ((w.alloc (.cells #[.int .i64 2] 3)).alloc (.cells #[.func (.func 252) #[] #[.pointer (some ⟨w.heap.size, 0, none⟩)]] 85)).drew X σ Hd2.out 12 0 σ.v (w.heap.size + 1) [⟨252, #[.pointer (some ⟨w.heap.size, 0, none⟩)], pSeg 2⟩] (by simp) Hf2.out Hh2.out (HP.out _ _ Hfre.out Hc2.out); refine cI.mono ?_; rintro e w2 ⟨rfl, hd⟩; have hk := Kd2.out.trans hd.2))
  all_goals
    have hs9 := hd.1
    clear hd
    go_wp2
    go_end0
    exact ⟨rfl, hs9, hk⟩

set_option maxHeartbeats 4000000 in
theorem r00_13 : RuleOk 82 (fun X σ => isM X 13 0 σ.v [pSeg 3] σ) := by
  intro w X σ h
  have f3 := h.f3
  have hF := h.ltF
  have hfre := h.fresh
  have Hst : Hid (St X w σ) := h
  have Hfre : Hid (¬ X.own w.heap.size) := hfre
  clear h hfre
  have HP : Hid (∀ (W : World) (q : Nat), ¬ X.own q → W.cell? ⟨q, 0, none⟩ = some (.int .i64 3) → ∀ p ∈ ([⟨252, #[.pointer (some ⟨q, 0, none⟩)], pSeg 3⟩] : List Prt), PartOk X W p.n p.cap p.f σ.v) := by
    intro W q hq hc p hp
    simp at hp
    subst hp
    exact seg_ok hq hc
  go_enter Tryz.func82, Tryz.ntmps82
  have Hd0 : Hid (St X w.drew σ) := Hst.out.drewN 1
  have Kd0 : Hid (Kp X.own w w.drew) := (Kp.refl _ _).drewN 1
  have Hd2 : Hid (St X ((w.alloc (.cells #[.int .i64 3] 3)).alloc (.cells #[.func (.func 252) #[] #[.pointer (some ⟨w.heap.size, 0, none⟩)]] 85)).drew σ) := ((Hst.out.alloc _).alloc _).drewN 1
  have Kd2 : Hid (Kp X.own w ((w.alloc (.cells #[.int .i64 3] 3)).alloc (.cells #[.func (.func 252) #[] #[.pointer (some ⟨w.heap.size, 0, none⟩)]] 85)).drew) := ((Kp.alloc X.own w _).trans (Kp.alloc X.own _ _)).drewN 1
  have Hh2 : Hid (((w.alloc (.cells #[.int .i64 3] 3)).alloc (.cells #[.func (.func 252) #[] #[.pointer (some ⟨w.heap.size, 0, none⟩)]] 85)).drew.heap[w.heap.size + 1]? = some (.cells #[.func (.func 252) #[] #[.pointer (some ⟨w.heap.size, 0, none⟩)]] 85)) := heap2 w _ _
  have Hc2 : Hid (((w.alloc (.cells #[.int .i64 3] 3)).alloc (.cells #[.func (.func 252) #[] #[.pointer (some ⟨w.heap.size, 0, none⟩)]] 85)).drew.cell? ⟨w.heap.size, 0, none⟩ = some (.int .i64 3)) := cell_kept (cell_new w (.int .i64 3) 3) ((Kp.alloc X.own _ _).drewN 1) Hfre.out
  have Hf2 : Hid (¬ X.own (w.heap.size + 1)) := Hst.out.fresh1
  go_region_with (first
    | (go_at_call 76; refine (segment_ok _ _).mono ?_; rintro e w3 ⟨rfl, hw⟩; subst hw)
    | (go_at_call 64; have cI := is_gen ((w.alloc (.cells #[.int .i64 3] 3)).alloc (.cells #[.func (.func 252) #[] #[.pointer (some ⟨w.heap.size, 0, none⟩)]] 85)).drew X σ Hd2.out 13 0 σ.v (w.heap.size + 1) [⟨252, #[.pointer (some ⟨w.heap.size, 0, none⟩)], pSeg 3⟩] (by simp) Hf2.out Hh2.out (HP.out _ _ Hfre.out Hc2.out); refine cI.mono ?_; rintro e w2 ⟨rfl, hd⟩; have hk := Kd2.out.trans hd.2))
  all_goals
    have hs9 := hd.1
    clear hd
    go_wp2
    go_end0
    exact ⟨rfl, hs9, hk⟩

set_option maxHeartbeats 4000000 in
theorem r00_17 : RuleOk 86 (fun X σ => isM X 7 3 1 [] σ) := by
  intro w X σ h
  have f3 := h.f3
  have hF := h.ltF
  have hfre := h.fresh
  have Hst : Hid (St X w σ) := h
  have Hfre : Hid (¬ X.own w.heap.size) := hfre
  clear h hfre
  go_enter Tryz.func86, Tryz.ntmps86
  go_wp2_with fail
  refine (is_nil _ X σ Hst.out 7 3 1).mono ?_; rintro e w2 ⟨rfl, hd⟩
  have hk := hd.2
  have hs9 := hd.1
  clear hd
  go_wp2
  go_end0
  exact ⟨rfl, hs9, hk⟩

set_option maxHeartbeats 4000000 in
theorem r40_4 : RuleOk 91 (fun X σ => isM X 13 0 σ.v [pR] σ) := by
  intro w X σ h
  have f3 := h.f3
  have hF := h.ltF
  have hfre := h.fresh
  have Hst : Hid (St X w σ) := h
  have Hfre : Hid (¬ X.own w.heap.size) := hfre
  clear h hfre
  have HP : Hid (∀ W : World, ∀ p ∈ ([⟨88, #[], pR⟩] : List Prt), PartOk X W p.n p.cap p.f σ.v) := by
    intro W p hp
    simp at hp
    subst hp
    exact okR Hst.out.vs
  go_enter Tryz.func91, Tryz.ntmps91
  go_wp2_with fail
  have cI := is_gen (w.alloc (.cells #[.func (.func 88) #[] #[]] 85)) X σ (Hst.out.alloc _) 13 0 σ.v w.heap.size [⟨88, #[], pR⟩] (by decide) (Hst.out.fresh) (MapKept.heap_alloc w (.cells #[.func (.func 88) #[] #[]] 85)).1 (HP.out _)
  refine cI.mono ?_; rintro e w2 ⟨rfl, hd⟩
  have hk := ((Kp.alloc X.own _ _)).trans hd.2
  have hs9 := hd.1
  clear hd
  go_wp2
  go_end0
  exact ⟨rfl, hs9, hk⟩

set_option maxHeartbeats 4000000 in
theorem r40_8 : RuleOk 95 (fun X σ => isM X 5 0 σ.v [pG, pE, pI] σ) := by
  intro w X σ h
  have f3 := h.f3
  have hF := h.ltF
  have hfre := h.fresh
  have Hst : Hid (St X w σ) := h
  have Hfre : Hid (¬ X.own w.heap.size) := hfre
  clear h hfre
  have HP : Hid (∀ W : World, ∀ p ∈ ([⟨67, #[], pG⟩, ⟨66, #[], pE⟩, ⟨73, #[], pI⟩] : List Prt), PartOk X W p.n p.cap p.f σ.v) := by
    intro W p hp
    simp at hp
    rcases hp with rfl | rfl | rfl
    · exact okG Hst.out.vs
    · exact okE Hst.out.vs
    · exact okI Hst.out.vs
  go_enter Tryz.func95, Tryz.ntmps95
  go_wp2_with fail
  have cI := is_gen (w.alloc (.cells #[.func (.func 67) #[] #[], .func (.func 66) #[] #[], .func (.func 73) #[] #[]] 85)) X σ (Hst.out.alloc _) 5 0 σ.v w.heap.size [⟨67, #[], pG⟩, ⟨66, #[], pE⟩, ⟨73, #[], pI⟩] (by decide) (Hst.out.fresh) (MapKept.heap_alloc w (.cells #[.func (.func 67) #[] #[], .func (.func 66) #[] #[], .func (.func 73) #[] #[]] 85)).1 (HP.out _)
  refine cI.mono ?_; rintro e w2 ⟨rfl, hd⟩
  have hk := ((Kp.alloc X.own _ _)).trans hd.2
  have hs9 := hd.1
  clear hd
  go_wp2
  go_end0
  exact ⟨rfl, hs9, hk⟩

set_option maxHeartbeats 4000000 in
theorem r80_1 : RuleOk 102 (fun X σ => isM X 1 (modrm X σ).1.2.1 1 [pE, pI] (modrm X σ).2) := by
  intro w X σ h
  have f3 := h.f3
  have hF := h.ltF
  have hfre := h.fresh
  have cM := fun W (hW : St X W σ) => modrm_ok W X σ hW
  have hv1 := modrm_v X σ
  have hbd := modrm_bd h
  obtain ⟨⟨m, n, r⟩, hm⟩ : ∃ x, x = (modrm X σ).1 := ⟨_, rfl⟩
  obtain ⟨σ1, hσ1⟩ : ∃ σ1, σ1 = (modrm X σ).2 := ⟨_, rfl⟩
  obtain ⟨V, hV⟩ : ∃ V, V = isM X 1 n 1 [pE, pI] σ1 := ⟨_, rfl⟩
  show Calls _ _ _ _ fun e w' => _ ∧ Done X w (isM X 1 (modrm X σ).1.2.1 1 [pE, pI] (modrm X σ).2) w'
  rw [show isM X 1 (modrm X σ).1.2.1 1 [pE, pI] (modrm X σ).2 = V by rw [hV, hσ1, ← hm]]
  simp only [← hm, ← hσ1, mrV] at cM hv1 hbd
  obtain ⟨_, ⟨n0, n1⟩, _⟩ := hbd
  have fl1 := fld1
  have HV : Hid (V = isM X 1 n 1 [pE, pI] σ1) := hV
  have Hv1 : Hid (σ1.v = σ.v) := hv1
  have HM : Hid _ := cM
  clear hm hσ1 hV hv1 cM
  have Hst : Hid (St X w σ) := h
  have Hfre : Hid (¬ X.own w.heap.size) := hfre
  clear h hfre
  have HP : Hid (∀ W : World, ∀ p ∈ ([⟨66, #[], pE⟩, ⟨73, #[], pI⟩] : List Prt), PartOk X W p.n p.cap p.f 1) := by
    intro W p hp
    simp at hp
    rcases hp with rfl | rfl
    · exact okE (by decide)
    · exact okI (by decide)
  go_enter Tryz.func102, Tryz.ntmps102
  go_wp2_with fail
  refine (HM.out _ Hst.out).mono ?_; rintro e w1 ⟨rfl, h1, k1⟩
  go_wp2_with fail
  have cI := is_gen (w1.alloc (.cells #[.func (.func 66) #[] #[], .func (.func 73) #[] #[]] 85)) X σ1 (h1.alloc _) 1 n 1 w1.heap.size [⟨66, #[], pE⟩, ⟨73, #[], pI⟩] (by decide) (h1.fresh) (MapKept.heap_alloc w1 (.cells #[.func (.func 66) #[] #[], .func (.func 73) #[] #[]] 85)).1 (HP.out _)
  refine cI.mono ?_; rintro e w2 ⟨rfl, hd⟩
  have hk := ((k1).trans (Kp.alloc X.own _ _)).trans hd.2
  have hs9 := hd.1
  clear hd
  go_wp2
  go_end0
  rw [HV.out]
  exact ⟨rfl, hs9, hk⟩

set_option maxHeartbeats 4000000 in
theorem r80_5 : RuleOk 107 (fun X σ => isM X 1 8 σ.v [pE, pG] σ) := by
  intro w X σ h
  have f3 := h.f3
  have hF := h.ltF
  have hfre := h.fresh
  have Hst : Hid (St X w σ) := h
  have Hfre : Hid (¬ X.own w.heap.size) := hfre
  clear h hfre
  have HP : Hid (∀ W : World, ∀ p ∈ ([⟨66, #[], pE⟩, ⟨67, #[], pG⟩] : List Prt), PartOk X W p.n p.cap p.f σ.v) := by
    intro W p hp
    simp at hp
    rcases hp with rfl | rfl
    · exact okE Hst.out.vs
    · exact okG Hst.out.vs
  go_enter Tryz.func107, Tryz.ntmps107
  go_wp2_with fail
  have cI := is_gen (w.alloc (.cells #[.func (.func 66) #[] #[], .func (.func 67) #[] #[]] 85)) X σ (Hst.out.alloc _) 1 8 σ.v w.heap.size [⟨66, #[], pE⟩, ⟨67, #[], pG⟩] (by decide) (Hst.out.fresh) (MapKept.heap_alloc w (.cells #[.func (.func 66) #[] #[], .func (.func 67) #[] #[]] 85)).1 (HP.out _)
  refine cI.mono ?_; rintro e w2 ⟨rfl, hd⟩
  have hk := ((Kp.alloc X.own _ _)).trans hd.2
  have hs9 := hd.1
  clear hd
  go_wp2
  go_end0
  exact ⟨rfl, hs9, hk⟩

set_option maxHeartbeats 4000000 in
theorem r80_9 : RuleOk 111 (fun X σ => isM X 8 0 σ.v [pE, pG] σ) := by
  intro w X σ h
  have f3 := h.f3
  have hF := h.ltF
  have hfre := h.fresh
  have Hst : Hid (St X w σ) := h
  have Hfre : Hid (¬ X.own w.heap.size) := hfre
  clear h hfre
  have HP : Hid (∀ W : World, ∀ p ∈ ([⟨66, #[], pE⟩, ⟨67, #[], pG⟩] : List Prt), PartOk X W p.n p.cap p.f σ.v) := by
    intro W p hp
    simp at hp
    rcases hp with rfl | rfl
    · exact okE Hst.out.vs
    · exact okG Hst.out.vs
  go_enter Tryz.func111, Tryz.ntmps111
  go_wp2_with fail
  have cI := is_gen (w.alloc (.cells #[.func (.func 66) #[] #[], .func (.func 67) #[] #[]] 85)) X σ (Hst.out.alloc _) 8 0 σ.v w.heap.size [⟨66, #[], pE⟩, ⟨67, #[], pG⟩] (by decide) (Hst.out.fresh) (MapKept.heap_alloc w (.cells #[.func (.func 66) #[] #[], .func (.func 67) #[] #[]] 85)).1 (HP.out _)
  refine cI.mono ?_; rintro e w2 ⟨rfl, hd⟩
  have hk := ((Kp.alloc X.own _ _)).trans hd.2
  have hs9 := hd.1
  clear hd
  go_wp2
  go_end0
  exact ⟨rfl, hs9, hk⟩

set_option maxHeartbeats 4000000 in
theorem r80_13 : RuleOk 119 (fun X σ => isM X 10 0 σ.v [pR, pA] σ) := by
  intro w X σ h
  have f3 := h.f3
  have hF := h.ltF
  have hfre := h.fresh
  have Hst : Hid (St X w σ) := h
  have Hfre : Hid (¬ X.own w.heap.size) := hfre
  clear h hfre
  have HP : Hid (∀ W : World, ∀ p ∈ ([⟨88, #[], pR⟩, ⟨72, #[], pA⟩] : List Prt), PartOk X W p.n p.cap p.f σ.v) := by
    intro W p hp
    simp at hp
    rcases hp with rfl | rfl
    · exact okR Hst.out.vs
    · exact okA Hst.out.vs
  go_enter Tryz.func119, Tryz.ntmps119
  go_wp2_with fail
  have cI := is_gen (w.alloc (.cells #[.func (.func 88) #[] #[], .func (.func 72) #[] #[]] 85)) X σ (Hst.out.alloc _) 10 0 σ.v w.heap.size [⟨88, #[], pR⟩, ⟨72, #[], pA⟩] (by decide) (Hst.out.fresh) (MapKept.heap_alloc w (.cells #[.func (.func 88) #[] #[], .func (.func 72) #[] #[]] 85)).1 (HP.out _)
  refine cI.mono ?_; rintro e w2 ⟨rfl, hd⟩
  have hk := ((Kp.alloc X.own _ _)).trans hd.2
  have hs9 := hd.1
  clear hd
  go_wp2
  go_end0
  exact ⟨rfl, hs9, hk⟩

set_option maxHeartbeats 4000000 in
theorem r80_17 : RuleOk 123 (fun X σ => isM X 17 0 σ.v [] σ) := by
  intro w X σ h
  have f3 := h.f3
  have hF := h.ltF
  have hfre := h.fresh
  have Hst : Hid (St X w σ) := h
  have Hfre : Hid (¬ X.own w.heap.size) := hfre
  clear h hfre
  go_enter Tryz.func123, Tryz.ntmps123
  go_wp2_with fail
  refine (is_nil _ X σ Hst.out 17 0 σ.v).mono ?_; rintro e w2 ⟨rfl, hd⟩
  have hk := hd.2
  have hs9 := hd.1
  clear hd
  go_wp2
  go_end0
  exact ⟨rfl, hs9, hk⟩

set_option maxHeartbeats 4000000 in
theorem rA0_1 : RuleOk 127 (fun X σ => isM X 8 0 1 [pA, pO] σ) := by
  intro w X σ h
  have f3 := h.f3
  have hF := h.ltF
  have hfre := h.fresh
  have Hst : Hid (St X w σ) := h
  have Hfre : Hid (¬ X.own w.heap.size) := hfre
  clear h hfre
  have HP : Hid (∀ W : World, ∀ p ∈ ([⟨72, #[], pA⟩, ⟨128, #[], pO⟩] : List Prt), PartOk X W p.n p.cap p.f 1) := by
    intro W p hp
    simp at hp
    rcases hp with rfl | rfl
    · exact okA (by decide)
    · exact okO (by decide)
  go_enter Tryz.func127, Tryz.ntmps127
  go_wp2_with fail
  have cI := is_gen (w.alloc (.cells #[.func (.func 72) #[] #[], .func (.func 128) #[] #[]] 85)) X σ (Hst.out.alloc _) 8 0 1 w.heap.size [⟨72, #[], pA⟩, ⟨128, #[], pO⟩] (by decide) (Hst.out.fresh) (MapKept.heap_alloc w (.cells #[.func (.func 72) #[] #[], .func (.func 128) #[] #[]] 85)).1 (HP.out _)
  refine cI.mono ?_; rintro e w2 ⟨rfl, hd⟩
  have hk := ((Kp.alloc X.own _ _)).trans hd.2
  have hs9 := hd.1
  clear hd
  go_wp2
  go_end0
  exact ⟨rfl, hs9, hk⟩

theorem rA0_5 : RuleOk 132 (fun X σ => isStr X 0 1 σ) := by
  intro w X σ h
  have f3 := h.f3
  have c := isString_ok w X σ h 0 1 (by decide)
  clear h
  go_enter Tryz.func132, Tryz.ntmps132
  go_wp2_with fail
  refine c.mono ?_; rintro e w1 ⟨rfl, hd⟩
  go_wp2
  go_end0
  exact ⟨rfl, hd⟩

set_option maxHeartbeats 4000000 in
theorem rA0_9 : RuleOk 137 (fun X σ => isM X 1 8 1 [pA, pI] σ) := by
  intro w X σ h
  have f3 := h.f3
  have hF := h.ltF
  have hfre := h.fresh
  have Hst : Hid (St X w σ) := h
  have Hfre : Hid (¬ X.own w.heap.size) := hfre
  clear h hfre
  have HP : Hid (∀ W : World, ∀ p ∈ ([⟨72, #[], pA⟩, ⟨73, #[], pI⟩] : List Prt), PartOk X W p.n p.cap p.f 1) := by
    intro W p hp
    simp at hp
    rcases hp with rfl | rfl
    · exact okA (by decide)
    · exact okI (by decide)
  go_enter Tryz.func137, Tryz.ntmps137
  go_wp2_with fail
  have cI := is_gen (w.alloc (.cells #[.func (.func 72) #[] #[], .func (.func 73) #[] #[]] 85)) X σ (Hst.out.alloc _) 1 8 1 w.heap.size [⟨72, #[], pA⟩, ⟨73, #[], pI⟩] (by decide) (Hst.out.fresh) (MapKept.heap_alloc w (.cells #[.func (.func 72) #[] #[], .func (.func 73) #[] #[]] 85)).1 (HP.out _)
  refine cI.mono ?_; rintro e w2 ⟨rfl, hd⟩
  have hk := ((Kp.alloc X.own _ _)).trans hd.2
  have hs9 := hd.1
  clear hd
  go_wp2
  go_end0
  exact ⟨rfl, hs9, hk⟩

theorem rA0_13 : RuleOk 141 (fun X σ => isStr X 3 1 σ) := by
  intro w X σ h
  have f3 := h.f3
  have c := isString_ok w X σ h 3 1 (by decide)
  clear h
  go_enter Tryz.func141, Tryz.ntmps141
  go_wp2_with fail
  refine c.mono ?_; rintro e w1 ⟨rfl, hd⟩
  go_wp2
  go_end0
  exact ⟨rfl, hd⟩

set_option maxHeartbeats 4000000 in
theorem rA0_17 : RuleOk 145 (fun X σ => isM X 8 0 1 [pR, pI] σ) := by
  intro w X σ h
  have f3 := h.f3
  have hF := h.ltF
  have hfre := h.fresh
  have Hst : Hid (St X w σ) := h
  have Hfre : Hid (¬ X.own w.heap.size) := hfre
  clear h hfre
  have HP : Hid (∀ W : World, ∀ p ∈ ([⟨88, #[], pR⟩, ⟨73, #[], pI⟩] : List Prt), PartOk X W p.n p.cap p.f 1) := by
    intro W p hp
    simp at hp
    rcases hp with rfl | rfl
    · exact okR (by decide)
    · exact okI (by decide)
  go_enter Tryz.func145, Tryz.ntmps145
  go_wp2_with fail
  have cI := is_gen (w.alloc (.cells #[.func (.func 88) #[] #[], .func (.func 73) #[] #[]] 85)) X σ (Hst.out.alloc _) 8 0 1 w.heap.size [⟨88, #[], pR⟩, ⟨73, #[], pI⟩] (by decide) (Hst.out.fresh) (MapKept.heap_alloc w (.cells #[.func (.func 88) #[] #[], .func (.func 73) #[] #[]] 85)).1 (HP.out _)
  refine cI.mono ?_; rintro e w2 ⟨rfl, hd⟩
  have hk := ((Kp.alloc X.own _ _)).trans hd.2
  have hs9 := hd.1
  clear hd
  go_wp2
  go_end0
  exact ⟨rfl, hs9, hk⟩

set_option maxHeartbeats 4000000 in
theorem rC0_3 : RuleOk 150 (fun X σ => isM X 30 0 σ.v [pIw] σ) := by
  intro w X σ h
  have f3 := h.f3
  have hF := h.ltF
  have hfre := h.fresh
  have Hst : Hid (St X w σ) := h
  have Hfre : Hid (¬ X.own w.heap.size) := hfre
  clear h hfre
  have HP : Hid (∀ W : World, ∀ p ∈ ([⟨151, #[], pIw⟩] : List Prt), PartOk X W p.n p.cap p.f σ.v) := by
    intro W p hp
    simp at hp
    subst hp
    exact okIw Hst.out.vs
  go_enter Tryz.func150, Tryz.ntmps150
  go_wp2_with fail
  have cI := is_gen (w.alloc (.cells #[.func (.func 151) #[] #[]] 85)) X σ (Hst.out.alloc _) 30 0 σ.v w.heap.size [⟨151, #[], pIw⟩] (by decide) (Hst.out.fresh) (MapKept.heap_alloc w (.cells #[.func (.func 151) #[] #[]] 85)).1 (HP.out _)
  refine cI.mono ?_; rintro e w2 ⟨rfl, hd⟩
  have hk := ((Kp.alloc X.own _ _)).trans hd.2
  have hs9 := hd.1
  clear hd
  go_wp2
  go_end0
  exact ⟨rfl, hs9, hk⟩

set_option maxHeartbeats 4000000 in
theorem rC0_7 : RuleOk 156 (fun X σ => isM X 35 0 σ.v [] σ) := by
  intro w X σ h
  have f3 := h.f3
  have hF := h.ltF
  have hfre := h.fresh
  have Hst : Hid (St X w σ) := h
  have Hfre : Hid (¬ X.own w.heap.size) := hfre
  clear h hfre
  go_enter Tryz.func156, Tryz.ntmps156
  go_wp2_with fail
  refine (is_nil _ X σ Hst.out 35 0 σ.v).mono ?_; rintro e w2 ⟨rfl, hd⟩
  have hk := hd.2
  have hs9 := hd.1
  clear hd
  go_wp2
  go_end0
  exact ⟨rfl, hs9, hk⟩

set_option maxHeartbeats 4000000 in
theorem rC0_11 : RuleOk 160 (fun X σ => isM X 33 0 σ.v [] σ) := by
  intro w X σ h
  have f3 := h.f3
  have hF := h.ltF
  have hfre := h.fresh
  have Hst : Hid (St X w σ) := h
  have Hfre : Hid (¬ X.own w.heap.size) := hfre
  clear h hfre
  go_enter Tryz.func160, Tryz.ntmps160
  go_wp2_with fail
  refine (is_nil _ X σ Hst.out 33 0 σ.v).mono ?_; rintro e w2 ⟨rfl, hd⟩
  have hk := hd.2
  have hs9 := hd.1
  clear hd
  go_wp2
  go_end0
  exact ⟨rfl, hs9, hk⟩

set_option maxHeartbeats 4000000 in
theorem rC0_15 : RuleOk 165 (fun X σ => isM X 2 (modrm X σ).1.2.1 σ.v [pE, pCL] (modrm X σ).2) := by
  intro w X σ h
  have f3 := h.f3
  have hF := h.ltF
  have hfre := h.fresh
  have cM := fun W (hW : St X W σ) => modrm_ok W X σ hW
  have hv1 := modrm_v X σ
  have hbd := modrm_bd h
  obtain ⟨⟨m, n, r⟩, hm⟩ : ∃ x, x = (modrm X σ).1 := ⟨_, rfl⟩
  obtain ⟨σ1, hσ1⟩ : ∃ σ1, σ1 = (modrm X σ).2 := ⟨_, rfl⟩
  obtain ⟨V, hV⟩ : ∃ V, V = isM X 2 n σ.v [pE, pCL] σ1 := ⟨_, rfl⟩
  show Calls _ _ _ _ fun e w' => _ ∧ Done X w (isM X 2 (modrm X σ).1.2.1 σ.v [pE, pCL] (modrm X σ).2) w'
  rw [show isM X 2 (modrm X σ).1.2.1 σ.v [pE, pCL] (modrm X σ).2 = V by rw [hV, hσ1, ← hm]]
  simp only [← hm, ← hσ1, mrV] at cM hv1 hbd
  obtain ⟨_, ⟨n0, n1⟩, _⟩ := hbd
  have fl1 := fld1
  have HV : Hid (V = isM X 2 n σ.v [pE, pCL] σ1) := hV
  have Hv1 : Hid (σ1.v = σ.v) := hv1
  have HM : Hid _ := cM
  clear hm hσ1 hV hv1 cM
  have Hst : Hid (St X w σ) := h
  have Hfre : Hid (¬ X.own w.heap.size) := hfre
  clear h hfre
  have HP : Hid (∀ W : World, ∀ p ∈ ([⟨66, #[], pE⟩, ⟨164, #[], pCL⟩] : List Prt), PartOk X W p.n p.cap p.f σ.v) := by
    intro W p hp
    simp at hp
    rcases hp with rfl | rfl
    · exact okE Hst.out.vs
    · exact okCL Hst.out.vs
  go_enter Tryz.func165, Tryz.ntmps165
  have Hd0 : Hid (St X w.drew σ) := Hst.out.drewN 1
  have Kd0 : Hid (Kp X.own w w.drew) := (Kp.refl _ _).drewN 1
  have Hd1 : Hid (St X (w.alloc (.cells #[.func (.func 66) #[] #[], .func (.func 164) #[] #[]] 85)).drew σ) := (Hst.out.alloc _).drewN 1
  have Kd1 : Hid (Kp X.own w (w.alloc (.cells #[.func (.func 66) #[] #[], .func (.func 164) #[] #[]] 85)).drew) := (Kp.alloc _ _ _).drewN 1
  have Hh1 : Hid ((w.alloc (.cells #[.func (.func 66) #[] #[], .func (.func 164) #[] #[]] 85)).drew.heap[w.heap.size]? = some (.cells #[.func (.func 66) #[] #[], .func (.func 164) #[] #[]] 85)) := (MapKept.heap_alloc w _).1
  go_region_with (first
    | (go_at_call 103; refine Calls.mono (HM.out _ ?_) ?_; (first | exact Hd0.out | exact Hd1.out); rintro e w1 ⟨rfl, h1, k1⟩; have g3 : w1.cell? ⟨X.F, 3, none⟩ = some (.int .i64 σ.v) := (by rw [← Hv1.out]; exact h1.f3); have gF := h1.ltF; (try have hsl := heap_kept Hh1.out k1 Hfre.out))
    | (go_at_call 64; first | (have cI := is_gen w1 X σ1 h1 2 n σ.v w.heap.size [⟨66, #[], pE⟩, ⟨164, #[], pCL⟩] (by decide) Hfre.out hsl (HP.out _); refine cI.mono ?_; rintro e w2 ⟨rfl, hd⟩; have hk := (Kd1.out.trans k1).trans hd.2) | (have cI := is_gen (w1.alloc (.cells #[.func (.func 66) #[] #[], .func (.func 164) #[] #[]] 85)) X σ1 (h1.alloc _) 2 n σ.v w1.heap.size [⟨66, #[], pE⟩, ⟨164, #[], pCL⟩] (by decide) h1.fresh (MapKept.heap_alloc w1 (.cells #[.func (.func 66) #[] #[], .func (.func 164) #[] #[]] 85)).1 (HP.out _); refine cI.mono ?_; rintro e w2 ⟨rfl, hd⟩; have hk := ((Kd0.out.trans k1).trans (Kp.alloc X.own w1 _)).trans hd.2)))
  all_goals
    have hs9 := hd.1
    clear hd
    go_wp2
    go_end0
    rw [HV.out]
    exact ⟨rfl, hs9, hk⟩

set_option maxHeartbeats 4000000 in
theorem rE0_2 : RuleOk 169 (fun X σ => isM X 31 1 σ.v [pJb] σ) := by
  intro w X σ h
  have f3 := h.f3
  have hF := h.ltF
  have hfre := h.fresh
  have Hst : Hid (St X w σ) := h
  have Hfre : Hid (¬ X.own w.heap.size) := hfre
  clear h hfre
  have HP : Hid (∀ W : World, ∀ p ∈ ([⟨101, #[], pJb⟩] : List Prt), PartOk X W p.n p.cap p.f σ.v) := by
    intro W p hp
    simp at hp
    subst hp
    exact okJb Hst.out.vs
  go_enter Tryz.func169, Tryz.ntmps169
  go_wp2_with fail
  have cI := is_gen (w.alloc (.cells #[.func (.func 101) #[] #[]] 85)) X σ (Hst.out.alloc _) 31 1 σ.v w.heap.size [⟨101, #[], pJb⟩] (by decide) (Hst.out.fresh) (MapKept.heap_alloc w (.cells #[.func (.func 101) #[] #[]] 85)).1 (HP.out _)
  refine cI.mono ?_; rintro e w2 ⟨rfl, hd⟩
  have hk := ((Kp.alloc X.own _ _)).trans hd.2
  have hs9 := hd.1
  clear hd
  go_wp2
  go_end0
  exact ⟨rfl, hs9, hk⟩

set_option maxHeartbeats 4000000 in
theorem rE0_6 : RuleOk 173 (fun X σ => isM X 37 0 σ.v [pA, pIb] σ) := by
  intro w X σ h
  have f3 := h.f3
  have hF := h.ltF
  have hfre := h.fresh
  have Hst : Hid (St X w σ) := h
  have Hfre : Hid (¬ X.own w.heap.size) := hfre
  clear h hfre
  have HP : Hid (∀ W : World, ∀ p ∈ ([⟨72, #[], pA⟩, ⟨148, #[], pIb⟩] : List Prt), PartOk X W p.n p.cap p.f σ.v) := by
    intro W p hp
    simp at hp
    rcases hp with rfl | rfl
    · exact okA Hst.out.vs
    · exact okIb Hst.out.vs
  go_enter Tryz.func173, Tryz.ntmps173
  go_wp2_with fail
  have cI := is_gen (w.alloc (.cells #[.func (.func 72) #[] #[], .func (.func 148) #[] #[]] 85)) X σ (Hst.out.alloc _) 37 0 σ.v w.heap.size [⟨72, #[], pA⟩, ⟨148, #[], pIb⟩] (by decide) (Hst.out.fresh) (MapKept.heap_alloc w (.cells #[.func (.func 72) #[] #[], .func (.func 148) #[] #[]] 85)).1 (HP.out _)
  refine cI.mono ?_; rintro e w2 ⟨rfl, hd⟩
  have hk := ((Kp.alloc X.own _ _)).trans hd.2
  have hs9 := hd.1
  clear hd
  go_wp2
  go_end0
  exact ⟨rfl, hs9, hk⟩

set_option maxHeartbeats 4000000 in
theorem rE0_10 : RuleOk 178 (fun X σ => isM X 27 0 σ.v [pJ] σ) := by
  intro w X σ h
  have f3 := h.f3
  have hF := h.ltF
  have hfre := h.fresh
  have Hst : Hid (St X w σ) := h
  have Hfre : Hid (¬ X.own w.heap.size) := hfre
  clear h hfre
  have HP : Hid (∀ W : World, ∀ p ∈ ([⟨177, #[], pJ⟩] : List Prt), PartOk X W p.n p.cap p.f σ.v) := by
    intro W p hp
    simp at hp
    subst hp
    exact okJ Hst.out.vs
  go_enter Tryz.func178, Tryz.ntmps178
  go_wp2_with fail
  have cI := is_gen (w.alloc (.cells #[.func (.func 177) #[] #[]] 85)) X σ (Hst.out.alloc _) 27 0 σ.v w.heap.size [⟨177, #[], pJ⟩] (by decide) (Hst.out.fresh) (MapKept.heap_alloc w (.cells #[.func (.func 177) #[] #[]] 85)).1 (HP.out _)
  refine cI.mono ?_; rintro e w2 ⟨rfl, hd⟩
  have hk := ((Kp.alloc X.own _ _)).trans hd.2
  have hs9 := hd.1
  clear hd
  go_wp2
  go_end0
  exact ⟨rfl, hs9, hk⟩

set_option maxHeartbeats 4000000 in
theorem rE0_14 : RuleOk 184 (fun X σ => isM X 37 0 σ.v [pA, pDX] σ) := by
  intro w X σ h
  have f3 := h.f3
  have hF := h.ltF
  have hfre := h.fresh
  have Hst : Hid (St X w σ) := h
  have Hfre : Hid (¬ X.own w.heap.size) := hfre
  clear h hfre
  have HP : Hid (∀ W : World, ∀ p ∈ ([⟨72, #[], pA⟩, ⟨183, #[], pDX⟩] : List Prt), PartOk X W p.n p.cap p.f σ.v) := by
    intro W p hp
    simp at hp
    rcases hp with rfl | rfl
    · exact okA Hst.out.vs
    · exact okDX Hst.out.vs
  go_enter Tryz.func184, Tryz.ntmps184
  go_wp2_with fail
  have cI := is_gen (w.alloc (.cells #[.func (.func 72) #[] #[], .func (.func 183) #[] #[]] 85)) X σ (Hst.out.alloc _) 37 0 σ.v w.heap.size [⟨72, #[], pA⟩, ⟨183, #[], pDX⟩] (by decide) (Hst.out.fresh) (MapKept.heap_alloc w (.cells #[.func (.func 72) #[] #[], .func (.func 183) #[] #[]] 85)).1 (HP.out _)
  refine cI.mono ?_; rintro e w2 ⟨rfl, hd⟩
  have hk := ((Kp.alloc X.own _ _)).trans hd.2
  have hs9 := hd.1
  clear hd
  go_wp2
  go_end0
  exact ⟨rfl, hs9, hk⟩

set_option maxHeartbeats 4000000 in
theorem rE0_18 : RuleOk 188 (fun X σ => isM X 39 2 4 [] σ) := by
  intro w X σ h
  have f3 := h.f3
  have hF := h.ltF
  have hfre := h.fresh
  have Hst : Hid (St X w σ) := h
  have Hfre : Hid (¬ X.own w.heap.size) := hfre
  clear h hfre
  go_enter Tryz.func188, Tryz.ntmps188
  go_wp2_with fail
  refine (is_nil _ X σ Hst.out 39 2 4).mono ?_; rintro e w2 ⟨rfl, hd⟩
  have hk := hd.2
  have hs9 := hd.1
  clear hd
  go_wp2
  go_end0
  exact ⟨rfl, hs9, hk⟩

set_option maxHeartbeats 4000000 in
theorem rE0_24 : RuleOk 195 (fun X σ => isM X 39 6 4 [] σ) := by
  intro w X σ h
  have f3 := h.f3
  have hF := h.ltF
  have hfre := h.fresh
  have Hst : Hid (St X w σ) := h
  have Hfre : Hid (¬ X.own w.heap.size) := hfre
  clear h hfre
  go_enter Tryz.func195, Tryz.ntmps195
  go_wp2_with fail
  refine (is_nil _ X σ Hst.out 39 6 4).mono ?_; rintro e w2 ⟨rfl, hd⟩
  have hk := hd.2
  have hs9 := hd.1
  clear hd
  go_wp2
  go_end0
  exact ⟨rfl, hs9, hk⟩

set_option maxHeartbeats 4000000 in
theorem r0F_1 : RuleOk 200 (fun X σ => isM X 44 0 2 [pE] (onlyM X [3] σ)) := by
  intro w X σ h
  have hfre := h.fresh
  have h0 : St X (w.alloc (.cells #[.int .i64 3] 3)) σ := h.alloc _
  have hn0 := (MapKept.heap_alloc w (.cells #[.int .i64 3] 3)).1
  have cO := only_ok _ X σ h0 w.heap.size 1 [3] rfl (by decide) hfre (fun j hj => by
    rcases (by omega : j = 0) with rfl <;> (unfold World.cell?; rw [hn0]; rfl))
  obtain ⟨σa, hσa⟩ : ∃ σa, σa = onlyM X [3] σ := ⟨_, rfl⟩
  show Calls _ _ _ _ fun e w' => _ ∧ Done X w (isM X 44 0 2 [pE] (onlyM X [3] σ)) w'
  rw [← hσa] at cO ⊢
  clear hσa h h0 hn0
  go_enter Tryz.func200, Tryz.ntmps200
  go_wp2_with fail
  refine cO.mono ?_; rintro e wa ⟨rfl, h, ka⟩
  replace ka := (Kp.alloc X.own w _).trans ka
  clear cO hfre
  have f3 := h.f3
  have hF := h.ltF
  have hfre := h.fresh
  have Hst : Hid (St X wa σa) := h
  have Hfre : Hid (¬ X.own wa.heap.size) := hfre
  clear h hfre
  have HP : Hid (∀ W : World, ∀ p ∈ ([⟨66, #[], pE⟩] : List Prt), PartOk X W p.n p.cap p.f 2) := by
    intro W p hp
    simp at hp
    subst hp
    exact okE (by decide)
  go_wp2_with fail
  have cI := is_gen (wa.alloc (.cells #[.func (.func 66) #[] #[]] 85)) X σa (Hst.out.alloc _) 44 0 2 wa.heap.size [⟨66, #[], pE⟩] (by decide) (Hst.out.fresh) (MapKept.heap_alloc wa (.cells #[.func (.func 66) #[] #[]] 85)).1 (HP.out _)
  refine cI.mono ?_; rintro e w2 ⟨rfl, hd⟩
  have hk := ((ka).trans (Kp.alloc X.own _ _)).trans hd.2
  have hs9 := hd.1
  clear hd
  go_wp2
  go_end0
  exact ⟨rfl, hs9, hk⟩

set_option maxHeartbeats 4000000 in
theorem r0F_5 : RuleOk 207 (fun X σ => isM X 26 (σ.op % 16) σ.v [pG, pE] σ) := by
  intro w X σ h
  have f3 := h.f3
  have hF := h.ltF
  have hfre := h.fresh
  have Hst : Hid (St X w σ) := h
  have Hfre : Hid (¬ X.own w.heap.size) := hfre
  clear h hfre
  have HP : Hid (∀ W : World, ∀ p ∈ ([⟨67, #[], pG⟩, ⟨66, #[], pE⟩] : List Prt), PartOk X W p.n p.cap p.f σ.v) := by
    intro W p hp
    simp at hp
    rcases hp with rfl | rfl
    · exact okG Hst.out.vs
    · exact okE Hst.out.vs
  go_enter Tryz.func207, Tryz.ntmps207
  have Hd0 : Hid (St X w.drew σ) := Hst.out.drewN 1
  have Kd0 : Hid (Kp X.own w w.drew) := (Kp.refl _ _).drewN 1
  have Hd1 : Hid (St X (w.alloc (.cells #[.func (.func 67) #[] #[], .func (.func 66) #[] #[]] 85)).drew σ) := (Hst.out.alloc _).drewN 1
  have Kd1 : Hid (Kp X.own w (w.alloc (.cells #[.func (.func 67) #[] #[], .func (.func 66) #[] #[]] 85)).drew) := (Kp.alloc _ _ _).drewN 1
  have Hh1 : Hid ((w.alloc (.cells #[.func (.func 67) #[] #[], .func (.func 66) #[] #[]] 85)).drew.heap[w.heap.size]? = some (.cells #[.func (.func 67) #[] #[], .func (.func 66) #[] #[]] 85)) := (MapKept.heap_alloc w _).1
  go_region_with (first
    | (go_at_call 100; refine Calls.mono (c_ok _ X σ ?_) ?_; (first | exact Hd0.out | exact Hd1.out); rintro e w0 ⟨rfl, hw⟩; subst hw)
    | (go_at_call 64; have cI := is_gen (w.alloc (.cells #[.func (.func 67) #[] #[], .func (.func 66) #[] #[]] 85)).drew X σ Hd1.out 26 (σ.op % 16) σ.v w.heap.size [⟨67, #[], pG⟩, ⟨66, #[], pE⟩] (by decide) Hfre.out Hh1.out (HP.out _); refine cI.mono ?_; rintro e w2 ⟨rfl, hd⟩; have hk := Kd1.out.trans hd.2))
  all_goals
    have hs9 := hd.1
    clear hd
    go_wp2
    go_end0
    exact ⟨rfl, hs9, hk⟩

set_option maxHeartbeats 4000000 in
theorem r0F_9 : RuleOk 211 (fun X σ => isM X 13 0 σ.v [pSeg 4] σ) := by
  intro w X σ h
  have f3 := h.f3
  have hF := h.ltF
  have hfre := h.fresh
  have Hst : Hid (St X w σ) := h
  have Hfre : Hid (¬ X.own w.heap.size) := hfre
  clear h hfre
  have HP : Hid (∀ (W : World) (q : Nat), ¬ X.own q → W.cell? ⟨q, 0, none⟩ = some (.int .i64 4) → ∀ p ∈ ([⟨252, #[.pointer (some ⟨q, 0, none⟩)], pSeg 4⟩] : List Prt), PartOk X W p.n p.cap p.f σ.v) := by
    intro W q hq hc p hp
    simp at hp
    subst hp
    exact seg_ok hq hc
  go_enter Tryz.func211, Tryz.ntmps211
  have Hd0 : Hid (St X w.drew σ) := Hst.out.drewN 1
  have Kd0 : Hid (Kp X.own w w.drew) := (Kp.refl _ _).drewN 1
  have Hd2 : Hid (St X ((w.alloc (.cells #[.int .i64 4] 3)).alloc (.cells #[.func (.func 252) #[] #[.pointer (some ⟨w.heap.size, 0, none⟩)]] 85)).drew σ) := ((Hst.out.alloc _).alloc _).drewN 1
  have Kd2 : Hid (Kp X.own w ((w.alloc (.cells #[.int .i64 4] 3)).alloc (.cells #[.func (.func 252) #[] #[.pointer (some ⟨w.heap.size, 0, none⟩)]] 85)).drew) := ((Kp.alloc X.own w _).trans (Kp.alloc X.own _ _)).drewN 1
  have Hh2 : Hid (((w.alloc (.cells #[.int .i64 4] 3)).alloc (.cells #[.func (.func 252) #[] #[.pointer (some ⟨w.heap.size, 0, none⟩)]] 85)).drew.heap[w.heap.size + 1]? = some (.cells #[.func (.func 252) #[] #[.pointer (some ⟨w.heap.size, 0, none⟩)]] 85)) := heap2 w _ _
  have Hc2 : Hid (((w.alloc (.cells #[.int .i64 4] 3)).alloc (.cells #[.func (.func 252) #[] #[.pointer (some ⟨w.heap.size, 0, none⟩)]] 85)).drew.cell? ⟨w.heap.size, 0, none⟩ = some (.int .i64 4)) := cell_kept (cell_new w (.int .i64 4) 3) ((Kp.alloc X.own _ _).drewN 1) Hfre.out
  have Hf2 : Hid (¬ X.own (w.heap.size + 1)) := Hst.out.fresh1
  go_region_with (first
    | (go_at_call 76; refine (segment_ok _ _).mono ?_; rintro e w3 ⟨rfl, hw⟩; subst hw)
    | (go_at_call 64; have cI := is_gen ((w.alloc (.cells #[.int .i64 4] 3)).alloc (.cells #[.func (.func 252) #[] #[.pointer (some ⟨w.heap.size, 0, none⟩)]] 85)).drew X σ Hd2.out 13 0 σ.v (w.heap.size + 1) [⟨252, #[.pointer (some ⟨w.heap.size, 0, none⟩)], pSeg 4⟩] (by simp) Hf2.out Hh2.out (HP.out _ _ Hfre.out Hc2.out); refine cI.mono ?_; rintro e w2 ⟨rfl, hd⟩; have hk := Kd2.out.trans hd.2))
  all_goals
    have hs9 := hd.1
    clear hd
    go_wp2
    go_end0
    exact ⟨rfl, hs9, hk⟩

set_option maxHeartbeats 4000000 in
theorem r0F_13 : RuleOk 215 (fun X σ => isM X 12 0 σ.v [pSeg 5] σ) := by
  intro w X σ h
  have f3 := h.f3
  have hF := h.ltF
  have hfre := h.fresh
  have Hst : Hid (St X w σ) := h
  have Hfre : Hid (¬ X.own w.heap.size) := hfre
  clear h hfre
  have HP : Hid (∀ (W : World) (q : Nat), ¬ X.own q → W.cell? ⟨q, 0, none⟩ = some (.int .i64 5) → ∀ p ∈ ([⟨252, #[.pointer (some ⟨q, 0, none⟩)], pSeg 5⟩] : List Prt), PartOk X W p.n p.cap p.f σ.v) := by
    intro W q hq hc p hp
    simp at hp
    subst hp
    exact seg_ok hq hc
  go_enter Tryz.func215, Tryz.ntmps215
  have Hd0 : Hid (St X w.drew σ) := Hst.out.drewN 1
  have Kd0 : Hid (Kp X.own w w.drew) := (Kp.refl _ _).drewN 1
  have Hd2 : Hid (St X ((w.alloc (.cells #[.int .i64 5] 3)).alloc (.cells #[.func (.func 252) #[] #[.pointer (some ⟨w.heap.size, 0, none⟩)]] 85)).drew σ) := ((Hst.out.alloc _).alloc _).drewN 1
  have Kd2 : Hid (Kp X.own w ((w.alloc (.cells #[.int .i64 5] 3)).alloc (.cells #[.func (.func 252) #[] #[.pointer (some ⟨w.heap.size, 0, none⟩)]] 85)).drew) := ((Kp.alloc X.own w _).trans (Kp.alloc X.own _ _)).drewN 1
  have Hh2 : Hid (((w.alloc (.cells #[.int .i64 5] 3)).alloc (.cells #[.func (.func 252) #[] #[.pointer (some ⟨w.heap.size, 0, none⟩)]] 85)).drew.heap[w.heap.size + 1]? = some (.cells #[.func (.func 252) #[] #[.pointer (some ⟨w.heap.size, 0, none⟩)]] 85)) := heap2 w _ _
  have Hc2 : Hid (((w.alloc (.cells #[.int .i64 5] 3)).alloc (.cells #[.func (.func 252) #[] #[.pointer (some ⟨w.heap.size, 0, none⟩)]] 85)).drew.cell? ⟨w.heap.size, 0, none⟩ = some (.int .i64 5)) := cell_kept (cell_new w (.int .i64 5) 3) ((Kp.alloc X.own _ _).drewN 1) Hfre.out
  have Hf2 : Hid (¬ X.own (w.heap.size + 1)) := Hst.out.fresh1
  go_region_with (first
    | (go_at_call 76; refine (segment_ok _ _).mono ?_; rintro e w3 ⟨rfl, hw⟩; subst hw)
    | (go_at_call 64; have cI := is_gen ((w.alloc (.cells #[.int .i64 5] 3)).alloc (.cells #[.func (.func 252) #[] #[.pointer (some ⟨w.heap.size, 0, none⟩)]] 85)).drew X σ Hd2.out 12 0 σ.v (w.heap.size + 1) [⟨252, #[.pointer (some ⟨w.heap.size, 0, none⟩)], pSeg 5⟩] (by simp) Hf2.out Hh2.out (HP.out _ _ Hfre.out Hc2.out); refine cI.mono ?_; rintro e w2 ⟨rfl, hd⟩; have hk := Kd2.out.trans hd.2))
  all_goals
    have hs9 := hd.1
    clear hd
    go_wp2
    go_end0
    exact ⟨rfl, hs9, hk⟩

set_option maxHeartbeats 4000000 in
theorem r0F_17 : RuleOk 219 (fun X σ => isM X 3 1 σ.v [pE, pG, pCL] σ) := by
  intro w X σ h
  have f3 := h.f3
  have hF := h.ltF
  have hfre := h.fresh
  have Hst : Hid (St X w σ) := h
  have Hfre : Hid (¬ X.own w.heap.size) := hfre
  clear h hfre
  have HP : Hid (∀ W : World, ∀ p ∈ ([⟨66, #[], pE⟩, ⟨67, #[], pG⟩, ⟨164, #[], pCL⟩] : List Prt), PartOk X W p.n p.cap p.f σ.v) := by
    intro W p hp
    simp at hp
    rcases hp with rfl | rfl | rfl
    · exact okE Hst.out.vs
    · exact okG Hst.out.vs
    · exact okCL Hst.out.vs
  go_enter Tryz.func219, Tryz.ntmps219
  go_wp2_with fail
  have cI := is_gen (w.alloc (.cells #[.func (.func 66) #[] #[], .func (.func 67) #[] #[], .func (.func 164) #[] #[]] 85)) X σ (Hst.out.alloc _) 3 1 σ.v w.heap.size [⟨66, #[], pE⟩, ⟨67, #[], pG⟩, ⟨164, #[], pCL⟩] (by decide) (Hst.out.fresh) (MapKept.heap_alloc w (.cells #[.func (.func 66) #[] #[], .func (.func 67) #[] #[], .func (.func 164) #[] #[]] 85)).1 (HP.out _)
  refine cI.mono ?_; rintro e w2 ⟨rfl, hd⟩
  have hk := ((Kp.alloc X.own _ _)).trans hd.2
  have hs9 := hd.1
  clear hd
  go_wp2
  go_end0
  exact ⟨rfl, hs9, hk⟩

set_option maxHeartbeats 4000000 in
theorem r0F_21 : RuleOk 224 (fun X σ => isM X 9 0 σ.v [pG, pEw] σ) := by
  intro w X σ h
  have f3 := h.f3
  have hF := h.ltF
  have hfre := h.fresh
  have Hst : Hid (St X w σ) := h
  have Hfre : Hid (¬ X.own w.heap.size) := hfre
  clear h hfre
  have HP : Hid (∀ W : World, ∀ p ∈ ([⟨67, #[], pG⟩, ⟨225, #[], pEw⟩] : List Prt), PartOk X W p.n p.cap p.f σ.v) := by
    intro W p hp
    simp at hp
    rcases hp with rfl | rfl
    · exact okG Hst.out.vs
    · exact okEw Hst.out.vs
  go_enter Tryz.func224, Tryz.ntmps224
  go_wp2_with fail
  have cI := is_gen (w.alloc (.cells #[.func (.func 67) #[] #[], .func (.func 225) #[] #[]] 85)) X σ (Hst.out.alloc _) 9 0 σ.v w.heap.size [⟨67, #[], pG⟩, ⟨225, #[], pEw⟩] (by decide) (Hst.out.fresh) (MapKept.heap_alloc w (.cells #[.func (.func 67) #[] #[], .func (.func 225) #[] #[]] 85)).1 (HP.out _)
  refine cI.mono ?_; rintro e w2 ⟨rfl, hd⟩
  have hk := ((Kp.alloc X.own _ _)).trans hd.2
  have hs9 := hd.1
  clear hd
  go_wp2
  go_end0
  exact ⟨rfl, hs9, hk⟩

set_option maxHeartbeats 4000000 in
theorem r0F_26 : RuleOk 230 (fun X σ => isM X 9 1 σ.v [pG, pEb] σ) := by
  intro w X σ h
  have f3 := h.f3
  have hF := h.ltF
  have hfre := h.fresh
  have Hst : Hid (St X w σ) := h
  have Hfre : Hid (¬ X.own w.heap.size) := hfre
  clear h hfre
  have HP : Hid (∀ W : World, ∀ p ∈ ([⟨67, #[], pG⟩, ⟨223, #[], pEb⟩] : List Prt), PartOk X W p.n p.cap p.f σ.v) := by
    intro W p hp
    simp at hp
    rcases hp with rfl | rfl
    · exact okG Hst.out.vs
    · exact okEb Hst.out.vs
  go_enter Tryz.func230, Tryz.ntmps230
  go_wp2_with fail
  have cI := is_gen (w.alloc (.cells #[.func (.func 67) #[] #[], .func (.func 223) #[] #[]] 85)) X σ (Hst.out.alloc _) 9 1 σ.v w.heap.size [⟨67, #[], pG⟩, ⟨223, #[], pEb⟩] (by decide) (Hst.out.fresh) (MapKept.heap_alloc w (.cells #[.func (.func 67) #[] #[], .func (.func 223) #[] #[]] 85)).1 (HP.out _)
  refine cI.mono ?_; rintro e w2 ⟨rfl, hd⟩
  have hk := ((Kp.alloc X.own _ _)).trans hd.2
  have hs9 := hd.1
  clear hd
  go_wp2
  go_end0
  exact ⟨rfl, hs9, hk⟩

end Go.Proofs.YtolnaodlghahlaaGreatDoor
