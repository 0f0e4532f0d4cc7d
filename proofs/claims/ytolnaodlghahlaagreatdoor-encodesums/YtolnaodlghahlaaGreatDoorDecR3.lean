/- Contracts of the table's rules. -/
import Derived.Test.YtolnaodlghahlaaGreatDoorDecRule0
import Derived.Deep.RegionWith
namespace Go.Proofs.YtolnaodlghahlaaGreatDoor
open Go.ChangeShapes Go.WideShapes Go.ChangeAt Go.RowKit
set_option linter.unusedVariables false
set_option maxRecDepth 100000

set_option maxHeartbeats 4000000 in
theorem r00_3 : RuleOk 69 (fun X σ => isM X 1 (σ.op / 8 % 8) 1 [pG, pE] σ) := by
  intro w X σ h
  have f3 := h.f3
  have hF := h.ltF
  have hfre := h.fresh
  have Hst : Hid (St X w σ) := h
  have Hfre : Hid (¬ X.own w.heap.size) := hfre
  clear h hfre
  have HP : Hid (∀ W : World, ∀ p ∈ ([⟨67, #[], pG⟩, ⟨66, #[], pE⟩] : List Prt), PartOk X W p.n p.cap p.f 1) := by
    intro W p hp
    simp at hp
    rcases hp with rfl | rfl
    · exact okG (by decide)
    · exact okE (by decide)
  go_enter Tryz.func69, Tryz.ntmps69
  go_wp2_with fail
  refine (n_ok _ X σ Hst.out).mono ?_; rintro e w0 ⟨rfl, hw⟩; replace hw := hw.symm; subst hw
  go_wp2_with fail
  have cI := is_gen (w.alloc (.cells #[.func (.func 67) #[] #[], .func (.func 66) #[] #[]] 85)) X σ (Hst.out.alloc _) 1 (σ.op / 8 % 8) 1 w.heap.size [⟨67, #[], pG⟩, ⟨66, #[], pE⟩] (by decide) (Hst.out.fresh) (MapKept.heap_alloc w (.cells #[.func (.func 67) #[] #[], .func (.func 66) #[] #[]] 85)).1 (HP.out _)
  refine cI.mono ?_; rintro e w2 ⟨rfl, hd⟩
  have hk := ((Kp.alloc X.own _ _)).trans hd.2
  have hs9 := hd.1
  clear hd
  go_wp2
  go_end0
  exact ⟨rfl, hs9, hk⟩

set_option maxHeartbeats 4000000 in
theorem r00_7 : RuleOk 75 (fun X σ => isM X 12 0 σ.v [pSeg 0] σ) := by
  intro w X σ h
  have f3 := h.f3
  have hF := h.ltF
  have hfre := h.fresh
  have Hst : Hid (St X w σ) := h
  have Hfre : Hid (¬ X.own w.heap.size) := hfre
  clear h hfre
  have HP : Hid (∀ (W : World) (q : Nat), ¬ X.own q → W.cell? ⟨q, 0, none⟩ = some (.int .i64 0) → ∀ p ∈ ([⟨252, #[.pointer (some ⟨q, 0, none⟩)], pSeg 0⟩] : List Prt), PartOk X W p.n p.cap p.f σ.v) := by
    intro W q hq hc p hp
    simp at hp
    subst hp
    exact seg_ok hq hc
  go_enter Tryz.func75, Tryz.ntmps75
  have Hd0 : Hid (St X w.drew σ) := Hst.out.drewN 1
  have Kd0 : Hid (Kp X.own w w.drew) := (Kp.refl _ _).drewN 1
  have Hd2 : Hid (St X ((w.alloc (.cells #[.int .i64 0] 3)).alloc (.cells #[.func (.func 252) #[] #[.pointer (some ⟨w.heap.size, 0, none⟩)]] 85)).drew σ) := ((Hst.out.alloc _).alloc _).drewN 1
  have Kd2 : Hid (Kp X.own w ((w.alloc (.cells #[.int .i64 0] 3)).alloc (.cells #[.func (.func 252) #[] #[.pointer (some ⟨w.heap.size, 0, none⟩)]] 85)).drew) := ((Kp.alloc X.own w _).trans (Kp.alloc X.own _ _)).drewN 1
  have Hh2 : Hid (((w.alloc (.cells #[.int .i64 0] 3)).alloc (.cells #[.func (.func 252) #[] #[.pointer (some ⟨w.heap.size, 0, none⟩)]] 85)).drew.heap[w.heap.size + 1]? = some (.cells #[.func (.func 252) #[] #[.pointer (some ⟨w.heap.size, 0, none⟩)]] 85)) := heap2 w _ _
  have Hc2 : Hid (((w.alloc (.cells #[.int .i64 0] 3)).alloc (.cells #[.func (.func 252) #[] #[.pointer (some ⟨w.heap.size, 0, none⟩)]] 85)).drew.cell? ⟨w.heap.size, 0, none⟩ = some (.int .i64 0)) := cell_kept (cell_new w (.int .i64 0) 3) ((Kp.alloc X.own _ _).drewN 1) Hfre.out
  have Hf2 : Hid (¬ X.own (w.heap.size + 1)) := Hst.out.fresh1
  go_region_with (first
    | (go_at_call 76; refine (segment_ok _ _).mono ?_; rintro e w3 ⟨rfl, hw⟩; subst hw)
    | (go_at_call 64; have cI := is_gen ((w.alloc (.cells #[.int .i64 0] 3)).alloc (.cells #[.func (.func 252) #[] #[.pointer (some ⟨w.heap.size, 0, none⟩)]] 85)).drew X σ Hd2.out 12 0 σ.v (w.heap.size + 1) [⟨252, #[.pointer (some ⟨w.heap.size, 0, none⟩)], pSeg 0⟩] (by simp) Hf2.out Hh2.out (HP.out _ _ Hfre.out Hc2.out); refine cI.mono ?_; rintro e w2 ⟨rfl, hd⟩; have hk := Kd2.out.trans hd.2))
  all_goals
    have hs9 := hd.1
    clear hd
    go_wp2
    go_end0
    exact ⟨rfl, hs9, hk⟩

set_option maxHeartbeats 4000000 in
theorem r00_11 : RuleOk 80 (fun X σ => isM X 13 0 σ.v [pSeg 0] σ) := by
  intro w X σ h
  have f3 := h.f3
  have hF := h.ltF
  have hfre := h.fresh
  have Hst : Hid (St X w σ) := h
  have Hfre : Hid (¬ X.own w.heap.size) := hfre
  clear h hfre
  have HP : Hid (∀ (W : World) (q : Nat), ¬ X.own q → W.cell? ⟨q, 0, none⟩ = some (.int .i64 0) → ∀ p ∈ ([⟨252, #[.pointer (some ⟨q, 0, none⟩)], pSeg 0⟩] : List Prt), PartOk X W p.n p.cap p.f σ.v) := by
    intro W q hq hc p hp
    simp at hp
    subst hp
    exact seg_ok hq hc
  go_enter Tryz.func80, Tryz.ntmps80
  have Hd0 : Hid (St X w.drew σ) := Hst.out.drewN 1
  have Kd0 : Hid (Kp X.own w w.drew) := (Kp.refl _ _).drewN 1
  have Hd2 : Hid (St X ((w.alloc (.cells #[.int .i64 0] 3)).alloc (.cells #[.func (.func 252) #[] #[.pointer (some ⟨w.heap.size, 0, none⟩)]] 85)).drew σ) := ((Hst.out.alloc _).alloc _).drewN 1
  have Kd2 : Hid (Kp X.own w ((w.alloc (.cells #[.int .i64 0] 3)).alloc (.cells #[.func (.func 252) #[] #[.pointer (some ⟨w.heap.size, 0, none⟩)]] 85)).drew) := ((Kp.alloc X.own w _).trans (Kp.alloc X.own _ _)).drewN 1
  have Hh2 : Hid (((w.alloc (.cells #[.int .i64 0] 3)).alloc (.cells #[.func (.func 252) #[] #[.pointer (some ⟨w.heap.size, 0, none⟩)]] 85)).drew.heap[w.heap.size + 1]? = some (.cells #[.func (.func 252) #[] #[.pointer (some ⟨w.heap.size, 0, none⟩)]] 85)) := heap2 w _ _
  have Hc2 : Hid (((w.alloc (.cells #[.int .i64 0] 3)).alloc (.cells #[.func (.func 252) #[] #[.pointer (some ⟨w.heap.size, 0, none⟩)]] 85)).drew.cell? ⟨w.heap.size, 0, none⟩ = some (.int .i64 0)) := cell_kept (cell_new w (.int .i64 0) 3) ((Kp.alloc X.own _ _).drewN 1) Hfre.out
  have Hf2 : Hid (¬ X.own (w.heap.size + 1)) := Hst.out.fresh1
  go_region_with (first
    | (go_at_call 76; refine (segment_ok _ _).mono ?_; rintro e w3 ⟨rfl, hw⟩; subst hw)
    | (go_at_call 64; have cI := is_gen ((w.alloc (.cells #[.int .i64 0] 3)).alloc (.cells #[.func (.func 252) #[] #[.pointer (some ⟨w.heap.size, 0, none⟩)]] 85)).drew X σ Hd2.out 13 0 σ.v (w.heap.size + 1) [⟨252, #[.pointer (some ⟨w.heap.size, 0, none⟩)], pSeg 0⟩] (by simp) Hf2.out Hh2.out (HP.out _ _ Hfre.out Hc2.out); refine cI.mono ?_; rintro e w2 ⟨rfl, hd⟩; have hk := Kd2.out.trans hd.2))
  all_goals
    have hs9 := hd.1
    clear hd
    go_wp2
    go_end0
    exact ⟨rfl, hs9, hk⟩

set_option maxHeartbeats 4000000 in
theorem r00_15 : RuleOk 84 (fun X σ => isM X 7 1 1 [] σ) := by
  intro w X σ h
  have f3 := h.f3
  have hF := h.ltF
  have hfre := h.fresh
  have Hst : Hid (St X w σ) := h
  have Hfre : Hid (¬ X.own w.heap.size) := hfre
  clear h hfre
  go_enter Tryz.func84, Tryz.ntmps84
  go_wp2_with fail
  refine (is_nil _ X σ Hst.out 7 1 1).mono ?_; rintro e w2 ⟨rfl, hd⟩
  have hk := hd.2
  have hs9 := hd.1
  clear hd
  go_wp2
  go_end0
  exact ⟨rfl, hs9, hk⟩

set_option maxHeartbeats 4000000 in
theorem r40_2 : RuleOk 89 (fun X σ => isM X 1 10 σ.v [pR] σ) := by
  intro w X σ h
  have f3 := h.f3
  have hF := h.ltF
  have hfre := h.fresh
  have Hst : Hid (St X w σ) := h
  have Hfre : Hid (¬ X.own w.heap.size) := hfre
  clear h hfre
  have HP : Hid (∀ W : World, ∀ p ∈ ([⟨88, #[], pR⟩] : List Prt), PartOk X W p.n p.cap p.f σ.v) := by
    intro W p hp
    simp at hp
    subst hp
    exact okR Hst.out.vs
  go_enter Tryz.func89, Tryz.ntmps89
  go_wp2_with fail
  have cI := is_gen (w.alloc (.cells #[.func (.func 88) #[] #[]] 85)) X σ (Hst.out.alloc _) 1 10 σ.v w.heap.size [⟨88, #[], pR⟩] (by decide) (Hst.out.fresh) (MapKept.heap_alloc w (.cells #[.func (.func 88) #[] #[]] 85)).1 (HP.out _)
  refine cI.mono ?_; rintro e w2 ⟨rfl, hd⟩
  have hk := ((Kp.alloc X.own _ _)).trans hd.2
  have hs9 := hd.1
  clear hd
  go_wp2
  go_end0
  exact ⟨rfl, hs9, hk⟩

set_option maxHeartbeats 4000000 in
theorem r40_6 : RuleOk 93 (fun X σ => isM X 15 0 σ.v [] σ) := by
  intro w X σ h
  have f3 := h.f3
  have hF := h.ltF
  have hfre := h.fresh
  have Hst : Hid (St X w σ) := h
  have Hfre : Hid (¬ X.own w.heap.size) := hfre
  clear h hfre
  go_enter Tryz.func93, Tryz.ntmps93
  go_wp2_with fail
  refine (is_nil _ X σ Hst.out 15 0 σ.v).mono ?_; rintro e w2 ⟨rfl, hd⟩
  have hk := hd.2
  have hs9 := hd.1
  clear hd
  go_wp2
  go_end0
  exact ⟨rfl, hs9, hk⟩

set_option maxHeartbeats 4000000 in
theorem r40_10 : RuleOk 98 (fun X σ => isM X 5 0 σ.v [pG, pE, pIs] σ) := by
  intro w X σ h
  have f3 := h.f3
  have hF := h.ltF
  have hfre := h.fresh
  have Hst : Hid (St X w σ) := h
  have Hfre : Hid (¬ X.own w.heap.size) := hfre
  clear h hfre
  have HP : Hid (∀ W : World, ∀ p ∈ ([⟨67, #[], pG⟩, ⟨66, #[], pE⟩, ⟨97, #[], pIs⟩] : List Prt), PartOk X W p.n p.cap p.f σ.v) := by
    intro W p hp
    simp at hp
    rcases hp with rfl | rfl | rfl
    · exact okG Hst.out.vs
    · exact okE Hst.out.vs
    · exact okIs Hst.out.vs
  go_enter Tryz.func98, Tryz.ntmps98
  go_wp2_with fail
  have cI := is_gen (w.alloc (.cells #[.func (.func 67) #[] #[], .func (.func 66) #[] #[], .func (.func 97) #[] #[]] 85)) X σ (Hst.out.alloc _) 5 0 σ.v w.heap.size [⟨67, #[], pG⟩, ⟨66, #[], pE⟩, ⟨97, #[], pIs⟩] (by decide) (Hst.out.fresh) (MapKept.heap_alloc w (.cells #[.func (.func 67) #[] #[], .func (.func 66) #[] #[], .func (.func 97) #[] #[]] 85)).1 (HP.out _)
  refine cI.mono ?_; rintro e w2 ⟨rfl, hd⟩
  have hk := ((Kp.alloc X.own _ _)).trans hd.2
  have hs9 := hd.1
  clear hd
  go_wp2
  go_end0
  exact ⟨rfl, hs9, hk⟩

set_option maxHeartbeats 4000000 in
theorem r80_3 : RuleOk 105 (fun X σ => isM X 1 (modrm X σ).1.2.1 σ.v [pE, pIs] (modrm X σ).2) := by
  intro w X σ h
  have f3 := h.f3
  have hF := h.ltF
  have hfre := h.fresh
  have cM := fun W (hW : St X W σ) => modrm_ok W X σ hW
  have hv1 := modrm_v X σ
  have hbd := modrm_bd h
  obtain ⟨⟨m, n, r⟩, hm⟩ : ∃ x, x = (modrm X σ).1 := ⟨_, rfl⟩
  obtain ⟨σ1, hσ1⟩ : ∃ σ1, σ1 = (modrm X σ).2 := ⟨_, rfl⟩
  obtain ⟨V, hV⟩ : ∃ V, V = isM X 1 n σ.v [pE, pIs] σ1 := ⟨_, rfl⟩
  show Calls _ _ _ _ fun e w' => _ ∧ Done X w (isM X 1 (modrm X σ).1.2.1 σ.v [pE, pIs] (modrm X σ).2) w'
  rw [show isM X 1 (modrm X σ).1.2.1 σ.v [pE, pIs] (modrm X σ).2 = V by rw [hV, hσ1, ← hm]]
  simp only [← hm, ← hσ1, mrV] at cM hv1 hbd
  obtain ⟨_, ⟨n0, n1⟩, _⟩ := hbd
  have fl1 := fld1
  have HV : Hid (V = isM X 1 n σ.v [pE, pIs] σ1) := hV
  have Hv1 : Hid (σ1.v = σ.v) := hv1
  have HM : Hid _ := cM
  clear hm hσ1 hV hv1 cM
  have Hst : Hid (St X w σ) := h
  have Hfre : Hid (¬ X.own w.heap.size) := hfre
  clear h hfre
  have HP : Hid (∀ W : World, ∀ p ∈ ([⟨66, #[], pE⟩, ⟨97, #[], pIs⟩] : List Prt), PartOk X W p.n p.cap p.f σ.v) := by
    intro W p hp
    simp at hp
    rcases hp with rfl | rfl
    · exact okE Hst.out.vs
    · exact okIs Hst.out.vs
  go_enter Tryz.func105, Tryz.ntmps105
  have Hd0 : Hid (St X w.drew σ) := Hst.out.drewN 1
  have Kd0 : Hid (Kp X.own w w.drew) := (Kp.refl _ _).drewN 1
  have Hd1 : Hid (St X (w.alloc (.cells #[.func (.func 66) #[] #[], .func (.func 97) #[] #[]] 85)).drew σ) := (Hst.out.alloc _).drewN 1
  have Kd1 : Hid (Kp X.own w (w.alloc (.cells #[.func (.func 66) #[] #[], .func (.func 97) #[] #[]] 85)).drew) := (Kp.alloc _ _ _).drewN 1
  have Hh1 : Hid ((w.alloc (.cells #[.func (.func 66) #[] #[], .func (.func 97) #[] #[]] 85)).drew.heap[w.heap.size]? = some (.cells #[.func (.func 66) #[] #[], .func (.func 97) #[] #[]] 85)) := (MapKept.heap_alloc w _).1
  go_region_with (first
    | (go_at_call 103; refine Calls.mono (HM.out _ ?_) ?_; (first | exact Hd0.out | exact Hd1.out); rintro e w1 ⟨rfl, h1, k1⟩; have g3 : w1.cell? ⟨X.F, 3, none⟩ = some (.int .i64 σ.v) := (by rw [← Hv1.out]; exact h1.f3); have gF := h1.ltF; (try have hsl := heap_kept Hh1.out k1 Hfre.out))
    | (go_at_call 64; first | (have cI := is_gen w1 X σ1 h1 1 n σ.v w.heap.size [⟨66, #[], pE⟩, ⟨97, #[], pIs⟩] (by decide) Hfre.out hsl (HP.out _); refine cI.mono ?_; rintro e w2 ⟨rfl, hd⟩; have hk := (Kd1.out.trans k1).trans hd.2) | (have cI := is_gen (w1.alloc (.cells #[.func (.func 66) #[] #[], .func (.func 97) #[] #[]] 85)) X σ1 (h1.alloc _) 1 n σ.v w1.heap.size [⟨66, #[], pE⟩, ⟨97, #[], pIs⟩] (by decide) h1.fresh (MapKept.heap_alloc w1 (.cells #[.func (.func 66) #[] #[], .func (.func 97) #[] #[]] 85)).1 (HP.out _); refine cI.mono ?_; rintro e w2 ⟨rfl, hd⟩; have hk := ((Kd0.out.trans k1).trans (Kp.alloc X.own w1 _)).trans hd.2)))
  all_goals
    have hs9 := hd.1
    clear hd
    go_wp2
    go_end0
    rw [HV.out]
    exact ⟨rfl, hs9, hk⟩

set_option maxHeartbeats 4000000 in
theorem r80_7 : RuleOk 109 (fun X σ => isM X 10 0 σ.v [pE, pG] σ) := by
  intro w X σ h
  have f3 := h.f3
  have hF := h.ltF
  have hfre := h.fresh
  have Hst : Hid (St X w σ) := h
  have Hfre : Hid (¬ X.own w.heap.size) := hfre
  clear h hfre
  have HP : Hid (∀ W : World, ∀ p ∈ ([⟨66, #[], pE⟩, ⟨67, #[], pG⟩] : List Prt), PartOk X W p.n p.cap p.f σ.v) := by
    intro W p hp
    simp at hp
    rcases hp with rfl | rfl
    · exact okE Hst.out.vs
    · exact okG Hst.out.vs
  go_enter Tryz.func109, Tryz.ntmps109
  go_wp2_with fail
  have cI := is_gen (w.alloc (.cells #[.func (.func 66) #[] #[], .func (.func 67) #[] #[]] 85)) X σ (Hst.out.alloc _) 10 0 σ.v w.heap.size [⟨66, #[], pE⟩, ⟨67, #[], pG⟩] (by decide) (Hst.out.fresh) (MapKept.heap_alloc w (.cells #[.func (.func 66) #[] #[], .func (.func 67) #[] #[]] 85)).1 (HP.out _)
  refine cI.mono ?_; rintro e w2 ⟨rfl, hd⟩
  have hk := ((Kp.alloc X.own _ _)).trans hd.2
  have hs9 := hd.1
  clear hd
  go_wp2
  go_end0
  exact ⟨rfl, hs9, hk⟩

set_option maxHeartbeats 4000000 in
theorem r80_11 : RuleOk 113 (fun X σ => isM X 8 0 σ.v [pG, pE] σ) := by
  intro w X σ h
  have f3 := h.f3
  have hF := h.ltF
  have hfre := h.fresh
  have Hst : Hid (St X w σ) := h
  have Hfre : Hid (¬ X.own w.heap.size) := hfre
  clear h hfre
  have HP : Hid (∀ W : World, ∀ p ∈ ([⟨67, #[], pG⟩, ⟨66, #[], pE⟩] : List Prt), PartOk X W p.n p.cap p.f σ.v) := by
    intro W p hp
    simp at hp
    rcases hp with rfl | rfl
    · exact okG Hst.out.vs
    · exact okE Hst.out.vs
  go_enter Tryz.func113, Tryz.ntmps113
  go_wp2_with fail
  have cI := is_gen (w.alloc (.cells #[.func (.func 67) #[] #[], .func (.func 66) #[] #[]] 85)) X σ (Hst.out.alloc _) 8 0 σ.v w.heap.size [⟨67, #[], pG⟩, ⟨66, #[], pE⟩] (by decide) (Hst.out.fresh) (MapKept.heap_alloc w (.cells #[.func (.func 67) #[] #[], .func (.func 66) #[] #[]] 85)).1 (HP.out _)
  refine cI.mono ?_; rintro e w2 ⟨rfl, hd⟩
  have hk := ((Kp.alloc X.own _ _)).trans hd.2
  have hs9 := hd.1
  clear hd
  go_wp2
  go_end0
  exact ⟨rfl, hs9, hk⟩

set_option maxHeartbeats 4000000 in
theorem r80_15 : RuleOk 121 (fun X σ => isM X 21 0 σ.v [] σ) := by
  intro w X σ h
  have f3 := h.f3
  have hF := h.ltF
  have hfre := h.fresh
  have Hst : Hid (St X w σ) := h
  have Hfre : Hid (¬ X.own w.heap.size) := hfre
  clear h hfre
  go_enter Tryz.func121, Tryz.ntmps121
  go_wp2_with fail
  refine (is_nil _ X σ Hst.out 21 0 σ.v).mono ?_; rintro e w2 ⟨rfl, hd⟩
  have hk := hd.2
  have hs9 := hd.1
  clear hd
  go_wp2
  go_end0
  exact ⟨rfl, hs9, hk⟩

set_option maxHeartbeats 4000000 in
theorem r80_19 : RuleOk 125 (fun X σ => isM X 19 0 1 [] σ) := by
  intro w X σ h
  have f3 := h.f3
  have hF := h.ltF
  have hfre := h.fresh
  have Hst : Hid (St X w σ) := h
  have Hfre : Hid (¬ X.own w.heap.size) := hfre
  clear h hfre
  go_enter Tryz.func125, Tryz.ntmps125
  go_wp2_with fail
  refine (is_nil _ X σ Hst.out 19 0 1).mono ?_; rintro e w2 ⟨rfl, hd⟩
  have hk := hd.2
  have hs9 := hd.1
  clear hd
  go_wp2
  go_end0
  exact ⟨rfl, hs9, hk⟩

set_option maxHeartbeats 4000000 in
theorem rA0_3 : RuleOk 130 (fun X σ => isM X 8 0 1 [pO, pA] σ) := by
  intro w X σ h
  have f3 := h.f3
  have hF := h.ltF
  have hfre := h.fresh
  have Hst : Hid (St X w σ) := h
  have Hfre : Hid (¬ X.own w.heap.size) := hfre
  clear h hfre
  have HP : Hid (∀ W : World, ∀ p ∈ ([⟨128, #[], pO⟩, ⟨72, #[], pA⟩] : List Prt), PartOk X W p.n p.cap p.f 1) := by
    intro W p hp
    simp at hp
    rcases hp with rfl | rfl
    · exact okO (by decide)
    · exact okA (by decide)
  go_enter Tryz.func130, Tryz.ntmps130
  go_wp2_with fail
  have cI := is_gen (w.alloc (.cells #[.func (.func 128) #[] #[], .func (.func 72) #[] #[]] 85)) X σ (Hst.out.alloc _) 8 0 1 w.heap.size [⟨128, #[], pO⟩, ⟨72, #[], pA⟩] (by decide) (Hst.out.fresh) (MapKept.heap_alloc w (.cells #[.func (.func 128) #[] #[], .func (.func 72) #[] #[]] 85)).1 (HP.out _)
  refine cI.mono ?_; rintro e w2 ⟨rfl, hd⟩
  have hk := ((Kp.alloc X.own _ _)).trans hd.2
  have hs9 := hd.1
  clear hd
  go_wp2
  go_end0
  exact ⟨rfl, hs9, hk⟩

theorem rA0_7 : RuleOk 135 (fun X σ => isStr X 1 1 σ) := by
  intro w X σ h
  have f3 := h.f3
  have c := isString_ok w X σ h 1 1 (by decide)
  clear h
  go_enter Tryz.func135, Tryz.ntmps135
  go_wp2_with fail
  refine c.mono ?_; rintro e w1 ⟨rfl, hd⟩
  go_wp2
  go_end0
  exact ⟨rfl, hd⟩

theorem rA0_11 : RuleOk 139 (fun X σ => isStr X 2 1 σ) := by
  intro w X σ h
  have f3 := h.f3
  have c := isString_ok w X σ h 2 1 (by decide)
  clear h
  go_enter Tryz.func139, Tryz.ntmps139
  go_wp2_with fail
  refine c.mono ?_; rintro e w1 ⟨rfl, hd⟩
  go_wp2
  go_end0
  exact ⟨rfl, hd⟩

theorem rA0_15 : RuleOk 143 (fun X σ => isStr X 4 1 σ) := by
  intro w X σ h
  have f3 := h.f3
  have c := isString_ok w X σ h 4 1 (by decide)
  clear h
  go_enter Tryz.func143, Tryz.ntmps143
  go_wp2_with fail
  refine c.mono ?_; rintro e w1 ⟨rfl, hd⟩
  go_wp2
  go_end0
  exact ⟨rfl, hd⟩

set_option maxHeartbeats 4000000 in
theorem rC0_1 : RuleOk 147 (fun X σ => isM X 2 (modrm X σ).1.2.1 1 [pE, pIb] (modrm X σ).2) := by
  intro w X σ h
  have f3 := h.f3
  have hF := h.ltF
  have hfre := h.fresh
  have cM := fun W (hW : St X W σ) => modrm_ok W X σ hW
  have hv1 := modrm_v X σ
  have hbd := modrm_bd h
  obtain ⟨⟨m, n, r⟩, hm⟩ : ∃ x, x = (modrm X σ).1 := ⟨_, rfl⟩
  obtain ⟨σ1, hσ1⟩ : ∃ σ1, σ1 = (modrm X σ).2 := ⟨_, rfl⟩
  obtain ⟨V, hV⟩ : ∃ V, V = isM X 2 n 1 [pE, pIb] σ1 := ⟨_, rfl⟩
  show Calls _ _ _ _ fun e w' => _ ∧ Done X w (isM X 2 (modrm X σ).1.2.1 1 [pE, pIb] (modrm X σ).2) w'
  rw [show isM X 2 (modrm X σ).1.2.1 1 [pE, pIb] (modrm X σ).2 = V by rw [hV, hσ1, ← hm]]
  simp only [← hm, ← hσ1, mrV] at cM hv1 hbd
  obtain ⟨_, ⟨n0, n1⟩, _⟩ := hbd
  have fl1 := fld1
  have HV : Hid (V = isM X 2 n 1 [pE, pIb] σ1) := hV
  have Hv1 : Hid (σ1.v = σ.v) := hv1
  have HM : Hid _ := cM
  clear hm hσ1 hV hv1 cM
  have Hst : Hid (St X w σ) := h
  have Hfre : Hid (¬ X.own w.heap.size) := hfre
  clear h hfre
  have HP : Hid (∀ W : World, ∀ p ∈ ([⟨66, #[], pE⟩, ⟨148, #[], pIb⟩] : List Prt), PartOk X W p.n p.cap p.f 1) := by
    intro W p hp
    simp at hp
    rcases hp with rfl | rfl
    · exact okE (by decide)
    · exact okIb (by decide)
  go_enter Tryz.func147, Tryz.ntmps147
  go_wp2_with fail
  refine (HM.out _ Hst.out).mono ?_; rintro e w1 ⟨rfl, h1, k1⟩
  go_wp2_with fail
  have cI := is_gen (w1.alloc (.cells #[.func (.func 66) #[] #[], .func (.func 148) #[] #[]] 85)) X σ1 (h1.alloc _) 2 n 1 w1.heap.size [⟨66, #[], pE⟩, ⟨148, #[], pIb⟩] (by decide) (h1.fresh) (MapKept.heap_alloc w1 (.cells #[.func (.func 66) #[] #[], .func (.func 148) #[] #[]] 85)).1 (HP.out _)
  refine cI.mono ?_; rintro e w2 ⟨rfl, hd⟩
  have hk := ((k1).trans (Kp.alloc X.own _ _)).trans hd.2
  have hs9 := hd.1
  clear hd
  go_wp2
  go_end0
  rw [HV.out]
  exact ⟨rfl, hs9, hk⟩

set_option maxHeartbeats 4000000 in
theorem rC0_5 : RuleOk 154 (fun X σ => isM X 8 0 1 [pE, pI] (onlyM X [0] σ)) := by
  intro w X σ h
  have hfre := h.fresh
  have h0 : St X (w.alloc (.cells #[.int .i64 0] 3)) σ := h.alloc _
  have hn0 := (MapKept.heap_alloc w (.cells #[.int .i64 0] 3)).1
  have cO := only_ok _ X σ h0 w.heap.size 1 [0] rfl (by decide) hfre (fun j hj => by
    rcases (by omega : j = 0) with rfl <;> (unfold World.cell?; rw [hn0]; rfl))
  obtain ⟨σa, hσa⟩ : ∃ σa, σa = onlyM X [0] σ := ⟨_, rfl⟩
  show Calls _ _ _ _ fun e w' => _ ∧ Done X w (isM X 8 0 1 [pE, pI] (onlyM X [0] σ)) w'
  rw [← hσa] at cO ⊢
  clear hσa h h0 hn0
  go_enter Tryz.func154, Tryz.ntmps154
  go_wp2_with fail
  refine cO.mono ?_; rintro e wa ⟨rfl, h, ka⟩
  replace ka := (Kp.alloc X.own w _).trans ka
  clear cO hfre
  have f3 := h.f3
  have hF := h.ltF
  have hfre := h.fresh
  have Hst : Hid (St X wa σa) := h
  have Hfre : Hid (¬ X.own wa.heap.size) := hfre
  clear h hfre
  have HP : Hid (∀ W : World, ∀ p ∈ ([⟨66, #[], pE⟩, ⟨73, #[], pI⟩] : List Prt), PartOk X W p.n p.cap p.f 1) := by
    intro W p hp
    simp at hp
    rcases hp with rfl | rfl
    · exact okE (by decide)
    · exact okI (by decide)
  go_wp2_with fail
  have cI := is_gen (wa.alloc (.cells #[.func (.func 66) #[] #[], .func (.func 73) #[] #[]] 85)) X σa (Hst.out.alloc _) 8 0 1 wa.heap.size [⟨66, #[], pE⟩, ⟨73, #[], pI⟩] (by decide) (Hst.out.fresh) (MapKept.heap_alloc wa (.cells #[.func (.func 66) #[] #[], .func (.func 73) #[] #[]] 85)).1 (HP.out _)
  refine cI.mono ?_; rintro e w2 ⟨rfl, hd⟩
  have hk := ((ka).trans (Kp.alloc X.own _ _)).trans hd.2
  have hs9 := hd.1
  clear hd
  go_wp2
  go_end0
  exact ⟨rfl, hs9, hk⟩

set_option maxHeartbeats 4000000 in
theorem rC0_9 : RuleOk 158 (fun X σ => isM X 32 0 4 [pIb] σ) := by
  intro w X σ h
  have f3 := h.f3
  have hF := h.ltF
  have hfre := h.fresh
  have Hst : Hid (St X w σ) := h
  have Hfre : Hid (¬ X.own w.heap.size) := hfre
  clear h hfre
  have HP : Hid (∀ W : World, ∀ p ∈ ([⟨148, #[], pIb⟩] : List Prt), PartOk X W p.n p.cap p.f 4) := by
    intro W p hp
    simp at hp
    subst hp
    exact okIb (by decide)
  go_enter Tryz.func158, Tryz.ntmps158
  go_wp2_with fail
  have cI := is_gen (w.alloc (.cells #[.func (.func 148) #[] #[]] 85)) X σ (Hst.out.alloc _) 32 0 4 w.heap.size [⟨148, #[], pIb⟩] (by decide) (Hst.out.fresh) (MapKept.heap_alloc w (.cells #[.func (.func 148) #[] #[]] 85)).1 (HP.out _)
  refine cI.mono ?_; rintro e w2 ⟨rfl, hd⟩
  have hk := ((Kp.alloc X.own _ _)).trans hd.2
  have hs9 := hd.1
  clear hd
  go_wp2
  go_end0
  exact ⟨rfl, hs9, hk⟩

set_option maxHeartbeats 4000000 in
theorem rC0_13 : RuleOk 162 (fun X σ => isM X 2 (modrm X σ).1.2.1 σ.v [pE, pNum 1] (modrm X σ).2) := by
  intro w X σ h
  have f3 := h.f3
  have hF := h.ltF
  have hfre := h.fresh
  have cM := fun W (hW : St X W σ) => modrm_ok W X σ hW
  have hv1 := modrm_v X σ
  have hbd := modrm_bd h
  obtain ⟨⟨m, n, r⟩, hm⟩ : ∃ x, x = (modrm X σ).1 := ⟨_, rfl⟩
  obtain ⟨σ1, hσ1⟩ : ∃ σ1, σ1 = (modrm X σ).2 := ⟨_, rfl⟩
  obtain ⟨V, hV⟩ : ∃ V, V = isM X 2 n σ.v [pE, pNum 1] σ1 := ⟨_, rfl⟩
  show Calls _ _ _ _ fun e w' => _ ∧ Done X w (isM X 2 (modrm X σ).1.2.1 σ.v [pE, pNum 1] (modrm X σ).2) w'
  rw [show isM X 2 (modrm X σ).1.2.1 σ.v [pE, pNum 1] (modrm X σ).2 = V by rw [hV, hσ1, ← hm]]
  simp only [← hm, ← hσ1, mrV] at cM hv1 hbd
  obtain ⟨_, ⟨n0, n1⟩, _⟩ := hbd
  have fl1 := fld1
  have HV : Hid (V = isM X 2 n σ.v [pE, pNum 1] σ1) := hV
  have Hv1 : Hid (σ1.v = σ.v) := hv1
  have HM : Hid _ := cM
  clear hm hσ1 hV hv1 cM
  have Hst : Hid (St X w σ) := h
  have Hfre : Hid (¬ X.own w.heap.size) := hfre
  clear h hfre
  have HP : Hid (∀ (W : World) (q : Nat), ¬ X.own q → W.cell? ⟨q, 0, none⟩ = some (.int .u32 1) → ∀ p ∈ ([⟨66, #[], pE⟩, ⟨258, #[.pointer (some ⟨q, 0, none⟩)], pNum 1⟩] : List Prt), PartOk X W p.n p.cap p.f σ.v) := by
    intro W q hq hc p hp
    simp at hp
    rcases hp with rfl | rfl
    · exact okE Hst.out.vs
    · exact num_ok hq hc
  go_enter Tryz.func162, Tryz.ntmps162
  have Hd0 : Hid (St X w.drew σ) := Hst.out.drewN 1
  have Kd0 : Hid (Kp X.own w w.drew) := (Kp.refl _ _).drewN 1
  have HC : Hid (∀ w1, St X w1 σ1 → Calls Tryz.prog 64 #[.pointer (some ⟨X.F, 0, none⟩), .int .i64 2, .int .i64 n, .int .i64 σ.v, .slice (some ⟨w1.heap.size + 1, 0, none⟩) 2 2] ((w1.alloc (.cells #[.int .u32 1] 24)).alloc (.cells #[.func (.func 66) #[] #[], .func (.func 258) #[] #[.pointer (some ⟨w1.heap.size, 0, none⟩)]] 85)) fun e w' => e = .returned (.tuple #[]) ∧ St X w' (isM X 2 n σ.v [pE, pNum 1] σ1) ∧ Kp X.own w1 w') := by
    intro w1 h1
    have cI := is_gen ((w1.alloc (.cells #[.int .u32 1] 24)).alloc (.cells #[.func (.func 66) #[] #[], .func (.func 258) #[] #[.pointer (some ⟨w1.heap.size, 0, none⟩)]] 85)) X σ1 ((h1.alloc _).alloc _) 2 n σ.v (w1.heap.size + 1) [⟨66, #[], pE⟩, ⟨258, #[.pointer (some ⟨w1.heap.size, 0, none⟩)], pNum 1⟩] (by simp) h1.fresh1 (heap2 w1 (.cells #[.int .u32 1] 24) (.cells #[.func (.func 66) #[] #[], .func (.func 258) #[] #[.pointer (some ⟨w1.heap.size, 0, none⟩)]] 85)) (HP.out _ _ (h1.fresh) (cell_kept (cell_new w1 (.int .u32 1) 24) (Kp.alloc X.own _ _) (h1.fresh)))
    exact cI.mono (by rintro e w2 ⟨rfl, hd⟩; exact ⟨rfl, hd.1, ((Kp.alloc X.own _ _).trans (Kp.alloc X.own _ _)).trans hd.2⟩)
  go_region_with (first
    | (go_at_call 103; refine Calls.mono (HM.out _ ?_) ?_; exact Hd0.out; rintro e w1 ⟨rfl, h1, k1⟩; have g3 : w1.cell? ⟨X.F, 3, none⟩ = some (.int .i64 σ.v) := (by rw [← Hv1.out]; exact h1.f3); have gF := h1.ltF)
    | (go_at_call 153; refine (constant_ok _ _).mono ?_; rintro e w3 ⟨rfl, hw⟩; subst hw)
    | (go_at_call 64; refine (HC.out _ h1).mono ?_; rintro e w2 ⟨rfl, hd⟩; have hk := (Kd0.out.trans k1).trans hd.2))
  all_goals
    have hs9 := hd.1
    clear hd
    go_wp2
    go_end0
    rw [HV.out]
    exact ⟨rfl, hs9, hk⟩

set_option maxHeartbeats 4000000 in
theorem rC0_17 : RuleOk 167 (fun X σ => isM X 7 5 1 [pI] σ) := by
  intro w X σ h
  have f3 := h.f3
  have hF := h.ltF
  have hfre := h.fresh
  have Hst : Hid (St X w σ) := h
  have Hfre : Hid (¬ X.own w.heap.size) := hfre
  clear h hfre
  have HP : Hid (∀ W : World, ∀ p ∈ ([⟨73, #[], pI⟩] : List Prt), PartOk X W p.n p.cap p.f 1) := by
    intro W p hp
    simp at hp
    subst hp
    exact okI (by decide)
  go_enter Tryz.func167, Tryz.ntmps167
  go_wp2_with fail
  have cI := is_gen (w.alloc (.cells #[.func (.func 73) #[] #[]] 85)) X σ (Hst.out.alloc _) 7 5 1 w.heap.size [⟨73, #[], pI⟩] (by decide) (Hst.out.fresh) (MapKept.heap_alloc w (.cells #[.func (.func 73) #[] #[]] 85)).1 (HP.out _)
  refine cI.mono ?_; rintro e w2 ⟨rfl, hd⟩
  have hk := ((Kp.alloc X.own _ _)).trans hd.2
  have hs9 := hd.1
  clear hd
  go_wp2
  go_end0
  exact ⟨rfl, hs9, hk⟩

set_option maxHeartbeats 4000000 in
theorem rE0_4 : RuleOk 171 (fun X σ => isM X 31 3 σ.v [pJb] σ) := by
  intro w X σ h
  have f3 := h.f3
  have hF := h.ltF
  have hfre := h.fresh
  have Hst : Hid (St X w σ) := h
  have Hfre : Hid (¬ X.own w.heap.size) := hfre
  clear h hfre
  have HP : Hid (∀ W : World, ∀ p ∈ ([⟨101, #[], pJb⟩] : List Prt), PartOk X W p.n p.cap p.f σ.v) := by
    intro W p hp
    simp at hp
    subst hp
    exact okJb Hst.out.vs
  go_enter Tryz.func171, Tryz.ntmps171
  go_wp2_with fail
  have cI := is_gen (w.alloc (.cells #[.func (.func 101) #[] #[]] 85)) X σ (Hst.out.alloc _) 31 3 σ.v w.heap.size [⟨101, #[], pJb⟩] (by decide) (Hst.out.fresh) (MapKept.heap_alloc w (.cells #[.func (.func 101) #[] #[]] 85)).1 (HP.out _)
  refine cI.mono ?_; rintro e w2 ⟨rfl, hd⟩
  have hk := ((Kp.alloc X.own _ _)).trans hd.2
  have hs9 := hd.1
  clear hd
  go_wp2
  go_end0
  exact ⟨rfl, hs9, hk⟩

set_option maxHeartbeats 4000000 in
theorem rE0_8 : RuleOk 175 (fun X σ => isM X 38 0 σ.v [pIb, pA] σ) := by
  intro w X σ h
  have f3 := h.f3
  have hF := h.ltF
  have hfre := h.fresh
  have Hst : Hid (St X w σ) := h
  have Hfre : Hid (¬ X.own w.heap.size) := hfre
  clear h hfre
  have HP : Hid (∀ W : World, ∀ p ∈ ([⟨148, #[], pIb⟩, ⟨72, #[], pA⟩] : List Prt), PartOk X W p.n p.cap p.f σ.v) := by
    intro W p hp
    simp at hp
    rcases hp with rfl | rfl
    · exact okIb Hst.out.vs
    · exact okA Hst.out.vs
  go_enter Tryz.func175, Tryz.ntmps175
  go_wp2_with fail
  have cI := is_gen (w.alloc (.cells #[.func (.func 148) #[] #[], .func (.func 72) #[] #[]] 85)) X σ (Hst.out.alloc _) 38 0 σ.v w.heap.size [⟨148, #[], pIb⟩, ⟨72, #[], pA⟩] (by decide) (Hst.out.fresh) (MapKept.heap_alloc w (.cells #[.func (.func 148) #[] #[], .func (.func 72) #[] #[]] 85)).1 (HP.out _)
  refine cI.mono ?_; rintro e w2 ⟨rfl, hd⟩
  have hk := ((Kp.alloc X.own _ _)).trans hd.2
  have hs9 := hd.1
  clear hd
  go_wp2
  go_end0
  exact ⟨rfl, hs9, hk⟩

set_option maxHeartbeats 4000000 in
theorem rE0_12 : RuleOk 181 (fun X σ => isM X 27 0 σ.v [pJb] σ) := by
  intro w X σ h
  have f3 := h.f3
  have hF := h.ltF
  have hfre := h.fresh
  have Hst : Hid (St X w σ) := h
  have Hfre : Hid (¬ X.own w.heap.size) := hfre
  clear h hfre
  have HP : Hid (∀ W : World, ∀ p ∈ ([⟨101, #[], pJb⟩] : List Prt), PartOk X W p.n p.cap p.f σ.v) := by
    intro W p hp
    simp at hp
    subst hp
    exact okJb Hst.out.vs
  go_enter Tryz.func181, Tryz.ntmps181
  go_wp2_with fail
  have cI := is_gen (w.alloc (.cells #[.func (.func 101) #[] #[]] 85)) X σ (Hst.out.alloc _) 27 0 σ.v w.heap.size [⟨101, #[], pJb⟩] (by decide) (Hst.out.fresh) (MapKept.heap_alloc w (.cells #[.func (.func 101) #[] #[]] 85)).1 (HP.out _)
  refine cI.mono ?_; rintro e w2 ⟨rfl, hd⟩
  have hk := ((Kp.alloc X.own _ _)).trans hd.2
  have hs9 := hd.1
  clear hd
  go_wp2
  go_end0
  exact ⟨rfl, hs9, hk⟩

set_option maxHeartbeats 4000000 in
theorem rE0_16 : RuleOk 186 (fun X σ => isM X 38 0 σ.v [pDX, pA] σ) := by
  intro w X σ h
  have f3 := h.f3
  have hF := h.ltF
  have hfre := h.fresh
  have Hst : Hid (St X w σ) := h
  have Hfre : Hid (¬ X.own w.heap.size) := hfre
  clear h hfre
  have HP : Hid (∀ W : World, ∀ p ∈ ([⟨183, #[], pDX⟩, ⟨72, #[], pA⟩] : List Prt), PartOk X W p.n p.cap p.f σ.v) := by
    intro W p hp
    simp at hp
    rcases hp with rfl | rfl
    · exact okDX Hst.out.vs
    · exact okA Hst.out.vs
  go_enter Tryz.func186, Tryz.ntmps186
  go_wp2_with fail
  have cI := is_gen (w.alloc (.cells #[.func (.func 183) #[] #[], .func (.func 72) #[] #[]] 85)) X σ (Hst.out.alloc _) 38 0 σ.v w.heap.size [⟨183, #[], pDX⟩, ⟨72, #[], pA⟩] (by decide) (Hst.out.fresh) (MapKept.heap_alloc w (.cells #[.func (.func 183) #[] #[], .func (.func 72) #[] #[]] 85)).1 (HP.out _)
  refine cI.mono ?_; rintro e w2 ⟨rfl, hd⟩
  have hk := ((Kp.alloc X.own _ _)).trans hd.2
  have hs9 := hd.1
  clear hd
  go_wp2
  go_end0
  exact ⟨rfl, hs9, hk⟩

set_option maxHeartbeats 4000000 in
theorem rE0_22 : RuleOk 193 (fun X σ => isM X 39 1 4 [] σ) := by
  intro w X σ h
  have f3 := h.f3
  have hF := h.ltF
  have hfre := h.fresh
  have Hst : Hid (St X w σ) := h
  have Hfre : Hid (¬ X.own w.heap.size) := hfre
  clear h hfre
  go_enter Tryz.func193, Tryz.ntmps193
  go_wp2_with fail
  refine (is_nil _ X σ Hst.out 39 1 4).mono ?_; rintro e w2 ⟨rfl, hd⟩
  have hk := hd.2
  have hs9 := hd.1
  clear hd
  go_wp2
  go_end0
  exact ⟨rfl, hs9, hk⟩

set_option maxHeartbeats 4000000 in
theorem rE0_26 : RuleOk 197 (fun X σ => isM X 39 4 4 [] σ) := by
  intro w X σ h
  have f3 := h.f3
  have hF := h.ltF
  have hfre := h.fresh
  have Hst : Hid (St X w σ) := h
  have Hfre : Hid (¬ X.own w.heap.size) := hfre
  clear h hfre
  go_enter Tryz.func197, Tryz.ntmps197
  go_wp2_with fail
  refine (is_nil _ X σ Hst.out 39 4 4).mono ?_; rintro e w2 ⟨rfl, hd⟩
  have hk := hd.2
  have hs9 := hd.1
  clear hd
  go_wp2
  go_end0
  exact ⟨rfl, hs9, hk⟩

set_option maxHeartbeats 4000000 in
theorem r0F_3 : RuleOk 203 (fun X σ => isM X 45 0 4 [pRm, pCr] (onlyM X [0, 2, 3] σ)) := by
  intro w X σ h
  have hfre := h.fresh
  have h0 : St X (w.alloc (.cells #[.int .i64 0, .int .i64 2, .int .i64 3] 3)) σ := h.alloc _
  have hn0 := (MapKept.heap_alloc w (.cells #[.int .i64 0, .int .i64 2, .int .i64 3] 3)).1
  have cO := only_ok _ X σ h0 w.heap.size 3 [0, 2, 3] rfl (by decide) hfre (fun j hj => by
    rcases (by omega : j = 0 ∨ j = 1 ∨ j = 2) with rfl | rfl | rfl <;> (unfold World.cell?; rw [hn0]; rfl))
  obtain ⟨σa, hσa⟩ : ∃ σa, σa = onlyM X [0, 2, 3] σ := ⟨_, rfl⟩
  show Calls _ _ _ _ fun e w' => _ ∧ Done X w (isM X 45 0 4 [pRm, pCr] (onlyM X [0, 2, 3] σ)) w'
  rw [← hσa] at cO ⊢
  clear hσa h h0 hn0
  go_enter Tryz.func203, Tryz.ntmps203
  go_wp2_with fail
  refine cO.mono ?_; rintro e wa ⟨rfl, h, ka⟩
  replace ka := (Kp.alloc X.own w _).trans ka
  clear cO hfre
  have f3 := h.f3
  have hF := h.ltF
  have hfre := h.fresh
  have Hst : Hid (St X wa σa) := h
  have Hfre : Hid (¬ X.own wa.heap.size) := hfre
  clear h hfre
  have HP : Hid (∀ W : World, ∀ p ∈ ([⟨204, #[], pRm⟩, ⟨205, #[], pCr⟩] : List Prt), PartOk X W p.n p.cap p.f 4) := by
    intro W p hp
    simp at hp
    rcases hp with rfl | rfl
    · exact okRm (by decide)
    · exact okCr (by decide)
  go_wp2_with fail
  have cI := is_gen (wa.alloc (.cells #[.func (.func 204) #[] #[], .func (.func 205) #[] #[]] 85)) X σa (Hst.out.alloc _) 45 0 4 wa.heap.size [⟨204, #[], pRm⟩, ⟨205, #[], pCr⟩] (by decide) (Hst.out.fresh) (MapKept.heap_alloc wa (.cells #[.func (.func 204) #[] #[], .func (.func 205) #[] #[]] 85)).1 (HP.out _)
  refine cI.mono ?_; rintro e w2 ⟨rfl, hd⟩
  have hk := ((ka).trans (Kp.alloc X.own _ _)).trans hd.2
  have hs9 := hd.1
  clear hd
  go_wp2
  go_end0
  exact ⟨rfl, hs9, hk⟩

set_option maxHeartbeats 4000000 in
theorem r0F_7 : RuleOk 209 (fun X σ => isM X 25 (σ.op % 16) 1 [pE] σ) := by
  intro w X σ h
  have f3 := h.f3
  have hF := h.ltF
  have hfre := h.fresh
  have Hst : Hid (St X w σ) := h
  have Hfre : Hid (¬ X.own w.heap.size) := hfre
  clear h hfre
  have HP : Hid (∀ W : World, ∀ p ∈ ([⟨66, #[], pE⟩] : List Prt), PartOk X W p.n p.cap p.f 1) := by
    intro W p hp
    simp at hp
    subst hp
    exact okE (by decide)
  go_enter Tryz.func209, Tryz.ntmps209
  go_wp2_with fail
  refine (c_ok _ X σ Hst.out).mono ?_; rintro e w0 ⟨rfl, hw⟩; replace hw := hw.symm; subst hw
  go_wp2_with fail
  have cI := is_gen (w.alloc (.cells #[.func (.func 66) #[] #[]] 85)) X σ (Hst.out.alloc _) 25 (σ.op % 16) 1 w.heap.size [⟨66, #[], pE⟩] (by decide) (Hst.out.fresh) (MapKept.heap_alloc w (.cells #[.func (.func 66) #[] #[]] 85)).1 (HP.out _)
  refine cI.mono ?_; rintro e w2 ⟨rfl, hd⟩
  have hk := ((Kp.alloc X.own _ _)).trans hd.2
  have hs9 := hd.1
  clear hd
  go_wp2
  go_end0
  exact ⟨rfl, hs9, hk⟩

set_option maxHeartbeats 4000000 in
theorem r0F_11 : RuleOk 213 (fun X σ => isM X 3 0 σ.v [pE, pG, pIb] σ) := by
  intro w X σ h
  have f3 := h.f3
  have hF := h.ltF
  have hfre := h.fresh
  have Hst : Hid (St X w σ) := h
  have Hfre : Hid (¬ X.own w.heap.size) := hfre
  clear h hfre
  have HP : Hid (∀ W : World, ∀ p ∈ ([⟨66, #[], pE⟩, ⟨67, #[], pG⟩, ⟨148, #[], pIb⟩] : List Prt), PartOk X W p.n p.cap p.f σ.v) := by
    intro W p hp
    simp at hp
    rcases hp with rfl | rfl | rfl
    · exact okE Hst.out.vs
    · exact okG Hst.out.vs
    · exact okIb Hst.out.vs
  go_enter Tryz.func213, Tryz.ntmps213
  go_wp2_with fail
  have cI := is_gen (w.alloc (.cells #[.func (.func 66) #[] #[], .func (.func 67) #[] #[], .func (.func 148) #[] #[]] 85)) X σ (Hst.out.alloc _) 3 0 σ.v w.heap.size [⟨66, #[], pE⟩, ⟨67, #[], pG⟩, ⟨148, #[], pIb⟩] (by decide) (Hst.out.fresh) (MapKept.heap_alloc w (.cells #[.func (.func 66) #[] #[], .func (.func 67) #[] #[], .func (.func 148) #[] #[]] 85)).1 (HP.out _)
  refine cI.mono ?_; rintro e w2 ⟨rfl, hd⟩
  have hk := ((Kp.alloc X.own _ _)).trans hd.2
  have hs9 := hd.1
  clear hd
  go_wp2
  go_end0
  exact ⟨rfl, hs9, hk⟩

set_option maxHeartbeats 4000000 in
theorem r0F_15 : RuleOk 217 (fun X σ => isM X 23 1 σ.v [pE, pG] σ) := by
  intro w X σ h
  have f3 := h.f3
  have hF := h.ltF
  have hfre := h.fresh
  have Hst : Hid (St X w σ) := h
  have Hfre : Hid (¬ X.own w.heap.size) := hfre
  clear h hfre
  have HP : Hid (∀ W : World, ∀ p ∈ ([⟨66, #[], pE⟩, ⟨67, #[], pG⟩] : List Prt), PartOk X W p.n p.cap p.f σ.v) := by
    intro W p hp
    simp at hp
    rcases hp with rfl | rfl
    · exact okE Hst.out.vs
    · exact okG Hst.out.vs
  go_enter Tryz.func217, Tryz.ntmps217
  go_wp2_with fail
  have cI := is_gen (w.alloc (.cells #[.func (.func 66) #[] #[], .func (.func 67) #[] #[]] 85)) X σ (Hst.out.alloc _) 23 1 σ.v w.heap.size [⟨66, #[], pE⟩, ⟨67, #[], pG⟩] (by decide) (Hst.out.fresh) (MapKept.heap_alloc w (.cells #[.func (.func 66) #[] #[], .func (.func 67) #[] #[]] 85)).1 (HP.out _)
  refine cI.mono ?_; rintro e w2 ⟨rfl, hd⟩
  have hk := ((Kp.alloc X.own _ _)).trans hd.2
  have hs9 := hd.1
  clear hd
  go_wp2
  go_end0
  exact ⟨rfl, hs9, hk⟩

set_option maxHeartbeats 4000000 in
theorem r0F_19 : RuleOk 221 (fun X σ => isM X 23 2 σ.v [pE, pG] σ) := by
  intro w X σ h
  have f3 := h.f3
  have hF := h.ltF
  have hfre := h.fresh
  have Hst : Hid (St X w σ) := h
  have Hfre : Hid (¬ X.own w.heap.size) := hfre
  clear h hfre
  have HP : Hid (∀ W : World, ∀ p ∈ ([⟨66, #[], pE⟩, ⟨67, #[], pG⟩] : List Prt), PartOk X W p.n p.cap p.f σ.v) := by
    intro W p hp
    simp at hp
    rcases hp with rfl | rfl
    · exact okE Hst.out.vs
    · exact okG Hst.out.vs
  go_enter Tryz.func221, Tryz.ntmps221
  go_wp2_with fail
  have cI := is_gen (w.alloc (.cells #[.func (.func 66) #[] #[], .func (.func 67) #[] #[]] 85)) X σ (Hst.out.alloc _) 23 2 σ.v w.heap.size [⟨66, #[], pE⟩, ⟨67, #[], pG⟩] (by decide) (Hst.out.fresh) (MapKept.heap_alloc w (.cells #[.func (.func 66) #[] #[], .func (.func 67) #[] #[]] 85)).1 (HP.out _)
  refine cI.mono ?_; rintro e w2 ⟨rfl, hd⟩
  have hk := ((Kp.alloc X.own _ _)).trans hd.2
  have hs9 := hd.1
  clear hd
  go_wp2
  go_end0
  exact ⟨rfl, hs9, hk⟩

set_option maxHeartbeats 4000000 in
theorem r0F_24 : RuleOk 228 (fun X σ => isM X 24 0 σ.v [pG, pE] σ) := by
  intro w X σ h
  have f3 := h.f3
  have hF := h.ltF
  have hfre := h.fresh
  have Hst : Hid (St X w σ) := h
  have Hfre : Hid (¬ X.own w.heap.size) := hfre
  clear h hfre
  have HP : Hid (∀ W : World, ∀ p ∈ ([⟨67, #[], pG⟩, ⟨66, #[], pE⟩] : List Prt), PartOk X W p.n p.cap p.f σ.v) := by
    intro W p hp
    simp at hp
    rcases hp with rfl | rfl
    · exact okG Hst.out.vs
    · exact okE Hst.out.vs
  go_enter Tryz.func228, Tryz.ntmps228
  go_wp2_with fail
  have cI := is_gen (w.alloc (.cells #[.func (.func 67) #[] #[], .func (.func 66) #[] #[]] 85)) X σ (Hst.out.alloc _) 24 0 σ.v w.heap.size [⟨67, #[], pG⟩, ⟨66, #[], pE⟩] (by decide) (Hst.out.fresh) (MapKept.heap_alloc w (.cells #[.func (.func 67) #[] #[], .func (.func 66) #[] #[]] 85)).1 (HP.out _)
  refine cI.mono ?_; rintro e w2 ⟨rfl, hd⟩
  have hk := ((Kp.alloc X.own _ _)).trans hd.2
  have hs9 := hd.1
  clear hd
  go_wp2
  go_end0
  exact ⟨rfl, hs9, hk⟩

set_option maxHeartbeats 4000000 in
theorem r0F_28 : RuleOk 232 (fun X σ => isM X 22 0 4 [pR] σ) := by
  intro w X σ h
  have f3 := h.f3
  have hF := h.ltF
  have hfre := h.fresh
  have Hst : Hid (St X w σ) := h
  have Hfre : Hid (¬ X.own w.heap.size) := hfre
  clear h hfre
  have HP : Hid (∀ W : World, ∀ p ∈ ([⟨88, #[], pR⟩] : List Prt), PartOk X W p.n p.cap p.f 4) := by
    intro W p hp
    simp at hp
    subst hp
    exact okR (by decide)
  go_enter Tryz.func232, Tryz.ntmps232
  go_wp2_with fail
  have cI := is_gen (w.alloc (.cells #[.func (.func 88) #[] #[]] 85)) X σ (Hst.out.alloc _) 22 0 4 w.heap.size [⟨88, #[], pR⟩] (by decide) (Hst.out.fresh) (MapKept.heap_alloc w (.cells #[.func (.func 88) #[] #[]] 85)).1 (HP.out _)
  refine cI.mono ?_; rintro e w2 ⟨rfl, hd⟩
  have hk := ((Kp.alloc X.own _ _)).trans hd.2
  have hs9 := hd.1
  clear hd
  go_wp2
  go_end0
  exact ⟨rfl, hs9, hk⟩

end Go.Proofs.YtolnaodlghahlaaGreatDoor
