/- Contracts of the table's rules. -/
import Derived.Test.YtolnaodlghahlaaGreatDoorDecRule0
import Derived.Deep.RegionWith
namespace Go.Proofs.YtolnaodlghahlaaGreatDoor
open Go.ChangeShapes Go.WideShapes Go.ChangeAt Go.RowKit
set_option linter.unusedVariables false
set_option maxRecDepth 100000

set_option maxHeartbeats 4000000 in
theorem r00_2 : RuleOk 68 (fun X σ => isM X 1 (σ.op / 8 % 8) σ.v [pE, pG] σ) := by
  intro w X σ h
  have f3 := h.f3
  have hF := h.ltF
  have hfre := h.fresh
  have Hst : Hid (St X w σ) := h
  have Hfre : Hid (¬ X.own w.heap.size) := hfre
  clear h hfre
  have HP : Hid (∀ W : World, ∀ p ∈ ([⟨66, #[], pE⟩, ⟨67, #[], pG⟩] : List Prt), PartOk X W p.n p.cap p.f σ.v) := by
    intro W p hp
    simp at hp
    rcases hp with rfl | rfl
    · exact okE Hst.out.vs
    · exact okG Hst.out.vs
  go_enter Tryz.func68, Tryz.ntmps68
  have Hd0 : Hid (St X w.drew σ) := Hst.out.drewN 1
  have Kd0 : Hid (Kp X.own w w.drew) := (Kp.refl _ _).drewN 1
  have Hd1 : Hid (St X (w.alloc (.cells #[.func (.func 66) #[] #[], .func (.func 67) #[] #[]] 85)).drew σ) := (Hst.out.alloc _).drewN 1
  have Kd1 : Hid (Kp X.own w (w.alloc (.cells #[.func (.func 66) #[] #[], .func (.func 67) #[] #[]] 85)).drew) := (Kp.alloc _ _ _).drewN 1
  have Hh1 : Hid ((w.alloc (.cells #[.func (.func 66) #[] #[], .func (.func 67) #[] #[]] 85)).drew.heap[w.heap.size]? = some (.cells #[.func (.func 66) #[] #[], .func (.func 67) #[] #[]] 85)) := (MapKept.heap_alloc w _).1
  go_region_with (first
    | (go_at_call 65; refine Calls.mono (n_ok _ X σ ?_) ?_; (first | exact Hd0.out | exact Hd1.out); rintro e w0 ⟨rfl, hw⟩; subst hw)
    | (go_at_call 64; have cI := is_gen (w.alloc (.cells #[.func (.func 66) #[] #[], .func (.func 67) #[] #[]] 85)).drew X σ Hd1.out 1 (σ.op / 8 % 8) σ.v w.heap.size [⟨66, #[], pE⟩, ⟨67, #[], pG⟩] (by decide) Hfre.out Hh1.out (HP.out _); refine cI.mono ?_; rintro e w2 ⟨rfl, hd⟩; have hk := Kd1.out.trans hd.2))
  all_goals
    have hs9 := hd.1
    clear hd
    go_wp2
    go_end0
    exact ⟨rfl, hs9, hk⟩

set_option maxHeartbeats 4000000 in
theorem r00_6 : RuleOk 74 (fun X σ => isM X 1 (σ.op / 8 % 8) σ.v [pA, pI] σ) := by
  intro w X σ h
  have f3 := h.f3
  have hF := h.ltF
  have hfre := h.fresh
  have Hst : Hid (St X w σ) := h
  have Hfre : Hid (¬ X.own w.heap.size) := hfre
  clear h hfre
  have HP : Hid (∀ W : World, ∀ p ∈ ([⟨72, #[], pA⟩, ⟨73, #[], pI⟩] : List Prt), PartOk X W p.n p.cap p.f σ.v) := by
    intro W p hp
    simp at hp
    rcases hp with rfl | rfl
    · exact okA Hst.out.vs
    · exact okI Hst.out.vs
  go_enter Tryz.func74, Tryz.ntmps74
  have Hd0 : Hid (St X w.drew σ) := Hst.out.drewN 1
  have Kd0 : Hid (Kp X.own w w.drew) := (Kp.refl _ _).drewN 1
  have Hd1 : Hid (St X (w.alloc (.cells #[.func (.func 72) #[] #[], .func (.func 73) #[] #[]] 85)).drew σ) := (Hst.out.alloc _).drewN 1
  have Kd1 : Hid (Kp X.own w (w.alloc (.cells #[.func (.func 72) #[] #[], .func (.func 73) #[] #[]] 85)).drew) := (Kp.alloc _ _ _).drewN 1
  have Hh1 : Hid ((w.alloc (.cells #[.func (.func 72) #[] #[], .func (.func 73) #[] #[]] 85)).drew.heap[w.heap.size]? = some (.cells #[.func (.func 72) #[] #[], .func (.func 73) #[] #[]] 85)) := (MapKept.heap_alloc w _).1
  go_region_with (first
    | (go_at_call 65; refine Calls.mono (n_ok _ X σ ?_) ?_; (first | exact Hd0.out | exact Hd1.out); rintro e w0 ⟨rfl, hw⟩; subst hw)
    | (go_at_call 64; have cI := is_gen (w.alloc (.cells #[.func (.func 72) #[] #[], .func (.func 73) #[] #[]] 85)).drew X σ Hd1.out 1 (σ.op / 8 % 8) σ.v w.heap.size [⟨72, #[], pA⟩, ⟨73, #[], pI⟩] (by decide) Hfre.out Hh1.out (HP.out _); refine cI.mono ?_; rintro e w2 ⟨rfl, hd⟩; have hk := Kd1.out.trans hd.2))
  all_goals
    have hs9 := hd.1
    clear hd
    go_wp2
    go_end0
    exact ⟨rfl, hs9, hk⟩

set_option maxHeartbeats 4000000 in
theorem r00_10 : RuleOk 79 (fun X σ => isM X 12 0 σ.v [pSeg 3] σ) := by
  intro w X σ h
  have f3 := h.f3
  have hF := h.ltF
  have hfre := h.fresh
  have Hst : Hid (St X w σ) := h
  have Hfre : Hid (¬ X.own w.heap.size) := hfre
  clear h hfre
  have HP : Hid (∀ (W : World) (q : Nat), ¬ X.own q → W.cell? ⟨q, 0, none⟩ = some (.int .i64 3) → ∀ p ∈ ([⟨252, #[.pointer (some ⟨q, 0, none⟩)], pSeg 3⟩] : List Prt), PartOk X W p.n p.cap p.f σ.v) := by
    intro W q hq hc p hp
    simp at hp
    subst hp
    exact seg_ok hq hc
  go_enter Tryz.func79, Tryz.ntmps79
  have Hd0 : Hid (St X w.drew σ) := Hst.out.drewN 1
  have Kd0 : Hid (Kp X.own w w.drew) := (Kp.refl _ _).drewN 1
  have Hd2 : Hid (St X ((w.alloc (.cells #[.int .i64 3] 3)).alloc (.cells #[.func (.func 252) #[] #[.pointer (some ⟨w.heap.size, 0, none⟩)]] 85)).drew σ) := ((Hst.out.alloc _).alloc _).drewN 1
  have Kd2 : Hid (Kp X.own w ((w.alloc (.cells #[.int .i64 3] 3)).alloc (.cells #[.func (.func 252) #[] #[.pointer (some ⟨w.heap.size, 0, none⟩)]] 85)).drew) := ((Kp.alloc X.own w _).trans (Kp.alloc X.own _ _)).drewN 1
  have Hh2 : Hid (((w.alloc (.cells #[.int .i64 3] 3)).alloc (.cells #[.func (.func 252) #[] #[.pointer (some ⟨w.heap.size, 0, none⟩)]] 85)).drew.heap[w.heap.size + 1]? = some (.cells #[.func (.func 252) #[] #[.pointer (some ⟨w.heap.size, 0, none⟩)]] 85)) := heap2 w _ _
  have Hc2 : Hid (((w.alloc (.cells #[.int .i64 3] 3)).alloc (.cells #[.func (.func 252) #[] #[.pointer (some ⟨w.heap.size, 0, none⟩)]] 85)).drew.cell? ⟨w.heap.size, 0, none⟩ = some (.int .i64 3)) := cell_kept (cell_new w (.int .i64 3) 3) ((Kp.alloc X.own _ _).drewN 1) Hfre.out
  have Hf2 : Hid (¬ X.own (w.heap.size + 1)) := Hst.out.fresh1
  go_region_with (first
    | (go_at_call 76; refine (segment_ok _ _).mono ?_; rintro e w3 ⟨rfl, hw⟩; subst hw)
    | (go_at_call 64; have cI := is_gen ((w.alloc (.cells #[.int .i64 3] 3)).alloc (.cells #[.func (.func 252) #[] #[.pointer (some ⟨w.heap.size, 0, none⟩)]] 85)).drew X σ Hd2.out 12 0 σ.v (w.heap.size + 1) [⟨252, #[.pointer (some ⟨w.heap.size, 0, none⟩)], pSeg 3⟩] (by simp) Hf2.out Hh2.out (HP.out _ _ Hfre.out Hc2.out); refine cI.mono ?_; rintro e w2 ⟨rfl, hd⟩; have hk := Kd2.out.trans hd.2))
  all_goals
    have hs9 := hd.1
    clear hd
    go_wp2
    go_end0
    exact ⟨rfl, hs9, hk⟩

set_option maxHeartbeats 4000000 in
theorem r00_14 : RuleOk 83 (fun X σ => isM X 7 0 1 [] σ) := by
  intro w X σ h
  have f3 := h.f3
  have hF := h.ltF
  have hfre := h.fresh
  have Hst : Hid (St X w σ) := h
  have Hfre : Hid (¬ X.own w.heap.size) := hfre
  clear h hfre
  go_enter Tryz.func83, Tryz.ntmps83
  go_wp2_with fail
  refine (is_nil _ X σ Hst.out 7 0 1).mono ?_; rintro e w2 ⟨rfl, hd⟩
  have hk := hd.2
  have hs9 := hd.1
  clear hd
  go_wp2
  go_end0
  exact ⟨rfl, hs9, hk⟩

set_option maxHeartbeats 4000000 in
theorem r40_1 : RuleOk 87 (fun X σ => isM X 1 9 σ.v [pR] σ) := by
  intro w X σ h
  have f3 := h.f3
  have hF := h.ltF
  have hfre := h.fresh
  have Hst : Hid (St X w σ) := h
  have Hfre : Hid (¬ X.own w.heap.size) := hfre
  clear h hfre
  have HP : Hid (∀ W : World, ∀ p ∈ ([⟨88, #[], pR⟩] : List Prt), PartOk X W p.n p.cap p.f σ.v) := by
    intro W p hp
    simp at hp
    subst hp
    exact okR Hst.out.vs
  go_enter Tryz.func87, Tryz.ntmps87
  go_wp2_with fail
  have cI := is_gen (w.alloc (.cells #[.func (.func 88) #[] #[]] 85)) X σ (Hst.out.alloc _) 1 9 σ.v w.heap.size [⟨88, #[], pR⟩] (by decide) (Hst.out.fresh) (MapKept.heap_alloc w (.cells #[.func (.func 88) #[] #[]] 85)).1 (HP.out _)
  refine cI.mono ?_; rintro e w2 ⟨rfl, hd⟩
  have hk := ((Kp.alloc X.own _ _)).trans hd.2
  have hs9 := hd.1
  clear hd
  go_wp2
  go_end0
  exact ⟨rfl, hs9, hk⟩

set_option maxHeartbeats 4000000 in
theorem r40_5 : RuleOk 92 (fun X σ => isM X 14 0 σ.v [] σ) := by
  intro w X σ h
  have f3 := h.f3
  have hF := h.ltF
  have hfre := h.fresh
  have Hst : Hid (St X w σ) := h
  have Hfre : Hid (¬ X.own w.heap.size) := hfre
  clear h hfre
  go_enter Tryz.func92, Tryz.ntmps92
  go_wp2_with fail
  refine (is_nil _ X σ Hst.out 14 0 σ.v).mono ?_; rintro e w2 ⟨rfl, hd⟩
  have hk := hd.2
  have hs9 := hd.1
  clear hd
  go_wp2
  go_end0
  exact ⟨rfl, hs9, hk⟩

set_option maxHeartbeats 4000000 in
theorem r40_9 : RuleOk 96 (fun X σ => isM X 12 0 σ.v [pIs] σ) := by
  intro w X σ h
  have f3 := h.f3
  have hF := h.ltF
  have hfre := h.fresh
  have Hst : Hid (St X w σ) := h
  have Hfre : Hid (¬ X.own w.heap.size) := hfre
  clear h hfre
  have HP : Hid (∀ W : World, ∀ p ∈ ([⟨97, #[], pIs⟩] : List Prt), PartOk X W p.n p.cap p.f σ.v) := by
    intro W p hp
    simp at hp
    subst hp
    exact okIs Hst.out.vs
  go_enter Tryz.func96, Tryz.ntmps96
  go_wp2_with fail
  have cI := is_gen (w.alloc (.cells #[.func (.func 97) #[] #[]] 85)) X σ (Hst.out.alloc _) 12 0 σ.v w.heap.size [⟨97, #[], pIs⟩] (by decide) (Hst.out.fresh) (MapKept.heap_alloc w (.cells #[.func (.func 97) #[] #[]] 85)).1 (HP.out _)
  refine cI.mono ?_; rintro e w2 ⟨rfl, hd⟩
  have hk := ((Kp.alloc X.own _ _)).trans hd.2
  have hs9 := hd.1
  clear hd
  go_wp2
  go_end0
  exact ⟨rfl, hs9, hk⟩

set_option maxHeartbeats 4000000 in
theorem r80_2 : RuleOk 104 (fun X σ => isM X 1 (modrm X σ).1.2.1 σ.v [pE, pI] (modrm X σ).2) := by
  intro w X σ h
  have f3 := h.f3
  have hF := h.ltF
  have hfre := h.fresh
  have cM := fun W (hW : St X W σ) => modrm_ok W X σ hW
  have hv1 := modrm_v X σ
  have hbd := modrm_bd h
  obtain ⟨⟨m, n, r⟩, hm⟩ : ∃ x, x = (modrm X σ).1 := ⟨_, rfl⟩
  obtain ⟨σ1, hσ1⟩ : ∃ σ1, σ1 = (modrm X σ).2 := ⟨_, rfl⟩
  obtain ⟨V, hV⟩ : ∃ V, V = isM X 1 n σ.v [pE, pI] σ1 := ⟨_, rfl⟩
  show Calls _ _ _ _ fun e w' => _ ∧ Done X w (isM X 1 (modrm X σ).1.2.1 σ.v [pE, pI] (modrm X σ).2) w'
  rw [show isM X 1 (modrm X σ).1.2.1 σ.v [pE, pI] (modrm X σ).2 = V by rw [hV, hσ1, ← hm]]
  simp only [← hm, ← hσ1, mrV] at cM hv1 hbd
  obtain ⟨_, ⟨n0, n1⟩, _⟩ := hbd
  have fl1 := fld1
  have HV : Hid (V = isM X 1 n σ.v [pE, pI] σ1) := hV
  have Hv1 : Hid (σ1.v = σ.v) := hv1
  have HM : Hid _ := cM
  clear hm hσ1 hV hv1 cM
  have Hst : Hid (St X w σ) := h
  have Hfre : Hid (¬ X.own w.heap.size) := hfre
  clear h hfre
  have HP : Hid (∀ W : World, ∀ p ∈ ([⟨66, #[], pE⟩, ⟨73, #[], pI⟩] : List Prt), PartOk X W p.n p.cap p.f σ.v) := by
    intro W p hp
    simp at hp
    rcases hp with rfl | rfl
    · exact okE Hst.out.vs
    · exact okI Hst.out.vs
  go_enter Tryz.func104, Tryz.ntmps104
  have Hd0 : Hid (St X w.drew σ) := Hst.out.drewN 1
  have Kd0 : Hid (Kp X.own w w.drew) := (Kp.refl _ _).drewN 1
  have Hd1 : Hid (St X (w.alloc (.cells #[.func (.func 66) #[] #[], .func (.func 73) #[] #[]] 85)).drew σ) := (Hst.out.alloc _).drewN 1
  have Kd1 : Hid (Kp X.own w (w.alloc (.cells #[.func (.func 66) #[] #[], .func (.func 73) #[] #[]] 85)).drew) := (Kp.alloc _ _ _).drewN 1
  have Hh1 : Hid ((w.alloc (.cells #[.func (.func 66) #[] #[], .func (.func 73) #[] #[]] 85)).drew.heap[w.heap.size]? = some (.cells #[.func (.func 66) #[] #[], .func (.func 73) #[] #[]] 85)) := (MapKept.heap_alloc w _).1
  go_region_with (first
    | (go_at_call 103; refine Calls.mono (HM.out _ ?_) ?_; (first | exact Hd0.out | exact Hd1.out); rintro e w1 ⟨rfl, h1, k1⟩; have g3 : w1.cell? ⟨X.F, 3, none⟩ = some (.int .i64 σ.v) := (by rw [← Hv1.out]; exact h1.f3); have gF := h1.ltF; (try have hsl := heap_kept Hh1.out k1 Hfre.out))
    | (go_at_call 64; first | (have cI := is_gen w1 X σ1 h1 1 n σ.v w.heap.size [⟨66, #[], pE⟩, ⟨73, #[], pI⟩] (by decide) Hfre.out hsl (HP.out _); refine cI.mono ?_; rintro e w2 ⟨rfl, hd⟩; have hk := (Kd1.out.trans k1).trans hd.2) | (have cI := is_gen (w1.alloc (.cells #[.func (.func 66) #[] #[], .func (.func 73) #[] #[]] 85)) X σ1 (h1.alloc _) 1 n σ.v w1.heap.size [⟨66, #[], pE⟩, ⟨73, #[], pI⟩] (by decide) h1.fresh (MapKept.heap_alloc w1 (.cells #[.func (.func 66) #[] #[], .func (.func 73) #[] #[]] 85)).1 (HP.out _); refine cI.mono ?_; rintro e w2 ⟨rfl, hd⟩; have hk := ((Kd0.out.trans k1).trans (Kp.alloc X.own w1 _)).trans hd.2)))
  all_goals
    have hs9 := hd.1
    clear hd
    go_wp2
    go_end0
    rw [HV.out]
    exact ⟨rfl, hs9, hk⟩

set_option maxHeartbeats 4000000 in
theorem r80_6 : RuleOk 108 (fun X σ => isM X 10 0 1 [pE, pG] σ) := by
  intro w X σ h
  have f3 := h.f3
  have hF := h.ltF
  have hfre := h.fresh
  have Hst : Hid (St X w σ) := h
  have Hfre : Hid (¬ X.own w.heap.size) := hfre
  clear h hfre
  have HP : Hid (∀ W : World, ∀ p ∈ ([⟨66, #[], pE⟩, ⟨67, #[], pG⟩] : List Prt), PartOk X W p.n p.cap p.f 1) := by
    intro W p hp
    simp at hp
    rcases hp with rfl | rfl
    · exact okE (by decide)
    · exact okG (by decide)
  go_enter Tryz.func108, Tryz.ntmps108
  go_wp2_with fail
  have cI := is_gen (w.alloc (.cells #[.func (.func 66) #[] #[], .func (.func 67) #[] #[]] 85)) X σ (Hst.out.alloc _) 10 0 1 w.heap.size [⟨66, #[], pE⟩, ⟨67, #[], pG⟩] (by decide) (Hst.out.fresh) (MapKept.heap_alloc w (.cells #[.func (.func 66) #[] #[], .func (.func 67) #[] #[]] 85)).1 (HP.out _)
  refine cI.mono ?_; rintro e w2 ⟨rfl, hd⟩
  have hk := ((Kp.alloc X.own _ _)).trans hd.2
  have hs9 := hd.1
  clear hd
  go_wp2
  go_end0
  exact ⟨rfl, hs9, hk⟩

set_option maxHeartbeats 4000000 in
theorem r80_10 : RuleOk 112 (fun X σ => isM X 8 0 1 [pG, pE] σ) := by
  intro w X σ h
  have f3 := h.f3
  have hF := h.ltF
  have hfre := h.fresh
  have Hst : Hid (St X w σ) := h
  have Hfre : Hid (¬ X.own w.heap.size) := hfre
  clear h hfre
  have HP : Hid (∀ W : World, ∀ p ∈ ([⟨67, #[], pG⟩, ⟨66, #[], pE⟩] : List Prt), PartOk X W p.n p.cap p.f 1) := by
    intro W p hp
    simp at hp
    rcases hp with rfl | rfl
    · exact okG (by decide)
    · exact okE (by decide)
  go_enter Tryz.func112, Tryz.ntmps112
  go_wp2_with fail
  have cI := is_gen (w.alloc (.cells #[.func (.func 67) #[] #[], .func (.func 66) #[] #[]] 85)) X σ (Hst.out.alloc _) 8 0 1 w.heap.size [⟨67, #[], pG⟩, ⟨66, #[], pE⟩] (by decide) (Hst.out.fresh) (MapKept.heap_alloc w (.cells #[.func (.func 67) #[] #[], .func (.func 66) #[] #[]] 85)).1 (HP.out _)
  refine cI.mono ?_; rintro e w2 ⟨rfl, hd⟩
  have hk := ((Kp.alloc X.own _ _)).trans hd.2
  have hs9 := hd.1
  clear hd
  go_wp2
  go_end0
  exact ⟨rfl, hs9, hk⟩

set_option maxHeartbeats 4000000 in
theorem r80_14 : RuleOk 120 (fun X σ => isM X 20 0 σ.v [] σ) := by
  intro w X σ h
  have f3 := h.f3
  have hF := h.ltF
  have hfre := h.fresh
  have Hst : Hid (St X w σ) := h
  have Hfre : Hid (¬ X.own w.heap.size) := hfre
  clear h hfre
  go_enter Tryz.func120, Tryz.ntmps120
  go_wp2_with fail
  refine (is_nil _ X σ Hst.out 20 0 σ.v).mono ?_; rintro e w2 ⟨rfl, hd⟩
  have hk := hd.2
  have hs9 := hd.1
  clear hd
  go_wp2
  go_end0
  exact ⟨rfl, hs9, hk⟩

set_option maxHeartbeats 4000000 in
theorem r80_18 : RuleOk 124 (fun X σ => isM X 18 0 1 [] σ) := by
  intro w X σ h
  have f3 := h.f3
  have hF := h.ltF
  have hfre := h.fresh
  have Hst : Hid (St X w σ) := h
  have Hfre : Hid (¬ X.own w.heap.size) := hfre
  clear h hfre
  go_enter Tryz.func124, Tryz.ntmps124
  go_wp2_with fail
  refine (is_nil _ X σ Hst.out 18 0 1).mono ?_; rintro e w2 ⟨rfl, hd⟩
  have hk := hd.2
  have hs9 := hd.1
  clear hd
  go_wp2
  go_end0
  exact ⟨rfl, hs9, hk⟩

set_option maxHeartbeats 4000000 in
theorem rA0_2 : RuleOk 129 (fun X σ => isM X 8 0 σ.v [pA, pO] σ) := by
  intro w X σ h
  have f3 := h.f3
  have hF := h.ltF
  have hfre := h.fresh
  have Hst : Hid (St X w σ) := h
  have Hfre : Hid (¬ X.own w.heap.size) := hfre
  clear h hfre
  have HP : Hid (∀ W : World, ∀ p ∈ ([⟨72, #[], pA⟩, ⟨128, #[], pO⟩] : List Prt), PartOk X W p.n p.cap p.f σ.v) := by
    intro W p hp
    simp at hp
    rcases hp with rfl | rfl
    · exact okA Hst.out.vs
    · exact okO Hst.out.vs
  go_enter Tryz.func129, Tryz.ntmps129
  go_wp2_with fail
  have cI := is_gen (w.alloc (.cells #[.func (.func 72) #[] #[], .func (.func 128) #[] #[]] 85)) X σ (Hst.out.alloc _) 8 0 σ.v w.heap.size [⟨72, #[], pA⟩, ⟨128, #[], pO⟩] (by decide) (Hst.out.fresh) (MapKept.heap_alloc w (.cells #[.func (.func 72) #[] #[], .func (.func 128) #[] #[]] 85)).1 (HP.out _)
  refine cI.mono ?_; rintro e w2 ⟨rfl, hd⟩
  have hk := ((Kp.alloc X.own _ _)).trans hd.2
  have hs9 := hd.1
  clear hd
  go_wp2
  go_end0
  exact ⟨rfl, hs9, hk⟩

theorem rA0_6 : RuleOk 134 (fun X σ => isStr X 0 σ.v σ) := by
  intro w X σ h
  have f3 := h.f3
  have c := isString_ok w X σ h 0 σ.v (h.vs)
  clear h
  go_enter Tryz.func134, Tryz.ntmps134
  go_wp2_with fail
  refine c.mono ?_; rintro e w1 ⟨rfl, hd⟩
  go_wp2
  go_end0
  exact ⟨rfl, hd⟩

set_option maxHeartbeats 4000000 in
theorem rA0_10 : RuleOk 138 (fun X σ => isM X 1 8 σ.v [pA, pI] σ) := by
  intro w X σ h
  have f3 := h.f3
  have hF := h.ltF
  have hfre := h.fresh
  have Hst : Hid (St X w σ) := h
  have Hfre : Hid (¬ X.own w.heap.size) := hfre
  clear h hfre
  have HP : Hid (∀ W : World, ∀ p ∈ ([⟨72, #[], pA⟩, ⟨73, #[], pI⟩] : List Prt), PartOk X W p.n p.cap p.f σ.v) := by
    intro W p hp
    simp at hp
    rcases hp with rfl | rfl
    · exact okA Hst.out.vs
    · exact okI Hst.out.vs
  go_enter Tryz.func138, Tryz.ntmps138
  go_wp2_with fail
  have cI := is_gen (w.alloc (.cells #[.func (.func 72) #[] #[], .func (.func 73) #[] #[]] 85)) X σ (Hst.out.alloc _) 1 8 σ.v w.heap.size [⟨72, #[], pA⟩, ⟨73, #[], pI⟩] (by decide) (Hst.out.fresh) (MapKept.heap_alloc w (.cells #[.func (.func 72) #[] #[], .func (.func 73) #[] #[]] 85)).1 (HP.out _)
  refine cI.mono ?_; rintro e w2 ⟨rfl, hd⟩
  have hk := ((Kp.alloc X.own _ _)).trans hd.2
  have hs9 := hd.1
  clear hd
  go_wp2
  go_end0
  exact ⟨rfl, hs9, hk⟩

theorem rA0_14 : RuleOk 142 (fun X σ => isStr X 3 σ.v σ) := by
  intro w X σ h
  have f3 := h.f3
  have c := isString_ok w X σ h 3 σ.v (h.vs)
  clear h
  go_enter Tryz.func142, Tryz.ntmps142
  go_wp2_with fail
  refine c.mono ?_; rintro e w1 ⟨rfl, hd⟩
  go_wp2
  go_end0
  exact ⟨rfl, hd⟩

set_option maxHeartbeats 4000000 in
theorem rA0_18 : RuleOk 146 (fun X σ => isM X 8 0 σ.v [pR, pI] σ) := by
  intro w X σ h
  have f3 := h.f3
  have hF := h.ltF
  have hfre := h.fresh
  have Hst : Hid (St X w σ) := h
  have Hfre : Hid (¬ X.own w.heap.size) := hfre
  clear h hfre
  have HP : Hid (∀ W : World, ∀ p ∈ ([⟨88, #[], pR⟩, ⟨73, #[], pI⟩] : List Prt), PartOk X W p.n p.cap p.f σ.v) := by
    intro W p hp
    simp at hp
    rcases hp with rfl | rfl
    · exact okR Hst.out.vs
    · exact okI Hst.out.vs
  go_enter Tryz.func146, Tryz.ntmps146
  go_wp2_with fail
  have cI := is_gen (w.alloc (.cells #[.func (.func 88) #[] #[], .func (.func 73) #[] #[]] 85)) X σ (Hst.out.alloc _) 8 0 σ.v w.heap.size [⟨88, #[], pR⟩, ⟨73, #[], pI⟩] (by decide) (Hst.out.fresh) (MapKept.heap_alloc w (.cells #[.func (.func 88) #[] #[], .func (.func 73) #[] #[]] 85)).1 (HP.out _)
  refine cI.mono ?_; rintro e w2 ⟨rfl, hd⟩
  have hk := ((Kp.alloc X.own _ _)).trans hd.2
  have hs9 := hd.1
  clear hd
  go_wp2
  go_end0
  exact ⟨rfl, hs9, hk⟩

set_option maxHeartbeats 4000000 in
theorem rC0_4 : RuleOk 152 (fun X σ => isM X 30 0 σ.v [pNum 0] σ) := by
  intro w X σ h
  have f3 := h.f3
  have hF := h.ltF
  have hfre := h.fresh
  have Hst : Hid (St X w σ) := h
  have Hfre : Hid (¬ X.own w.heap.size) := hfre
  clear h hfre
  have HP : Hid (∀ (W : World) (q : Nat), ¬ X.own q → W.cell? ⟨q, 0, none⟩ = some (.int .u32 0) → ∀ p ∈ ([⟨258, #[.pointer (some ⟨q, 0, none⟩)], pNum 0⟩] : List Prt), PartOk X W p.n p.cap p.f σ.v) := by
    intro W q hq hc p hp
    simp at hp
    subst hp
    exact num_ok hq hc
  go_enter Tryz.func152, Tryz.ntmps152
  have Hd0 : Hid (St X w.drew σ) := Hst.out.drewN 1
  have Kd0 : Hid (Kp X.own w w.drew) := (Kp.refl _ _).drewN 1
  have Hd2 : Hid (St X ((w.alloc (.cells #[.int .u32 0] 24)).alloc (.cells #[.func (.func 258) #[] #[.pointer (some ⟨w.heap.size, 0, none⟩)]] 85)).drew σ) := ((Hst.out.alloc _).alloc _).drewN 1
  have Kd2 : Hid (Kp X.own w ((w.alloc (.cells #[.int .u32 0] 24)).alloc (.cells #[.func (.func 258) #[] #[.pointer (some ⟨w.heap.size, 0, none⟩)]] 85)).drew) := ((Kp.alloc X.own w _).trans (Kp.alloc X.own _ _)).drewN 1
  have Hh2 : Hid (((w.alloc (.cells #[.int .u32 0] 24)).alloc (.cells #[.func (.func 258) #[] #[.pointer (some ⟨w.heap.size, 0, none⟩)]] 85)).drew.heap[w.heap.size + 1]? = some (.cells #[.func (.func 258) #[] #[.pointer (some ⟨w.heap.size, 0, none⟩)]] 85)) := heap2 w _ _
  have Hc2 : Hid (((w.alloc (.cells #[.int .u32 0] 24)).alloc (.cells #[.func (.func 258) #[] #[.pointer (some ⟨w.heap.size, 0, none⟩)]] 85)).drew.cell? ⟨w.heap.size, 0, none⟩ = some (.int .u32 0)) := cell_kept (cell_new w (.int .u32 0) 24) ((Kp.alloc X.own _ _).drewN 1) Hfre.out
  have Hf2 : Hid (¬ X.own (w.heap.size + 1)) := Hst.out.fresh1
  go_region_with (first
    | (go_at_call 153; refine (constant_ok _ _).mono ?_; rintro e w3 ⟨rfl, hw⟩; subst hw)
    | (go_at_call 64; have cI := is_gen ((w.alloc (.cells #[.int .u32 0] 24)).alloc (.cells #[.func (.func 258) #[] #[.pointer (some ⟨w.heap.size, 0, none⟩)]] 85)).drew X σ Hd2.out 30 0 σ.v (w.heap.size + 1) [⟨258, #[.pointer (some ⟨w.heap.size, 0, none⟩)], pNum 0⟩] (by simp) Hf2.out Hh2.out (HP.out _ _ Hfre.out Hc2.out); refine cI.mono ?_; rintro e w2 ⟨rfl, hd⟩; have hk := Kd2.out.trans hd.2))
  all_goals
    have hs9 := hd.1
    clear hd
    go_wp2
    go_end0
    exact ⟨rfl, hs9, hk⟩

set_option maxHeartbeats 4000000 in
theorem rC0_8 : RuleOk 157 (fun X σ => isM X 32 1 4 [pNum 3] σ) := by
  intro w X σ h
  have f3 := h.f3
  have hF := h.ltF
  have hfre := h.fresh
  have Hst : Hid (St X w σ) := h
  have Hfre : Hid (¬ X.own w.heap.size) := hfre
  clear h hfre
  have HP : Hid (∀ (W : World) (q : Nat), ¬ X.own q → W.cell? ⟨q, 0, none⟩ = some (.int .u32 3) → ∀ p ∈ ([⟨258, #[.pointer (some ⟨q, 0, none⟩)], pNum 3⟩] : List Prt), PartOk X W p.n p.cap p.f 4) := by
    intro W q hq hc p hp
    simp at hp
    subst hp
    exact num_ok hq hc
  go_enter Tryz.func157, Tryz.ntmps157
  go_wp2_with fail
  refine (constant_ok _ _).mono ?_; rintro e w3 ⟨rfl, hw⟩; subst hw
  have hcap : w.alloc (.cells #[.int .u32 3] 24) = w.alloc (.cells #[.int .u32 3] 24) := rfl
  have g1 : St X (w.alloc (.cells #[.int .u32 3] 24)) σ := Hst.out.alloc _
  have gc := cell_new w (.int .u32 3) 24
  go_wp2_with fail
  have cI := is_gen ((w.alloc (.cells #[.int .u32 3] 24)).alloc (.cells #[.func (.func 258) #[] #[.pointer (some ⟨w.heap.size, 0, none⟩)]] 85)) X σ (g1.alloc _) 32 1 4 (w.heap.size + 1) [⟨258, #[.pointer (some ⟨w.heap.size, 0, none⟩)], pNum 3⟩] (by simp) Hst.out.fresh1 (heap2 w (.cells #[.int .u32 3] 24) (.cells #[.func (.func 258) #[] #[.pointer (some ⟨w.heap.size, 0, none⟩)]] 85)) (HP.out _ _ (Hst.out.fresh) (cell_kept gc (Kp.alloc X.own _ _) (Hst.out.fresh)))
  refine cI.mono ?_; rintro e w2 ⟨rfl, hd⟩
  have hk := (((Kp.alloc X.own _ _)).trans (Kp.alloc X.own _ _)).trans hd.2
  have hs9 := hd.1
  clear hd
  go_wp2
  go_end0
  exact ⟨rfl, hs9, hk⟩

set_option maxHeartbeats 4000000 in
theorem rC0_12 : RuleOk 161 (fun X σ => isM X 2 (modrm X σ).1.2.1 1 [pE, pNum 1] (modrm X σ).2) := by
  intro w X σ h
  have f3 := h.f3
  have hF := h.ltF
  have hfre := h.fresh
  have cM := fun W (hW : St X W σ) => modrm_ok W X σ hW
  have hv1 := modrm_v X σ
  have hbd := modrm_bd h
  obtain ⟨⟨m, n, r⟩, hm⟩ : ∃ x, x = (modrm X σ).1 := ⟨_, rfl⟩
  obtain ⟨σ1, hσ1⟩ : ∃ σ1, σ1 = (modrm X σ).2 := ⟨_, rfl⟩
  obtain ⟨V, hV⟩ : ∃ V, V = isM X 2 n 1 [pE, pNum 1] σ1 := ⟨_, rfl⟩
  show Calls _ _ _ _ fun e w' => _ ∧ Done X w (isM X 2 (modrm X σ).1.2.1 1 [pE, pNum 1] (modrm X σ).2) w'
  rw [show isM X 2 (modrm X σ).1.2.1 1 [pE, pNum 1] (modrm X σ).2 = V by rw [hV, hσ1, ← hm]]
  simp only [← hm, ← hσ1, mrV] at cM hv1 hbd
  obtain ⟨_, ⟨n0, n1⟩, _⟩ := hbd
  have fl1 := fld1
  have HV : Hid (V = isM X 2 n 1 [pE, pNum 1] σ1) := hV
  have Hv1 : Hid (σ1.v = σ.v) := hv1
  have HM : Hid _ := cM
  clear hm hσ1 hV hv1 cM
  have Hst : Hid (St X w σ) := h
  have Hfre : Hid (¬ X.own w.heap.size) := hfre
  clear h hfre
  have HP : Hid (∀ (W : World) (q : Nat), ¬ X.own q → W.cell? ⟨q, 0, none⟩ = some (.int .u32 1) → ∀ p ∈ ([⟨66, #[], pE⟩, ⟨258, #[.pointer (some ⟨q, 0, none⟩)], pNum 1⟩] : List Prt), PartOk X W p.n p.cap p.f 1) := by
    intro W q hq hc p hp
    simp at hp
    rcases hp with rfl | rfl
    · exact okE (by decide)
    · exact num_ok hq hc
  go_enter Tryz.func161, Tryz.ntmps161
  go_wp2_with fail
  refine (HM.out _ Hst.out).mono ?_; rintro e w1 ⟨rfl, h1, k1⟩
  go_wp2_with fail
  refine (constant_ok _ _).mono ?_; rintro e w3 ⟨rfl, hw⟩; subst hw
  have hcap : w1.alloc (.cells #[.int .u32 1] 24) = w1.alloc (.cells #[.int .u32 1] 24) := rfl
  have g1 : St X (w1.alloc (.cells #[.int .u32 1] 24)) σ1 := h1.alloc _
  have gc := cell_new w1 (.int .u32 1) 24
  go_wp2_with fail
  have cI := is_gen ((w1.alloc (.cells #[.int .u32 1] 24)).alloc (.cells #[.func (.func 66) #[] #[], .func (.func 258) #[] #[.pointer (some ⟨w1.heap.size, 0, none⟩)]] 85)) X σ1 (g1.alloc _) 2 n 1 (w1.heap.size + 1) [⟨66, #[], pE⟩, ⟨258, #[.pointer (some ⟨w1.heap.size, 0, none⟩)], pNum 1⟩] (by simp) h1.fresh1 (heap2 w1 (.cells #[.int .u32 1] 24) (.cells #[.func (.func 66) #[] #[], .func (.func 258) #[] #[.pointer (some ⟨w1.heap.size, 0, none⟩)]] 85)) (HP.out _ _ (h1.fresh) (cell_kept gc (Kp.alloc X.own _ _) (h1.fresh)))
  refine cI.mono ?_; rintro e w2 ⟨rfl, hd⟩
  have hk := (((k1).trans (Kp.alloc X.own _ _)).trans (Kp.alloc X.own _ _)).trans hd.2
  have hs9 := hd.1
  clear hd
  go_wp2
  go_end0
  rw [HV.out]
  exact ⟨rfl, hs9, hk⟩

set_option maxHeartbeats 4000000 in
theorem rC0_16 : RuleOk 166 (fun X σ => isM X 7 4 1 [pI] σ) := by
  intro w X σ h
  have f3 := h.f3
  have hF := h.ltF
  have hfre := h.fresh
  have Hst : Hid (St X w σ) := h
  have Hfre : Hid (¬ X.own w.heap.size) := hfre
  clear h hfre
  have HP : Hid (∀ W : World, ∀ p ∈ ([⟨73, #[], pI⟩] : List Prt), PartOk X W p.n p.cap p.f 1) := by
    intro W p hp
    simp at hp
    subst hp
    exact okI (by decide)
  go_enter Tryz.func166, Tryz.ntmps166
  go_wp2_with fail
  have cI := is_gen (w.alloc (.cells #[.func (.func 73) #[] #[]] 85)) X σ (Hst.out.alloc _) 7 4 1 w.heap.size [⟨73, #[], pI⟩] (by decide) (Hst.out.fresh) (MapKept.heap_alloc w (.cells #[.func (.func 73) #[] #[]] 85)).1 (HP.out _)
  refine cI.mono ?_; rintro e w2 ⟨rfl, hd⟩
  have hk := ((Kp.alloc X.own _ _)).trans hd.2
  have hs9 := hd.1
  clear hd
  go_wp2
  go_end0
  exact ⟨rfl, hs9, hk⟩

set_option maxHeartbeats 4000000 in
theorem rE0_3 : RuleOk 170 (fun X σ => isM X 31 2 σ.v [pJb] σ) := by
  intro w X σ h
  have f3 := h.f3
  have hF := h.ltF
  have hfre := h.fresh
  have Hst : Hid (St X w σ) := h
  have Hfre : Hid (¬ X.own w.heap.size) := hfre
  clear h hfre
  have HP : Hid (∀ W : World, ∀ p ∈ ([⟨101, #[], pJb⟩] : List Prt), PartOk X W p.n p.cap p.f σ.v) := by
    intro W p hp
    simp at hp
    subst hp
    exact okJb Hst.out.vs
  go_enter Tryz.func170, Tryz.ntmps170
  go_wp2_with fail
  have cI := is_gen (w.alloc (.cells #[.func (.func 101) #[] #[]] 85)) X σ (Hst.out.alloc _) 31 2 σ.v w.heap.size [⟨101, #[], pJb⟩] (by decide) (Hst.out.fresh) (MapKept.heap_alloc w (.cells #[.func (.func 101) #[] #[]] 85)).1 (HP.out _)
  refine cI.mono ?_; rintro e w2 ⟨rfl, hd⟩
  have hk := ((Kp.alloc X.own _ _)).trans hd.2
  have hs9 := hd.1
  clear hd
  go_wp2
  go_end0
  exact ⟨rfl, hs9, hk⟩

set_option maxHeartbeats 4000000 in
theorem rE0_7 : RuleOk 174 (fun X σ => isM X 38 0 1 [pIb, pA] σ) := by
  intro w X σ h
  have f3 := h.f3
  have hF := h.ltF
  have hfre := h.fresh
  have Hst : Hid (St X w σ) := h
  have Hfre : Hid (¬ X.own w.heap.size) := hfre
  clear h hfre
  have HP : Hid (∀ W : World, ∀ p ∈ ([⟨148, #[], pIb⟩, ⟨72, #[], pA⟩] : List Prt), PartOk X W p.n p.cap p.f 1) := by
    intro W p hp
    simp at hp
    rcases hp with rfl | rfl
    · exact okIb (by decide)
    · exact okA (by decide)
  go_enter Tryz.func174, Tryz.ntmps174
  go_wp2_with fail
  have cI := is_gen (w.alloc (.cells #[.func (.func 148) #[] #[], .func (.func 72) #[] #[]] 85)) X σ (Hst.out.alloc _) 38 0 1 w.heap.size [⟨148, #[], pIb⟩, ⟨72, #[], pA⟩] (by decide) (Hst.out.fresh) (MapKept.heap_alloc w (.cells #[.func (.func 148) #[] #[], .func (.func 72) #[] #[]] 85)).1 (HP.out _)
  refine cI.mono ?_; rintro e w2 ⟨rfl, hd⟩
  have hk := ((Kp.alloc X.own _ _)).trans hd.2
  have hs9 := hd.1
  clear hd
  go_wp2
  go_end0
  exact ⟨rfl, hs9, hk⟩

set_option maxHeartbeats 4000000 in
theorem rE0_11 : RuleOk 179 (fun X σ => isM X 34 0 σ.v [pFar] σ) := by
  intro w X σ h
  have f3 := h.f3
  have hF := h.ltF
  have hfre := h.fresh
  have Hst : Hid (St X w σ) := h
  have Hfre : Hid (¬ X.own w.heap.size) := hfre
  clear h hfre
  have HP : Hid (∀ W : World, ∀ p ∈ ([⟨180, #[], pFar⟩] : List Prt), PartOk X W p.n p.cap p.f σ.v) := by
    intro W p hp
    simp at hp
    subst hp
    exact okFar Hst.out.vs
  go_enter Tryz.func179, Tryz.ntmps179
  go_wp2_with fail
  have cI := is_gen (w.alloc (.cells #[.func (.func 180) #[] #[]] 85)) X σ (Hst.out.alloc _) 34 0 σ.v w.heap.size [⟨180, #[], pFar⟩] (by decide) (Hst.out.fresh) (MapKept.heap_alloc w (.cells #[.func (.func 180) #[] #[]] 85)).1 (HP.out _)
  refine cI.mono ?_; rintro e w2 ⟨rfl, hd⟩
  have hk := ((Kp.alloc X.own _ _)).trans hd.2
  have hs9 := hd.1
  clear hd
  go_wp2
  go_end0
  exact ⟨rfl, hs9, hk⟩

set_option maxHeartbeats 4000000 in
theorem rE0_15 : RuleOk 185 (fun X σ => isM X 38 0 1 [pDX, pA] σ) := by
  intro w X σ h
  have f3 := h.f3
  have hF := h.ltF
  have hfre := h.fresh
  have Hst : Hid (St X w σ) := h
  have Hfre : Hid (¬ X.own w.heap.size) := hfre
  clear h hfre
  have HP : Hid (∀ W : World, ∀ p ∈ ([⟨183, #[], pDX⟩, ⟨72, #[], pA⟩] : List Prt), PartOk X W p.n p.cap p.f 1) := by
    intro W p hp
    simp at hp
    rcases hp with rfl | rfl
    · exact okDX (by decide)
    · exact okA (by decide)
  go_enter Tryz.func185, Tryz.ntmps185
  go_wp2_with fail
  have cI := is_gen (w.alloc (.cells #[.func (.func 183) #[] #[], .func (.func 72) #[] #[]] 85)) X σ (Hst.out.alloc _) 38 0 1 w.heap.size [⟨183, #[], pDX⟩, ⟨72, #[], pA⟩] (by decide) (Hst.out.fresh) (MapKept.heap_alloc w (.cells #[.func (.func 183) #[] #[], .func (.func 72) #[] #[]] 85)).1 (HP.out _)
  refine cI.mono ?_; rintro e w2 ⟨rfl, hd⟩
  have hk := ((Kp.alloc X.own _ _)).trans hd.2
  have hs9 := hd.1
  clear hd
  go_wp2
  go_end0
  exact ⟨rfl, hs9, hk⟩

set_option maxHeartbeats 4000000 in
theorem rE0_21 : RuleOk 192 (fun X σ => isM X 39 0 4 [] σ) := by
  intro w X σ h
  have f3 := h.f3
  have hF := h.ltF
  have hfre := h.fresh
  have Hst : Hid (St X w σ) := h
  have Hfre : Hid (¬ X.own w.heap.size) := hfre
  clear h hfre
  go_enter Tryz.func192, Tryz.ntmps192
  go_wp2_with fail
  refine (is_nil _ X σ Hst.out 39 0 4).mono ?_; rintro e w2 ⟨rfl, hd⟩
  have hk := hd.2
  have hs9 := hd.1
  clear hd
  go_wp2
  go_end0
  exact ⟨rfl, hs9, hk⟩

set_option maxHeartbeats 4000000 in
theorem rE0_25 : RuleOk 196 (fun X σ => isM X 39 3 4 [] σ) := by
  intro w X σ h
  have f3 := h.f3
  have hF := h.ltF
  have hfre := h.fresh
  have Hst : Hid (St X w σ) := h
  have Hfre : Hid (¬ X.own w.heap.size) := hfre
  clear h hfre
  go_enter Tryz.func196, Tryz.ntmps196
  go_wp2_with fail
  refine (is_nil _ X σ Hst.out 39 3 4).mono ?_; rintro e w2 ⟨rfl, hd⟩
  have hk := hd.2
  have hs9 := hd.1
  clear hd
  go_wp2
  go_end0
  exact ⟨rfl, hs9, hk⟩

set_option maxHeartbeats 4000000 in
theorem r0F_2 : RuleOk 202 (fun X σ => isM X 47 0 4 [] σ) := by
  intro w X σ h
  have f3 := h.f3
  have hF := h.ltF
  have hfre := h.fresh
  have Hst : Hid (St X w σ) := h
  have Hfre : Hid (¬ X.own w.heap.size) := hfre
  clear h hfre
  go_enter Tryz.func202, Tryz.ntmps202
  go_wp2_with fail
  refine (is_nil _ X σ Hst.out 47 0 4).mono ?_; rintro e w2 ⟨rfl, hd⟩
  have hk := hd.2
  have hs9 := hd.1
  clear hd
  go_wp2
  go_end0
  exact ⟨rfl, hs9, hk⟩

set_option maxHeartbeats 4000000 in
theorem r0F_6 : RuleOk 208 (fun X σ => isM X 28 (σ.op % 16) σ.v [pJ] σ) := by
  intro w X σ h
  have f3 := h.f3
  have hF := h.ltF
  have hfre := h.fresh
  have Hst : Hid (St X w σ) := h
  have Hfre : Hid (¬ X.own w.heap.size) := hfre
  clear h hfre
  have HP : Hid (∀ W : World, ∀ p ∈ ([⟨177, #[], pJ⟩] : List Prt), PartOk X W p.n p.cap p.f σ.v) := by
    intro W p hp
    simp at hp
    subst hp
    exact okJ Hst.out.vs
  go_enter Tryz.func208, Tryz.ntmps208
  have Hd0 : Hid (St X w.drew σ) := Hst.out.drewN 1
  have Kd0 : Hid (Kp X.own w w.drew) := (Kp.refl _ _).drewN 1
  have Hd1 : Hid (St X (w.alloc (.cells #[.func (.func 177) #[] #[]] 85)).drew σ) := (Hst.out.alloc _).drewN 1
  have Kd1 : Hid (Kp X.own w (w.alloc (.cells #[.func (.func 177) #[] #[]] 85)).drew) := (Kp.alloc _ _ _).drewN 1
  have Hh1 : Hid ((w.alloc (.cells #[.func (.func 177) #[] #[]] 85)).drew.heap[w.heap.size]? = some (.cells #[.func (.func 177) #[] #[]] 85)) := (MapKept.heap_alloc w _).1
  go_region_with (first
    | (go_at_call 100; refine Calls.mono (c_ok _ X σ ?_) ?_; (first | exact Hd0.out | exact Hd1.out); rintro e w0 ⟨rfl, hw⟩; subst hw)
    | (go_at_call 64; have cI := is_gen (w.alloc (.cells #[.func (.func 177) #[] #[]] 85)).drew X σ Hd1.out 28 (σ.op % 16) σ.v w.heap.size [⟨177, #[], pJ⟩] (by decide) Hfre.out Hh1.out (HP.out _); refine cI.mono ?_; rintro e w2 ⟨rfl, hd⟩; have hk := Kd1.out.trans hd.2))
  all_goals
    have hs9 := hd.1
    clear hd
    go_wp2
    go_end0
    exact ⟨rfl, hs9, hk⟩

set_option maxHeartbeats 4000000 in
theorem r0F_10 : RuleOk 212 (fun X σ => isM X 23 0 σ.v [pE, pG] σ) := by
  intro w X σ h
  have f3 := h.f3
  have hF := h.ltF
  have hfre := h.fresh
  have Hst : Hid (St X w σ) := h
  have Hfre : Hid (¬ X.own w.heap.size) := hfre
  clear h hfre
  have HP : Hid (∀ W : World, ∀ p ∈ ([⟨66, #[], pE⟩, ⟨67, #[], pG⟩] : List Prt), PartOk X W p.n p.cap p.f σ.v) := by
    intro W p hp
    simp at hp
    rcases hp with rfl | rfl
    · exact okE Hst.out.vs
    · exact okG Hst.out.vs
  go_enter Tryz.func212, Tryz.ntmps212
  go_wp2_with fail
  have cI := is_gen (w.alloc (.cells #[.func (.func 66) #[] #[], .func (.func 67) #[] #[]] 85)) X σ (Hst.out.alloc _) 23 0 σ.v w.heap.size [⟨66, #[], pE⟩, ⟨67, #[], pG⟩] (by decide) (Hst.out.fresh) (MapKept.heap_alloc w (.cells #[.func (.func 66) #[] #[], .func (.func 67) #[] #[]] 85)).1 (HP.out _)
  refine cI.mono ?_; rintro e w2 ⟨rfl, hd⟩
  have hk := ((Kp.alloc X.own _ _)).trans hd.2
  have hs9 := hd.1
  clear hd
  go_wp2
  go_end0
  exact ⟨rfl, hs9, hk⟩

set_option maxHeartbeats 4000000 in
theorem r0F_14 : RuleOk 216 (fun X σ => isM X 13 0 σ.v [pSeg 5] σ) := by
  intro w X σ h
  have f3 := h.f3
  have hF := h.ltF
  have hfre := h.fresh
  have Hst : Hid (St X w σ) := h
  have Hfre : Hid (¬ X.own w.heap.size) := hfre
  clear h hfre
  have HP : Hid (∀ (W : World) (q : Nat), ¬ X.own q → W.cell? ⟨q, 0, none⟩ = some (.int .i64 5) → ∀ p ∈ ([⟨252, #[.pointer (some ⟨q, 0, none⟩)], pSeg 5⟩] : List Prt), PartOk X W p.n p.cap p.f σ.v) := by
    intro W q hq hc p hp
    simp at hp
    subst hp
    exact seg_ok hq hc
  go_enter Tryz.func216, Tryz.ntmps216
  have Hd0 : Hid (St X w.drew σ) := Hst.out.drewN 1
  have Kd0 : Hid (Kp X.own w w.drew) := (Kp.refl _ _).drewN 1
  have Hd2 : Hid (St X ((w.alloc (.cells #[.int .i64 5] 3)).alloc (.cells #[.func (.func 252) #[] #[.pointer (some ⟨w.heap.size, 0, none⟩)]] 85)).drew σ) := ((Hst.out.alloc _).alloc _).drewN 1
  have Kd2 : Hid (Kp X.own w ((w.alloc (.cells #[.int .i64 5] 3)).alloc (.cells #[.func (.func 252) #[] #[.pointer (some ⟨w.heap.size, 0, none⟩)]] 85)).drew) := ((Kp.alloc X.own w _).trans (Kp.alloc X.own _ _)).drewN 1
  have Hh2 : Hid (((w.alloc (.cells #[.int .i64 5] 3)).alloc (.cells #[.func (.func 252) #[] #[.pointer (some ⟨w.heap.size, 0, none⟩)]] 85)).drew.heap[w.heap.size + 1]? = some (.cells #[.func (.func 252) #[] #[.pointer (some ⟨w.heap.size, 0, none⟩)]] 85)) := heap2 w _ _
  have Hc2 : Hid (((w.alloc (.cells #[.int .i64 5] 3)).alloc (.cells #[.func (.func 252) #[] #[.pointer (some ⟨w.heap.size, 0, none⟩)]] 85)).drew.cell? ⟨w.heap.size, 0, none⟩ = some (.int .i64 5)) := cell_kept (cell_new w (.int .i64 5) 3) ((Kp.alloc X.own _ _).drewN 1) Hfre.out
  have Hf2 : Hid (¬ X.own (w.heap.size + 1)) := Hst.out.fresh1
  go_region_with (first
    | (go_at_call 76; refine (segment_ok _ _).mono ?_; rintro e w3 ⟨rfl, hw⟩; subst hw)
    | (go_at_call 64; have cI := is_gen ((w.alloc (.cells #[.int .i64 5] 3)).alloc (.cells #[.func (.func 252) #[] #[.pointer (some ⟨w.heap.size, 0, none⟩)]] 85)).drew X σ Hd2.out 13 0 σ.v (w.heap.size + 1) [⟨252, #[.pointer (some ⟨w.heap.size, 0, none⟩)], pSeg 5⟩] (by simp) Hf2.out Hh2.out (HP.out _ _ Hfre.out Hc2.out); refine cI.mono ?_; rintro e w2 ⟨rfl, hd⟩; have hk := Kd2.out.trans hd.2))
  all_goals
    have hs9 := hd.1
    clear hd
    go_wp2
    go_end0
    exact ⟨rfl, hs9, hk⟩

set_option maxHeartbeats 4000000 in
theorem r0F_18 : RuleOk 220 (fun X σ => isM X 5 0 σ.v [pG, pE] σ) := by
  intro w X σ h
  have f3 := h.f3
  have hF := h.ltF
  have hfre := h.fresh
  have Hst : Hid (St X w σ) := h
  have Hfre : Hid (¬ X.own w.heap.size) := hfre
  clear h hfre
  have HP : Hid (∀ W : World, ∀ p ∈ ([⟨67, #[], pG⟩, ⟨66, #[], pE⟩] : List Prt), PartOk X W p.n p.cap p.f σ.v) := by
    intro W p hp
    simp at hp
    rcases hp with rfl | rfl
    · exact okG Hst.out.vs
    · exact okE Hst.out.vs
  go_enter Tryz.func220, Tryz.ntmps220
  go_wp2_with fail
  have cI := is_gen (w.alloc (.cells #[.func (.func 67) #[] #[], .func (.func 66) #[] #[]] 85)) X σ (Hst.out.alloc _) 5 0 σ.v w.heap.size [⟨67, #[], pG⟩, ⟨66, #[], pE⟩] (by decide) (Hst.out.fresh) (MapKept.heap_alloc w (.cells #[.func (.func 67) #[] #[], .func (.func 66) #[] #[]] 85)).1 (HP.out _)
  refine cI.mono ?_; rintro e w2 ⟨rfl, hd⟩
  have hk := ((Kp.alloc X.own _ _)).trans hd.2
  have hs9 := hd.1
  clear hd
  go_wp2
  go_end0
  exact ⟨rfl, hs9, hk⟩

set_option maxHeartbeats 4000000 in
theorem r0F_23 : RuleOk 227 (fun X σ => isM X 23 3 σ.v [pE, pG] σ) := by
  intro w X σ h
  have f3 := h.f3
  have hF := h.ltF
  have hfre := h.fresh
  have Hst : Hid (St X w σ) := h
  have Hfre : Hid (¬ X.own w.heap.size) := hfre
  clear h hfre
  have HP : Hid (∀ W : World, ∀ p ∈ ([⟨66, #[], pE⟩, ⟨67, #[], pG⟩] : List Prt), PartOk X W p.n p.cap p.f σ.v) := by
    intro W p hp
    simp at hp
    rcases hp with rfl | rfl
    · exact okE Hst.out.vs
    · exact okG Hst.out.vs
  go_enter Tryz.func227, Tryz.ntmps227
  go_wp2_with fail
  have cI := is_gen (w.alloc (.cells #[.func (.func 66) #[] #[], .func (.func 67) #[] #[]] 85)) X σ (Hst.out.alloc _) 23 3 σ.v w.heap.size [⟨66, #[], pE⟩, ⟨67, #[], pG⟩] (by decide) (Hst.out.fresh) (MapKept.heap_alloc w (.cells #[.func (.func 66) #[] #[], .func (.func 67) #[] #[]] 85)).1 (HP.out _)
  refine cI.mono ?_; rintro e w2 ⟨rfl, hd⟩
  have hk := ((Kp.alloc X.own _ _)).trans hd.2
  have hs9 := hd.1
  clear hd
  go_wp2
  go_end0
  exact ⟨rfl, hs9, hk⟩

set_option maxHeartbeats 4000000 in
theorem r0F_27 : RuleOk 231 (fun X σ => isM X 9 1 σ.v [pG, pEw] σ) := by
  intro w X σ h
  have f3 := h.f3
  have hF := h.ltF
  have hfre := h.fresh
  have Hst : Hid (St X w σ) := h
  have Hfre : Hid (¬ X.own w.heap.size) := hfre
  clear h hfre
  have HP : Hid (∀ W : World, ∀ p ∈ ([⟨67, #[], pG⟩, ⟨225, #[], pEw⟩] : List Prt), PartOk X W p.n p.cap p.f σ.v) := by
    intro W p hp
    simp at hp
    rcases hp with rfl | rfl
    · exact okG Hst.out.vs
    · exact okEw Hst.out.vs
  go_enter Tryz.func231, Tryz.ntmps231
  go_wp2_with fail
  have cI := is_gen (w.alloc (.cells #[.func (.func 67) #[] #[], .func (.func 225) #[] #[]] 85)) X σ (Hst.out.alloc _) 9 1 σ.v w.heap.size [⟨67, #[], pG⟩, ⟨225, #[], pEw⟩] (by decide) (Hst.out.fresh) (MapKept.heap_alloc w (.cells #[.func (.func 67) #[] #[], .func (.func 225) #[] #[]] 85)).1 (HP.out _)
  refine cI.mono ?_; rintro e w2 ⟨rfl, hd⟩
  have hk := ((Kp.alloc X.own _ _)).trans hd.2
  have hs9 := hd.1
  clear hd
  go_wp2
  go_end0
  exact ⟨rfl, hs9, hk⟩

end Go.Proofs.YtolnaodlghahlaaGreatDoor
