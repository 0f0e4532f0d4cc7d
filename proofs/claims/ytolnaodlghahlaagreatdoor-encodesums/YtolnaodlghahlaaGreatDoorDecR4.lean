/- Contracts of the table's rules. -/
import Derived.Test.YtolnaodlghahlaaGreatDoorDecRule0
import Derived.Deep.RegionWith
namespace Go.Proofs.YtolnaodlghahlaaGreatDoor
open Go.ChangeShapes Go.WideShapes Go.ChangeAt Go.RowKit
set_option linter.unusedVariables false
set_option maxRecDepth 100000

set_option maxHeartbeats 4000000 in
theorem r00_4 : RuleOk 70 (fun X σ => isM X 1 (σ.op / 8 % 8) σ.v [pG, pE] σ) := by
  intro w X σ h
  have f3 := h.f3
  have hF := h.ltF
  have hfre := h.fresh
  have Hst : Hid (St X w σ) := h
  have Hfre : Hid (¬ X.own w.heap.size) := hfre
  clear h hfre
  have HP : Hid (∀ W : World, ∀ p ∈ ([⟨67, #[], pG⟩, ⟨66, #[], pE⟩] : List Prt), PartOk X W p.n p.cap p.f σ.v) := by
    intro W p hp
    simp at hp
    rcases hp with rfl | rfl
    · exact okG Hst.out.vs
    · exact okE Hst.out.vs
  go_enter Tryz.func70, Tryz.ntmps70
  have Hd0 : Hid (St X w.drew σ) := Hst.out.drewN 1
  have Kd0 : Hid (Kp X.own w w.drew) := (Kp.refl _ _).drewN 1
  have Hd1 : Hid (St X (w.alloc (.cells #[.func (.func 67) #[] #[], .func (.func 66) #[] #[]] 85)).drew σ) := (Hst.out.alloc _).drewN 1
  have Kd1 : Hid (Kp X.own w (w.alloc (.cells #[.func (.func 67) #[] #[], .func (.func 66) #[] #[]] 85)).drew) := (Kp.alloc _ _ _).drewN 1
  have Hh1 : Hid ((w.alloc (.cells #[.func (.func 67) #[] #[], .func (.func 66) #[] #[]] 85)).drew.heap[w.heap.size]? = some (.cells #[.func (.func 67) #[] #[], .func (.func 66) #[] #[]] 85)) := (MapKept.heap_alloc w _).1
  go_region_with (first
    | (go_at_call 65; refine Calls.mono (n_ok _ X σ ?_) ?_; (first | exact Hd0.out | exact Hd1.out); rintro e w0 ⟨rfl, hw⟩; subst hw)
    | (go_at_call 64; have cI := is_gen (w.alloc (.cells #[.func (.func 67) #[] #[], .func (.func 66) #[] #[]] 85)).drew X σ Hd1.out 1 (σ.op / 8 % 8) σ.v w.heap.size [⟨67, #[], pG⟩, ⟨66, #[], pE⟩] (by decide) Hfre.out Hh1.out (HP.out _); refine cI.mono ?_; rintro e w2 ⟨rfl, hd⟩; have hk := Kd1.out.trans hd.2))
  all_goals
    have hs9 := hd.1
    clear hd
    go_wp2
    go_end0
    exact ⟨rfl, hs9, hk⟩

set_option maxHeartbeats 4000000 in
theorem r00_8 : RuleOk 77 (fun X σ => isM X 12 0 σ.v [pSeg 1] σ) := by
  intro w X σ h
  have f3 := h.f3
  have hF := h.ltF
  have hfre := h.fresh
  have Hst : Hid (St X w σ) := h
  have Hfre : Hid (¬ X.own w.heap.size) := hfre
  clear h hfre
  have HP : Hid (∀ (W : World) (q : Nat), ¬ X.own q → W.cell? ⟨q, 0, none⟩ = some (.int .i64 1) → ∀ p ∈ ([⟨252, #[.pointer (some ⟨q, 0, none⟩)], pSeg 1⟩] : List Prt), PartOk X W p.n p.cap p.f σ.v) := by
    intro W q hq hc p hp
    simp at hp
    subst hp
    exact seg_ok hq hc
  go_enter Tryz.func77, Tryz.ntmps77
  have Hd0 : Hid (St X w.drew σ) := Hst.out.drewN 1
  have Kd0 : Hid (Kp X.own w w.drew) := (Kp.refl _ _).drewN 1
  have Hd2 : Hid (St X ((w.alloc (.cells #[.int .i64 1] 3)).alloc (.cells #[.func (.func 252) #[] #[.pointer (some ⟨w.heap.size, 0, none⟩)]] 85)).drew σ) := ((Hst.out.alloc _).alloc _).drewN 1
  have Kd2 : Hid (Kp X.own w ((w.alloc (.cells #[.int .i64 1] 3)).alloc (.cells #[.func (.func 252) #[] #[.pointer (some ⟨w.heap.size, 0, none⟩)]] 85)).drew) := ((Kp.alloc X.own w _).trans (Kp.alloc X.own _ _)).drewN 1
  have Hh2 : Hid (((w.alloc (.cells #[.int .i64 1] 3)).alloc (.cells #[.func (.func 252) #[] #[.pointer (some ⟨w.heap.size, 0, none⟩)]] 85)).drew.heap[w.heap.size + 1]? = some (.cells #[.func (.func 252) #[] #[.pointer (some ⟨w.heap.size, 0, none⟩)]] 85)) := heap2 w _ _
  have Hc2 : Hid (((w.alloc (.cells #[.int .i64 1] 3)).alloc (.cells #[.func (.func 252) #[] #[.pointer (some ⟨w.heap.size, 0, none⟩)]] 85)).drew.cell? ⟨w.heap.size, 0, none⟩ = some (.int .i64 1)) := cell_kept (cell_new w (.int .i64 1) 3) ((Kp.alloc X.own _ _).drewN 1) Hfre.out
  have Hf2 : Hid (¬ X.own (w.heap.size + 1)) := Hst.out.fresh1
  go_region_with (first
    | (go_at_call 76; refine (segment_ok _ _).mono ?_; rintro e w3 ⟨rfl, hw⟩; subst hw)
    | (go_at_call 64; have cI := is_gen ((w.alloc (.cells #[.int .i64 1] 3)).alloc (.cells #[.func (.func 252) #[] #[.pointer (some ⟨w.heap.size, 0, none⟩)]] 85)).drew X σ Hd2.out 12 0 σ.v (w.heap.size + 1) [⟨252, #[.pointer (some ⟨w.heap.size, 0, none⟩)], pSeg 1⟩] (by simp) Hf2.out Hh2.out (HP.out _ _ Hfre.out Hc2.out); refine cI.mono ?_; rintro e w2 ⟨rfl, hd⟩; have hk := Kd2.out.trans hd.2))
  all_goals
    have hs9 := hd.1
    clear hd
    go_wp2
    go_end0
    exact ⟨rfl, hs9, hk⟩

set_option maxHeartbeats 4000000 in
theorem r00_12 : RuleOk 81 (fun X σ => isM X 13 0 σ.v [pSeg 2] σ) := by
  intro w X σ h
  have f3 := h.f3
  have hF := h.ltF
  have hfre := h.fresh
  have Hst : Hid (St X w σ) := h
  have Hfre : Hid (¬ X.own w.heap.size) := hfre
  clear h hfre
  have HP : Hid (∀ (W : World) (q : Nat), ¬ X.own q → W.cell? ⟨q, 0, none⟩ = some (.int .i64 2) → ∀ p ∈ ([⟨252, #[.pointer (some ⟨q, 0, none⟩)], pSeg 2⟩] : List Prt), PartOk X W p.n p.cap p.f σ.v) := by
    intro W q hq hc p hp
    simp at hp
    subst hp
    exact seg_ok hq hc
  go_enter Tryz.func81, Tryz.ntmps81
  have Hd0 : Hid (St X w.drew σ) := Hst.out.drewN 1
  have Kd0 : Hid (Kp X.own w w.drew) := (Kp.refl _ _).drewN 1
  have Hd2 : Hid (St X ((w.alloc (.cells #[.int .i64 2] 3)).alloc (.cells #[.func (.func 252) #[] #[.pointer (some ⟨w.heap.size, 0, none⟩)]] 85)).drew σ) := ((Hst.out.alloc _).alloc _).drewN 1
  have Kd2 : Hid (Kp X.own w ((w.alloc (.cells #[.int .i64 2] 3)).alloc (.cells #[.func (.func 252) #[] #[.pointer (some ⟨w.heap.size, 0, none⟩)]] 85)).drew) := ((Kp.alloc X.own w _).trans (Kp.alloc X.own _ _)).drewN 1
  have Hh2 : Hid (((w.alloc (.cells #[.int .i64 2] 3)).alloc (.cells #[.func (.func 252) #[] #[.pointer (some ⟨w.heap.size, 0, none⟩)]] 85)).drew.heap[w.heap.size + 1]? = some (.cells #[.func (.func 252) #[] #[.pointer (some ⟨w.heap.size, 0, none⟩)]] 85)) := heap2 w _ _
  have Hc2 : Hid (((w.alloc (.cells #[.int .i64 2] 3)).alloc (.cells #[.func (.func 252) #[] #[.pointer (some ⟨w.heap.size, 0, none⟩)]] 85)).drew.cell? ⟨w.heap.size, 0, none⟩ = some (.int .i64 2)) := cell_kept (cell_new w (.int .i64 2) 3) ((Kp.alloc X.own _ _).drewN 1) Hfre.out
  have Hf2 : Hid (¬ X.own (w.heap.size + 1)) := Hst.out.fresh1
  go_region_with (first
    | (go_at_call 76; refine (segment_ok _ _).mono ?_; rintro e w3 ⟨rfl, hw⟩; subst hw)
    | (go_at_call 64; have cI := is_gen ((w.alloc (.cells #[.int .i64 2] 3)).alloc (.cells #[.func (.func 252) #[] #[.pointer (some ⟨w.heap.size, 0, none⟩)]] 85)).drew X σ Hd2.out 13 0 σ.v (w.heap.size + 1) [⟨252, #[.pointer (some ⟨w.heap.size, 0, none⟩)], pSeg 2⟩] (by simp) Hf2.out Hh2.out (HP.out _ _ Hfre.out Hc2.out); refine cI.mono ?_; rintro e w2 ⟨rfl, hd⟩; have hk := Kd2.out.trans hd.2))
  all_goals
    have hs9 := hd.1
    clear hd
    go_wp2
    go_end0
    exact ⟨rfl, hs9, hk⟩

set_option maxHeartbeats 4000000 in
theorem r00_16 : RuleOk 85 (fun X σ => isM X 7 2 1 [] σ) := by
  intro w X σ h
  have f3 := h.f3
  have hF := h.ltF
  have hfre := h.fresh
  have Hst : Hid (St X w σ) := h
  have Hfre : Hid (¬ X.own w.heap.size) := hfre
  clear h hfre
  go_enter Tryz.func85, Tryz.ntmps85
  go_wp2_with fail
  refine (is_nil _ X σ Hst.out 7 2 1).mono ?_; rintro e w2 ⟨rfl, hd⟩
  have hk := hd.2
  have hs9 := hd.1
  clear hd
  go_wp2
  go_end0
  exact ⟨rfl, hs9, hk⟩

set_option maxHeartbeats 4000000 in
theorem r40_3 : RuleOk 90 (fun X σ => isM X 12 0 σ.v [pR] σ) := by
  intro w X σ h
  have f3 := h.f3
  have hF := h.ltF
  have hfre := h.fresh
  have Hst : Hid (St X w σ) := h
  have Hfre : Hid (¬ X.own w.heap.size) := hfre
  clear h hfre
  have HP : Hid (∀ W : World, ∀ p ∈ ([⟨88, #[], pR⟩] : List Prt), PartOk X W p.n p.cap p.f σ.v) := by
    intro W p hp
    simp at hp
    subst hp
    exact okR Hst.out.vs
  go_enter Tryz.func90, Tryz.ntmps90
  go_wp2_with fail
  have cI := is_gen (w.alloc (.cells #[.func (.func 88) #[] #[]] 85)) X σ (Hst.out.alloc _) 12 0 σ.v w.heap.size [⟨88, #[], pR⟩] (by decide) (Hst.out.fresh) (MapKept.heap_alloc w (.cells #[.func (.func 88) #[] #[]] 85)).1 (HP.out _)
  refine cI.mono ?_; rintro e w2 ⟨rfl, hd⟩
  have hk := ((Kp.alloc X.own _ _)).trans hd.2
  have hs9 := hd.1
  clear hd
  go_wp2
  go_end0
  exact ⟨rfl, hs9, hk⟩

set_option maxHeartbeats 4000000 in
theorem r40_7 : RuleOk 94 (fun X σ => isM X 12 0 σ.v [pI] σ) := by
  intro w X σ h
  have f3 := h.f3
  have hF := h.ltF
  have hfre := h.fresh
  have Hst : Hid (St X w σ) := h
  have Hfre : Hid (¬ X.own w.heap.size) := hfre
  clear h hfre
  have HP : Hid (∀ W : World, ∀ p ∈ ([⟨73, #[], pI⟩] : List Prt), PartOk X W p.n p.cap p.f σ.v) := by
    intro W p hp
    simp at hp
    subst hp
    exact okI Hst.out.vs
  go_enter Tryz.func94, Tryz.ntmps94
  go_wp2_with fail
  have cI := is_gen (w.alloc (.cells #[.func (.func 73) #[] #[]] 85)) X σ (Hst.out.alloc _) 12 0 σ.v w.heap.size [⟨73, #[], pI⟩] (by decide) (Hst.out.fresh) (MapKept.heap_alloc w (.cells #[.func (.func 73) #[] #[]] 85)).1 (HP.out _)
  refine cI.mono ?_; rintro e w2 ⟨rfl, hd⟩
  have hk := ((Kp.alloc X.own _ _)).trans hd.2
  have hs9 := hd.1
  clear hd
  go_wp2
  go_end0
  exact ⟨rfl, hs9, hk⟩

set_option maxHeartbeats 4000000 in
theorem r40_11 : RuleOk 99 (fun X σ => isM X 28 (σ.op % 16) σ.v [pJb] σ) := by
  intro w X σ h
  have f3 := h.f3
  have hF := h.ltF
  have hfre := h.fresh
  have Hst : Hid (St X w σ) := h
  have Hfre : Hid (¬ X.own w.heap.size) := hfre
  clear h hfre
  have HP : Hid (∀ W : World, ∀ p ∈ ([⟨101, #[], pJb⟩] : List Prt), PartOk X W p.n p.cap p.f σ.v) := by
    intro W p hp
    simp at hp
    subst hp
    exact okJb Hst.out.vs
  go_enter Tryz.func99, Tryz.ntmps99
  have Hd0 : Hid (St X w.drew σ) := Hst.out.drewN 1
  have Kd0 : Hid (Kp X.own w w.drew) := (Kp.refl _ _).drewN 1
  have Hd1 : Hid (St X (w.alloc (.cells #[.func (.func 101) #[] #[]] 85)).drew σ) := (Hst.out.alloc _).drewN 1
  have Kd1 : Hid (Kp X.own w (w.alloc (.cells #[.func (.func 101) #[] #[]] 85)).drew) := (Kp.alloc _ _ _).drewN 1
  have Hh1 : Hid ((w.alloc (.cells #[.func (.func 101) #[] #[]] 85)).drew.heap[w.heap.size]? = some (.cells #[.func (.func 101) #[] #[]] 85)) := (MapKept.heap_alloc w _).1
  go_region_with (first
    | (go_at_call 100; refine Calls.mono (c_ok _ X σ ?_) ?_; (first | exact Hd0.out | exact Hd1.out); rintro e w0 ⟨rfl, hw⟩; subst hw)
    | (go_at_call 64; have cI := is_gen (w.alloc (.cells #[.func (.func 101) #[] #[]] 85)).drew X σ Hd1.out 28 (σ.op % 16) σ.v w.heap.size [⟨101, #[], pJb⟩] (by decide) Hfre.out Hh1.out (HP.out _); refine cI.mono ?_; rintro e w2 ⟨rfl, hd⟩; have hk := Kd1.out.trans hd.2))
  all_goals
    have hs9 := hd.1
    clear hd
    go_wp2
    go_end0
    exact ⟨rfl, hs9, hk⟩

set_option maxHeartbeats 4000000 in
theorem r80_4 : RuleOk 106 (fun X σ => isM X 1 8 1 [pE, pG] σ) := by
  intro w X σ h
  have f3 := h.f3
  have hF := h.ltF
  have hfre := h.fresh
  have Hst : Hid (St X w σ) := h
  have Hfre : Hid (¬ X.own w.heap.size) := hfre
  clear h hfre
  have HP : Hid (∀ W : World, ∀ p ∈ ([⟨66, #[], pE⟩, ⟨67, #[], pG⟩] : List Prt), PartOk X W p.n p.cap p.f 1) := by
    intro W p hp
    simp at hp
    rcases hp with rfl | rfl
    · exact okE (by decide)
    · exact okG (by decide)
  go_enter Tryz.func106, Tryz.ntmps106
  go_wp2_with fail
  have cI := is_gen (w.alloc (.cells #[.func (.func 66) #[] #[], .func (.func 67) #[] #[]] 85)) X σ (Hst.out.alloc _) 1 8 1 w.heap.size [⟨66, #[], pE⟩, ⟨67, #[], pG⟩] (by decide) (Hst.out.fresh) (MapKept.heap_alloc w (.cells #[.func (.func 66) #[] #[], .func (.func 67) #[] #[]] 85)).1 (HP.out _)
  refine cI.mono ?_; rintro e w2 ⟨rfl, hd⟩
  have hk := ((Kp.alloc X.own _ _)).trans hd.2
  have hs9 := hd.1
  clear hd
  go_wp2
  go_end0
  exact ⟨rfl, hs9, hk⟩

set_option maxHeartbeats 4000000 in
theorem r80_8 : RuleOk 110 (fun X σ => isM X 8 0 1 [pE, pG] σ) := by
  intro w X σ h
  have f3 := h.f3
  have hF := h.ltF
  have hfre := h.fresh
  have Hst : Hid (St X w σ) := h
  have Hfre : Hid (¬ X.own w.heap.size) := hfre
  clear h hfre
  have HP : Hid (∀ W : World, ∀ p ∈ ([⟨66, #[], pE⟩, ⟨67, #[], pG⟩] : List Prt), PartOk X W p.n p.cap p.f 1) := by
    intro W p hp
    simp at hp
    rcases hp with rfl | rfl
    · exact okE (by decide)
    · exact okG (by decide)
  go_enter Tryz.func110, Tryz.ntmps110
  go_wp2_with fail
  have cI := is_gen (w.alloc (.cells #[.func (.func 66) #[] #[], .func (.func 67) #[] #[]] 85)) X σ (Hst.out.alloc _) 8 0 1 w.heap.size [⟨66, #[], pE⟩, ⟨67, #[], pG⟩] (by decide) (Hst.out.fresh) (MapKept.heap_alloc w (.cells #[.func (.func 66) #[] #[], .func (.func 67) #[] #[]] 85)).1 (HP.out _)
  refine cI.mono ?_; rintro e w2 ⟨rfl, hd⟩
  have hk := ((Kp.alloc X.own _ _)).trans hd.2
  have hs9 := hd.1
  clear hd
  go_wp2
  go_end0
  exact ⟨rfl, hs9, hk⟩

set_option maxHeartbeats 4000000 in
theorem r80_12 : RuleOk 117 (fun X σ => isM X 13 0 (onlyM X [0] σ).v [pE] (onlyM X [0] σ)) := by
  intro w X σ h
  have hfre := h.fresh
  have h0 : St X (w.alloc (.cells #[.int .i64 0] 3)) σ := h.alloc _
  have hn0 := (MapKept.heap_alloc w (.cells #[.int .i64 0] 3)).1
  have cO := only_ok _ X σ h0 w.heap.size 1 [0] rfl (by decide) hfre (fun j hj => by
    rcases (by omega : j = 0) with rfl <;> (unfold World.cell?; rw [hn0]; rfl))
  obtain ⟨σa, hσa⟩ : ∃ σa, σa = onlyM X [0] σ := ⟨_, rfl⟩
  show Calls _ _ _ _ fun e w' => _ ∧ Done X w (isM X 13 0 (onlyM X [0] σ).v [pE] (onlyM X [0] σ)) w'
  rw [← hσa] at cO ⊢
  clear hσa h h0 hn0
  go_enter Tryz.func117, Tryz.ntmps117
  go_wp2_with fail
  refine cO.mono ?_; rintro e wa ⟨rfl, h, ka⟩
  replace ka := (Kp.alloc X.own w _).trans ka
  clear cO hfre
  have f3 := h.f3
  have hF := h.ltF
  have hfre := h.fresh
  have Hst : Hid (St X wa σa) := h
  have Hfre : Hid (¬ X.own wa.heap.size) := hfre
  clear h hfre
  have HP : Hid (∀ W : World, ∀ p ∈ ([⟨66, #[], pE⟩] : List Prt), PartOk X W p.n p.cap p.f σa.v) := by
    intro W p hp
    simp at hp
    subst hp
    exact okE Hst.out.vs
  go_wp2_with fail
  have cI := is_gen (wa.alloc (.cells #[.func (.func 66) #[] #[]] 85)) X σa (Hst.out.alloc _) 13 0 σa.v wa.heap.size [⟨66, #[], pE⟩] (by decide) (Hst.out.fresh) (MapKept.heap_alloc wa (.cells #[.func (.func 66) #[] #[]] 85)).1 (HP.out _)
  refine cI.mono ?_; rintro e w2 ⟨rfl, hd⟩
  have hk := ((ka).trans (Kp.alloc X.own _ _)).trans hd.2
  have hs9 := hd.1
  clear hd
  go_wp2
  go_end0
  exact ⟨rfl, hs9, hk⟩

set_option maxHeartbeats 4000000 in
theorem r80_16 : RuleOk 122 (fun X σ => isM X 16 0 σ.v [] σ) := by
  intro w X σ h
  have f3 := h.f3
  have hF := h.ltF
  have hfre := h.fresh
  have Hst : Hid (St X w σ) := h
  have Hfre : Hid (¬ X.own w.heap.size) := hfre
  clear h hfre
  go_enter Tryz.func122, Tryz.ntmps122
  go_wp2_with fail
  refine (is_nil _ X σ Hst.out 16 0 σ.v).mono ?_; rintro e w2 ⟨rfl, hd⟩
  have hk := hd.2
  have hs9 := hd.1
  clear hd
  go_wp2
  go_end0
  exact ⟨rfl, hs9, hk⟩

set_option maxHeartbeats 4000000 in
theorem r80_20 : RuleOk 126 (fun X σ => isM X 41 0 4 [] σ) := by
  intro w X σ h
  have f3 := h.f3
  have hF := h.ltF
  have hfre := h.fresh
  have Hst : Hid (St X w σ) := h
  have Hfre : Hid (¬ X.own w.heap.size) := hfre
  clear h hfre
  go_enter Tryz.func126, Tryz.ntmps126
  go_wp2_with fail
  refine (is_nil _ X σ Hst.out 41 0 4).mono ?_; rintro e w2 ⟨rfl, hd⟩
  have hk := hd.2
  have hs9 := hd.1
  clear hd
  go_wp2
  go_end0
  exact ⟨rfl, hs9, hk⟩

set_option maxHeartbeats 4000000 in
theorem rA0_4 : RuleOk 131 (fun X σ => isM X 8 0 σ.v [pO, pA] σ) := by
  intro w X σ h
  have f3 := h.f3
  have hF := h.ltF
  have hfre := h.fresh
  have Hst : Hid (St X w σ) := h
  have Hfre : Hid (¬ X.own w.heap.size) := hfre
  clear h hfre
  have HP : Hid (∀ W : World, ∀ p ∈ ([⟨128, #[], pO⟩, ⟨72, #[], pA⟩] : List Prt), PartOk X W p.n p.cap p.f σ.v) := by
    intro W p hp
    simp at hp
    rcases hp with rfl | rfl
    · exact okO Hst.out.vs
    · exact okA Hst.out.vs
  go_enter Tryz.func131, Tryz.ntmps131
  go_wp2_with fail
  have cI := is_gen (w.alloc (.cells #[.func (.func 128) #[] #[], .func (.func 72) #[] #[]] 85)) X σ (Hst.out.alloc _) 8 0 σ.v w.heap.size [⟨128, #[], pO⟩, ⟨72, #[], pA⟩] (by decide) (Hst.out.fresh) (MapKept.heap_alloc w (.cells #[.func (.func 128) #[] #[], .func (.func 72) #[] #[]] 85)).1 (HP.out _)
  refine cI.mono ?_; rintro e w2 ⟨rfl, hd⟩
  have hk := ((Kp.alloc X.own _ _)).trans hd.2
  have hs9 := hd.1
  clear hd
  go_wp2
  go_end0
  exact ⟨rfl, hs9, hk⟩

theorem rA0_8 : RuleOk 136 (fun X σ => isStr X 1 σ.v σ) := by
  intro w X σ h
  have f3 := h.f3
  have c := isString_ok w X σ h 1 σ.v (h.vs)
  clear h
  go_enter Tryz.func136, Tryz.ntmps136
  go_wp2_with fail
  refine c.mono ?_; rintro e w1 ⟨rfl, hd⟩
  go_wp2
  go_end0
  exact ⟨rfl, hd⟩

theorem rA0_12 : RuleOk 140 (fun X σ => isStr X 2 σ.v σ) := by
  intro w X σ h
  have f3 := h.f3
  have c := isString_ok w X σ h 2 σ.v (h.vs)
  clear h
  go_enter Tryz.func140, Tryz.ntmps140
  go_wp2_with fail
  refine c.mono ?_; rintro e w1 ⟨rfl, hd⟩
  go_wp2
  go_end0
  exact ⟨rfl, hd⟩

theorem rA0_16 : RuleOk 144 (fun X σ => isStr X 4 σ.v σ) := by
  intro w X σ h
  have f3 := h.f3
  have c := isString_ok w X σ h 4 σ.v (h.vs)
  clear h
  go_enter Tryz.func144, Tryz.ntmps144
  go_wp2_with fail
  refine c.mono ?_; rintro e w1 ⟨rfl, hd⟩
  go_wp2
  go_end0
  exact ⟨rfl, hd⟩

set_option maxHeartbeats 4000000 in
theorem rC0_2 : RuleOk 149 (fun X σ => isM X 2 (modrm X σ).1.2.1 σ.v [pE, pIb] (modrm X σ).2) := by
  intro w X σ h
  have f3 := h.f3
  have hF := h.ltF
  have hfre := h.fresh
  have cM := fun W (hW : St X W σ) => modrm_ok W X σ hW
  have hv1 := modrm_v X σ
  have hbd := modrm_bd h
  obtain ⟨⟨m, n, r⟩, hm⟩ : ∃ x, x = (modrm X σ).1 := ⟨_, rfl⟩
  obtain ⟨σ1, hσ1⟩ : ∃ σ1, σ1 = (modrm X σ).2 := ⟨_, rfl⟩
  obtain ⟨V, hV⟩ : ∃ V, V = isM X 2 n σ.v [pE, pIb] σ1 := ⟨_, rfl⟩
  show Calls _ _ _ _ fun e w' => _ ∧ Done X w (isM X 2 (modrm X σ).1.2.1 σ.v [pE, pIb] (modrm X σ).2) w'
  rw [show isM X 2 (modrm X σ).1.2.1 σ.v [pE, pIb] (modrm X σ).2 = V by rw [hV, hσ1, ← hm]]
  simp only [← hm, ← hσ1, mrV] at cM hv1 hbd
  obtain ⟨_, ⟨n0, n1⟩, _⟩ := hbd
  have fl1 := fld1
  have HV : Hid (V = isM X 2 n σ.v [pE, pIb] σ1) := hV
  have Hv1 : Hid (σ1.v = σ.v) := hv1
  have HM : Hid _ := cM
  clear hm hσ1 hV hv1 cM
  have Hst : Hid (St X w σ) := h
  have Hfre : Hid (¬ X.own w.heap.size) := hfre
  clear h hfre
  have HP : Hid (∀ W : World, ∀ p ∈ ([⟨66, #[], pE⟩, ⟨148, #[], pIb⟩] : List Prt), PartOk X W p.n p.cap p.f σ.v) := by
    intro W p hp
    simp at hp
    rcases hp with rfl | rfl
    · exact okE Hst.out.vs
    · exact okIb Hst.out.vs
  go_enter Tryz.func149, Tryz.ntmps149
  have Hd0 : Hid (St X w.drew σ) := Hst.out.drewN 1
  have Kd0 : Hid (Kp X.own w w.drew) := (Kp.refl _ _).drewN 1
  have Hd1 : Hid (St X (w.alloc (.cells #[.func (.func 66) #[] #[], .func (.func 148) #[] #[]] 85)).drew σ) := (Hst.out.alloc _).drewN 1
  have Kd1 : Hid (Kp X.own w (w.alloc (.cells #[.func (.func 66) #[] #[], .func (.func 148) #[] #[]] 85)).drew) := (Kp.alloc _ _ _).drewN 1
  have Hh1 : Hid ((w.alloc (.cells #[.func (.func 66) #[] #[], .func (.func 148) #[] #[]] 85)).drew.heap[w.heap.size]? = some (.cells #[.func (.func 66) #[] #[], .func (.func 148) #[] #[]] 85)) := (MapKept.heap_alloc w _).1
  go_region_with (first
    | (go_at_call 103; refine Calls.mono (HM.out _ ?_) ?_; (first | exact Hd0.out | exact Hd1.out); rintro e w1 ⟨rfl, h1, k1⟩; have g3 : w1.cell? ⟨X.F, 3, none⟩ = some (.int .i64 σ.v) := (by rw [← Hv1.out]; exact h1.f3); have gF := h1.ltF; (try have hsl := heap_kept Hh1.out k1 Hfre.out))
    | (go_at_call 64; first | (have cI := is_gen w1 X σ1 h1 2 n σ.v w.heap.size [⟨66, #[], pE⟩, ⟨148, #[], pIb⟩] (by decide) Hfre.out hsl (HP.out _); refine cI.mono ?_; rintro e w2 ⟨rfl, hd⟩; have hk := (Kd1.out.trans k1).trans hd.2) | (have cI := is_gen (w1.alloc (.cells #[.func (.func 66) #[] #[], .func (.func 148) #[] #[]] 85)) X σ1 (h1.alloc _) 2 n σ.v w1.heap.size [⟨66, #[], pE⟩, ⟨148, #[], pIb⟩] (by decide) h1.fresh (MapKept.heap_alloc w1 (.cells #[.func (.func 66) #[] #[], .func (.func 148) #[] #[]] 85)).1 (HP.out _); refine cI.mono ?_; rintro e w2 ⟨rfl, hd⟩; have hk := ((Kd0.out.trans k1).trans (Kp.alloc X.own w1 _)).trans hd.2)))
  all_goals
    have hs9 := hd.1
    clear hd
    go_wp2
    go_end0
    rw [HV.out]
    exact ⟨rfl, hs9, hk⟩

set_option maxHeartbeats 4000000 in
theorem rC0_6 : RuleOk 155 (fun X σ => isM X 8 0 (onlyM X [0] σ).v [pE, pI] (onlyM X [0] σ)) := by
  intro w X σ h
  have hfre := h.fresh
  have h0 : St X (w.alloc (.cells #[.int .i64 0] 3)) σ := h.alloc _
  have hn0 := (MapKept.heap_alloc w (.cells #[.int .i64 0] 3)).1
  have cO := only_ok _ X σ h0 w.heap.size 1 [0] rfl (by decide) hfre (fun j hj => by
    rcases (by omega : j = 0) with rfl <;> (unfold World.cell?; rw [hn0]; rfl))
  obtain ⟨σa, hσa⟩ : ∃ σa, σa = onlyM X [0] σ := ⟨_, rfl⟩
  show Calls _ _ _ _ fun e w' => _ ∧ Done X w (isM X 8 0 (onlyM X [0] σ).v [pE, pI] (onlyM X [0] σ)) w'
  rw [← hσa] at cO ⊢
  clear hσa h h0 hn0
  go_enter Tryz.func155, Tryz.ntmps155
  go_wp2_with fail
  refine cO.mono ?_; rintro e wa ⟨rfl, h, ka⟩
  replace ka := (Kp.alloc X.own w _).trans ka
  clear cO hfre
  have f3 := h.f3
  have hF := h.ltF
  have hfre := h.fresh
  have Hst : Hid (St X wa σa) := h
  have Hfre : Hid (¬ X.own wa.heap.size) := hfre
  clear h hfre
  have HP : Hid (∀ W : World, ∀ p ∈ ([⟨66, #[], pE⟩, ⟨73, #[], pI⟩] : List Prt), PartOk X W p.n p.cap p.f σa.v) := by
    intro W p hp
    simp at hp
    rcases hp with rfl | rfl
    · exact okE Hst.out.vs
    · exact okI Hst.out.vs
  go_wp2_with fail
  have cI := is_gen (wa.alloc (.cells #[.func (.func 66) #[] #[], .func (.func 73) #[] #[]] 85)) X σa (Hst.out.alloc _) 8 0 σa.v wa.heap.size [⟨66, #[], pE⟩, ⟨73, #[], pI⟩] (by decide) (Hst.out.fresh) (MapKept.heap_alloc wa (.cells #[.func (.func 66) #[] #[], .func (.func 73) #[] #[]] 85)).1 (HP.out _)
  refine cI.mono ?_; rintro e w2 ⟨rfl, hd⟩
  have hk := ((ka).trans (Kp.alloc X.own _ _)).trans hd.2
  have hs9 := hd.1
  clear hd
  go_wp2
  go_end0
  exact ⟨rfl, hs9, hk⟩

set_option maxHeartbeats 4000000 in
theorem rC0_10 : RuleOk 159 (fun X σ => isM X 32 2 4 [pNum 4] σ) := by
  intro w X σ h
  have f3 := h.f3
  have hF := h.ltF
  have hfre := h.fresh
  have Hst : Hid (St X w σ) := h
  have Hfre : Hid (¬ X.own w.heap.size) := hfre
  clear h hfre
  have HP : Hid (∀ (W : World) (q : Nat), ¬ X.own q → W.cell? ⟨q, 0, none⟩ = some (.int .u32 4) → ∀ p ∈ ([⟨258, #[.pointer (some ⟨q, 0, none⟩)], pNum 4⟩] : List Prt), PartOk X W p.n p.cap p.f 4) := by
    intro W q hq hc p hp
    simp at hp
    subst hp
    exact num_ok hq hc
  go_enter Tryz.func159, Tryz.ntmps159
  go_wp2_with fail
  refine (constant_ok _ _).mono ?_; rintro e w3 ⟨rfl, hw⟩; subst hw
  have hcap : w.alloc (.cells #[.int .u32 4] 24) = w.alloc (.cells #[.int .u32 4] 24) := rfl
  have g1 : St X (w.alloc (.cells #[.int .u32 4] 24)) σ := Hst.out.alloc _
  have gc := cell_new w (.int .u32 4) 24
  go_wp2_with fail
  have cI := is_gen ((w.alloc (.cells #[.int .u32 4] 24)).alloc (.cells #[.func (.func 258) #[] #[.pointer (some ⟨w.heap.size, 0, none⟩)]] 85)) X σ (g1.alloc _) 32 2 4 (w.heap.size + 1) [⟨258, #[.pointer (some ⟨w.heap.size, 0, none⟩)], pNum 4⟩] (by simp) Hst.out.fresh1 (heap2 w (.cells #[.int .u32 4] 24) (.cells #[.func (.func 258) #[] #[.pointer (some ⟨w.heap.size, 0, none⟩)]] 85)) (HP.out _ _ (Hst.out.fresh) (cell_kept gc (Kp.alloc X.own _ _) (Hst.out.fresh)))
  refine cI.mono ?_; rintro e w2 ⟨rfl, hd⟩
  have hk := (((Kp.alloc X.own _ _)).trans (Kp.alloc X.own _ _)).trans hd.2
  have hs9 := hd.1
  clear hd
  go_wp2
  go_end0
  exact ⟨rfl, hs9, hk⟩

set_option maxHeartbeats 4000000 in
theorem rC0_14 : RuleOk 163 (fun X σ => isM X 2 (modrm X σ).1.2.1 1 [pE, pCL] (modrm X σ).2) := by
  intro w X σ h
  have f3 := h.f3
  have hF := h.ltF
  have hfre := h.fresh
  have cM := fun W (hW : St X W σ) => modrm_ok W X σ hW
  have hv1 := modrm_v X σ
  have hbd := modrm_bd h
  obtain ⟨⟨m, n, r⟩, hm⟩ : ∃ x, x = (modrm X σ).1 := ⟨_, rfl⟩
  obtain ⟨σ1, hσ1⟩ : ∃ σ1, σ1 = (modrm X σ).2 := ⟨_, rfl⟩
  obtain ⟨V, hV⟩ : ∃ V, V = isM X 2 n 1 [pE, pCL] σ1 := ⟨_, rfl⟩
  show Calls _ _ _ _ fun e w' => _ ∧ Done X w (isM X 2 (modrm X σ).1.2.1 1 [pE, pCL] (modrm X σ).2) w'
  rw [show isM X 2 (modrm X σ).1.2.1 1 [pE, pCL] (modrm X σ).2 = V by rw [hV, hσ1, ← hm]]
  simp only [← hm, ← hσ1, mrV] at cM hv1 hbd
  obtain ⟨_, ⟨n0, n1⟩, _⟩ := hbd
  have fl1 := fld1
  have HV : Hid (V = isM X 2 n 1 [pE, pCL] σ1) := hV
  have Hv1 : Hid (σ1.v = σ.v) := hv1
  have HM : Hid _ := cM
  clear hm hσ1 hV hv1 cM
  have Hst : Hid (St X w σ) := h
  have Hfre : Hid (¬ X.own w.heap.size) := hfre
  clear h hfre
  have HP : Hid (∀ W : World, ∀ p ∈ ([⟨66, #[], pE⟩, ⟨164, #[], pCL⟩] : List Prt), PartOk X W p.n p.cap p.f 1) := by
    intro W p hp
    simp at hp
    rcases hp with rfl | rfl
    · exact okE (by decide)
    · exact okCL (by decide)
  go_enter Tryz.func163, Tryz.ntmps163
  go_wp2_with fail
  refine (HM.out _ Hst.out).mono ?_; rintro e w1 ⟨rfl, h1, k1⟩
  go_wp2_with fail
  have cI := is_gen (w1.alloc (.cells #[.func (.func 66) #[] #[], .func (.func 164) #[] #[]] 85)) X σ1 (h1.alloc _) 2 n 1 w1.heap.size [⟨66, #[], pE⟩, ⟨164, #[], pCL⟩] (by decide) (h1.fresh) (MapKept.heap_alloc w1 (.cells #[.func (.func 66) #[] #[], .func (.func 164) #[] #[]] 85)).1 (HP.out _)
  refine cI.mono ?_; rintro e w2 ⟨rfl, hd⟩
  have hk := ((k1).trans (Kp.alloc X.own _ _)).trans hd.2
  have hs9 := hd.1
  clear hd
  go_wp2
  go_end0
  rw [HV.out]
  exact ⟨rfl, hs9, hk⟩

set_option maxHeartbeats 4000000 in
theorem rE0_1 : RuleOk 168 (fun X σ => isM X 31 0 σ.v [pJb] σ) := by
  intro w X σ h
  have f3 := h.f3
  have hF := h.ltF
  have hfre := h.fresh
  have Hst : Hid (St X w σ) := h
  have Hfre : Hid (¬ X.own w.heap.size) := hfre
  clear h hfre
  have HP : Hid (∀ W : World, ∀ p ∈ ([⟨101, #[], pJb⟩] : List Prt), PartOk X W p.n p.cap p.f σ.v) := by
    intro W p hp
    simp at hp
    subst hp
    exact okJb Hst.out.vs
  go_enter Tryz.func168, Tryz.ntmps168
  go_wp2_with fail
  have cI := is_gen (w.alloc (.cells #[.func (.func 101) #[] #[]] 85)) X σ (Hst.out.alloc _) 31 0 σ.v w.heap.size [⟨101, #[], pJb⟩] (by decide) (Hst.out.fresh) (MapKept.heap_alloc w (.cells #[.func (.func 101) #[] #[]] 85)).1 (HP.out _)
  refine cI.mono ?_; rintro e w2 ⟨rfl, hd⟩
  have hk := ((Kp.alloc X.own _ _)).trans hd.2
  have hs9 := hd.1
  clear hd
  go_wp2
  go_end0
  exact ⟨rfl, hs9, hk⟩

set_option maxHeartbeats 4000000 in
theorem rE0_5 : RuleOk 172 (fun X σ => isM X 37 0 1 [pA, pIb] σ) := by
  intro w X σ h
  have f3 := h.f3
  have hF := h.ltF
  have hfre := h.fresh
  have Hst : Hid (St X w σ) := h
  have Hfre : Hid (¬ X.own w.heap.size) := hfre
  clear h hfre
  have HP : Hid (∀ W : World, ∀ p ∈ ([⟨72, #[], pA⟩, ⟨148, #[], pIb⟩] : List Prt), PartOk X W p.n p.cap p.f 1) := by
    intro W p hp
    simp at hp
    rcases hp with rfl | rfl
    · exact okA (by decide)
    · exact okIb (by decide)
  go_enter Tryz.func172, Tryz.ntmps172
  go_wp2_with fail
  have cI := is_gen (w.alloc (.cells #[.func (.func 72) #[] #[], .func (.func 148) #[] #[]] 85)) X σ (Hst.out.alloc _) 37 0 1 w.heap.size [⟨72, #[], pA⟩, ⟨148, #[], pIb⟩] (by decide) (Hst.out.fresh) (MapKept.heap_alloc w (.cells #[.func (.func 72) #[] #[], .func (.func 148) #[] #[]] 85)).1 (HP.out _)
  refine cI.mono ?_; rintro e w2 ⟨rfl, hd⟩
  have hk := ((Kp.alloc X.own _ _)).trans hd.2
  have hs9 := hd.1
  clear hd
  go_wp2
  go_end0
  exact ⟨rfl, hs9, hk⟩

set_option maxHeartbeats 4000000 in
theorem rE0_9 : RuleOk 176 (fun X σ => isM X 29 0 σ.v [pJ] σ) := by
  intro w X σ h
  have f3 := h.f3
  have hF := h.ltF
  have hfre := h.fresh
  have Hst : Hid (St X w σ) := h
  have Hfre : Hid (¬ X.own w.heap.size) := hfre
  clear h hfre
  have HP : Hid (∀ W : World, ∀ p ∈ ([⟨177, #[], pJ⟩] : List Prt), PartOk X W p.n p.cap p.f σ.v) := by
    intro W p hp
    simp at hp
    subst hp
    exact okJ Hst.out.vs
  go_enter Tryz.func176, Tryz.ntmps176
  go_wp2_with fail
  have cI := is_gen (w.alloc (.cells #[.func (.func 177) #[] #[]] 85)) X σ (Hst.out.alloc _) 29 0 σ.v w.heap.size [⟨177, #[], pJ⟩] (by decide) (Hst.out.fresh) (MapKept.heap_alloc w (.cells #[.func (.func 177) #[] #[]] 85)).1 (HP.out _)
  refine cI.mono ?_; rintro e w2 ⟨rfl, hd⟩
  have hk := ((Kp.alloc X.own _ _)).trans hd.2
  have hs9 := hd.1
  clear hd
  go_wp2
  go_end0
  exact ⟨rfl, hs9, hk⟩

set_option maxHeartbeats 4000000 in
theorem rE0_13 : RuleOk 182 (fun X σ => isM X 37 0 1 [pA, pDX] σ) := by
  intro w X σ h
  have f3 := h.f3
  have hF := h.ltF
  have hfre := h.fresh
  have Hst : Hid (St X w σ) := h
  have Hfre : Hid (¬ X.own w.heap.size) := hfre
  clear h hfre
  have HP : Hid (∀ W : World, ∀ p ∈ ([⟨72, #[], pA⟩, ⟨183, #[], pDX⟩] : List Prt), PartOk X W p.n p.cap p.f 1) := by
    intro W p hp
    simp at hp
    rcases hp with rfl | rfl
    · exact okA (by decide)
    · exact okDX (by decide)
  go_enter Tryz.func182, Tryz.ntmps182
  go_wp2_with fail
  have cI := is_gen (w.alloc (.cells #[.func (.func 72) #[] #[], .func (.func 183) #[] #[]] 85)) X σ (Hst.out.alloc _) 37 0 1 w.heap.size [⟨72, #[], pA⟩, ⟨183, #[], pDX⟩] (by decide) (Hst.out.fresh) (MapKept.heap_alloc w (.cells #[.func (.func 72) #[] #[], .func (.func 183) #[] #[]] 85)).1 (HP.out _)
  refine cI.mono ?_; rintro e w2 ⟨rfl, hd⟩
  have hk := ((Kp.alloc X.own _ _)).trans hd.2
  have hs9 := hd.1
  clear hd
  go_wp2
  go_end0
  exact ⟨rfl, hs9, hk⟩

set_option maxHeartbeats 4000000 in
theorem rE0_17 : RuleOk 187 (fun X σ => isM X 40 0 4 [] σ) := by
  intro w X σ h
  have f3 := h.f3
  have hF := h.ltF
  have hfre := h.fresh
  have Hst : Hid (St X w σ) := h
  have Hfre : Hid (¬ X.own w.heap.size) := hfre
  clear h hfre
  go_enter Tryz.func187, Tryz.ntmps187
  go_wp2_with fail
  refine (is_nil _ X σ Hst.out 40 0 4).mono ?_; rintro e w2 ⟨rfl, hd⟩
  have hk := hd.2
  have hs9 := hd.1
  clear hd
  go_wp2
  go_end0
  exact ⟨rfl, hs9, hk⟩

set_option maxHeartbeats 4000000 in
theorem rE0_23 : RuleOk 194 (fun X σ => isM X 39 5 4 [] σ) := by
  intro w X σ h
  have f3 := h.f3
  have hF := h.ltF
  have hfre := h.fresh
  have Hst : Hid (St X w σ) := h
  have Hfre : Hid (¬ X.own w.heap.size) := hfre
  clear h hfre
  go_enter Tryz.func194, Tryz.ntmps194
  go_wp2_with fail
  refine (is_nil _ X σ Hst.out 39 5 4).mono ?_; rintro e w2 ⟨rfl, hd⟩
  have hk := hd.2
  have hs9 := hd.1
  clear hd
  go_wp2
  go_end0
  exact ⟨rfl, hs9, hk⟩

set_option maxHeartbeats 4000000 in
theorem rE0_27 : RuleOk 198 (fun X σ => isM X 1 (9 + (modrm X (onlyM X [0, 1] σ)).1.2.1) 1 [pE] (modrm X (onlyM X [0, 1] σ)).2) := by
  intro w X σ h
  have hfre := h.fresh
  have h0 : St X (w.alloc (.cells #[.int .i64 0, .int .i64 1] 3)) σ := h.alloc _
  have hn0 := (MapKept.heap_alloc w (.cells #[.int .i64 0, .int .i64 1] 3)).1
  have cO := only_ok _ X σ h0 w.heap.size 2 [0, 1] rfl (by decide) hfre (fun j hj => by
    rcases (by omega : j = 0 ∨ j = 1) with rfl | rfl <;> (unfold World.cell?; rw [hn0]; rfl))
  obtain ⟨σa, hσa⟩ : ∃ σa, σa = onlyM X [0, 1] σ := ⟨_, rfl⟩
  show Calls _ _ _ _ fun e w' => _ ∧ Done X w (isM X 1 (9 + (modrm X (onlyM X [0, 1] σ)).1.2.1) 1 [pE] (modrm X (onlyM X [0, 1] σ)).2) w'
  rw [← hσa] at cO ⊢
  clear hσa h h0 hn0
  go_enter Tryz.func198, Tryz.ntmps198
  go_wp2_with fail
  refine cO.mono ?_; rintro e wa ⟨rfl, h, ka⟩
  replace ka := (Kp.alloc X.own w _).trans ka
  clear cO hfre
  have f3 := h.f3
  have hF := h.ltF
  have hfre := h.fresh
  have cM := fun W (hW : St X W σa) => modrm_ok W X σa hW
  have hv1 := modrm_v X σa
  have hbd := modrm_bd h
  obtain ⟨⟨m, n, r⟩, hm⟩ : ∃ x, x = (modrm X σa).1 := ⟨_, rfl⟩
  obtain ⟨σ1, hσ1⟩ : ∃ σ1, σ1 = (modrm X σa).2 := ⟨_, rfl⟩
  obtain ⟨V, hV⟩ : ∃ V, V = isM X 1 (9 + n) 1 [pE] σ1 := ⟨_, rfl⟩
  have eV : isM X 1 (9 + (modrm X σa).1.2.1) 1 [pE] (modrm X σa).2 = V := by rw [hV, hσ1, ← hm]
  simp only [← hm, ← hσ1, mrV] at cM hv1 hbd
  obtain ⟨_, ⟨n0, n1⟩, _⟩ := hbd
  have fl1 := fld1
  have HV : Hid (V = isM X 1 (9 + n) 1 [pE] σ1) := hV
  have Hv1 : Hid (σ1.v = σa.v) := hv1
  have HM : Hid _ := cM
  clear hm hσ1 hV hv1 cM
  have Hst : Hid (St X wa σa) := h
  have Hfre : Hid (¬ X.own wa.heap.size) := hfre
  clear h hfre
  have HP : Hid (∀ W : World, ∀ p ∈ ([⟨66, #[], pE⟩] : List Prt), PartOk X W p.n p.cap p.f 1) := by
    intro W p hp
    simp at hp
    subst hp
    exact okE (by decide)
  go_wp2_with fail
  refine (HM.out _ Hst.out).mono ?_; rintro e w1 ⟨rfl, h1, k1⟩
  go_wp2_with fail
  have cI := is_gen (w1.alloc (.cells #[.func (.func 66) #[] #[]] 85)) X σ1 (h1.alloc _) 1 (9 + n) 1 w1.heap.size [⟨66, #[], pE⟩] (by decide) (h1.fresh) (MapKept.heap_alloc w1 (.cells #[.func (.func 66) #[] #[]] 85)).1 (HP.out _)
  refine cI.mono ?_; rintro e w2 ⟨rfl, hd⟩
  have hk := (((ka).trans k1).trans (Kp.alloc X.own _ _)).trans hd.2
  have hs9 := hd.1
  clear hd
  go_wp2
  go_end0
  rw [eV]; rw [HV.out]
  exact ⟨rfl, hs9, hk⟩

set_option maxHeartbeats 4000000 in
theorem r0F_4 : RuleOk 206 (fun X σ => isM X 45 0 4 [pCr, pRm] (onlyM X [0, 2, 3] σ)) := by
  intro w X σ h
  have hfre := h.fresh
  have h0 : St X (w.alloc (.cells #[.int .i64 0, .int .i64 2, .int .i64 3] 3)) σ := h.alloc _
  have hn0 := (MapKept.heap_alloc w (.cells #[.int .i64 0, .int .i64 2, .int .i64 3] 3)).1
  have cO := only_ok _ X σ h0 w.heap.size 3 [0, 2, 3] rfl (by decide) hfre (fun j hj => by
    rcases (by omega : j = 0 ∨ j = 1 ∨ j = 2) with rfl | rfl | rfl <;> (unfold World.cell?; rw [hn0]; rfl))
  obtain ⟨σa, hσa⟩ : ∃ σa, σa = onlyM X [0, 2, 3] σ := ⟨_, rfl⟩
  show Calls _ _ _ _ fun e w' => _ ∧ Done X w (isM X 45 0 4 [pCr, pRm] (onlyM X [0, 2, 3] σ)) w'
  rw [← hσa] at cO ⊢
  clear hσa h h0 hn0
  go_enter Tryz.func206, Tryz.ntmps206
  go_wp2_with fail
  refine cO.mono ?_; rintro e wa ⟨rfl, h, ka⟩
  replace ka := (Kp.alloc X.own w _).trans ka
  clear cO hfre
  have f3 := h.f3
  have hF := h.ltF
  have hfre := h.fresh
  have Hst : Hid (St X wa σa) := h
  have Hfre : Hid (¬ X.own wa.heap.size) := hfre
  clear h hfre
  have HP : Hid (∀ W : World, ∀ p ∈ ([⟨205, #[], pCr⟩, ⟨204, #[], pRm⟩] : List Prt), PartOk X W p.n p.cap p.f 4) := by
    intro W p hp
    simp at hp
    rcases hp with rfl | rfl
    · exact okCr (by decide)
    · exact okRm (by decide)
  go_wp2_with fail
  have cI := is_gen (wa.alloc (.cells #[.func (.func 205) #[] #[], .func (.func 204) #[] #[]] 85)) X σa (Hst.out.alloc _) 45 0 4 wa.heap.size [⟨205, #[], pCr⟩, ⟨204, #[], pRm⟩] (by decide) (Hst.out.fresh) (MapKept.heap_alloc wa (.cells #[.func (.func 205) #[] #[], .func (.func 204) #[] #[]] 85)).1 (HP.out _)
  refine cI.mono ?_; rintro e w2 ⟨rfl, hd⟩
  have hk := ((ka).trans (Kp.alloc X.own _ _)).trans hd.2
  have hs9 := hd.1
  clear hd
  go_wp2
  go_end0
  exact ⟨rfl, hs9, hk⟩

set_option maxHeartbeats 4000000 in
theorem r0F_8 : RuleOk 210 (fun X σ => isM X 12 0 σ.v [pSeg 4] σ) := by
  intro w X σ h
  have f3 := h.f3
  have hF := h.ltF
  have hfre := h.fresh
  have Hst : Hid (St X w σ) := h
  have Hfre : Hid (¬ X.own w.heap.size) := hfre
  clear h hfre
  have HP : Hid (∀ (W : World) (q : Nat), ¬ X.own q → W.cell? ⟨q, 0, none⟩ = some (.int .i64 4) → ∀ p ∈ ([⟨252, #[.pointer (some ⟨q, 0, none⟩)], pSeg 4⟩] : List Prt), PartOk X W p.n p.cap p.f σ.v) := by
    intro W q hq hc p hp
    simp at hp
    subst hp
    exact seg_ok hq hc
  go_enter Tryz.func210, Tryz.ntmps210
  have Hd0 : Hid (St X w.drew σ) := Hst.out.drewN 1
  have Kd0 : Hid (Kp X.own w w.drew) := (Kp.refl _ _).drewN 1
  have Hd2 : Hid (St X ((w.alloc (.cells #[.int .i64 4] 3)).alloc (.cells #[.func (.func 252) #[] #[.pointer (some ⟨w.heap.size, 0, none⟩)]] 85)).drew σ) := ((Hst.out.alloc _).alloc _).drewN 1
  have Kd2 : Hid (Kp X.own w ((w.alloc (.cells #[.int .i64 4] 3)).alloc (.cells #[.func (.func 252) #[] #[.pointer (some ⟨w.heap.size, 0, none⟩)]] 85)).drew) := ((Kp.alloc X.own w _).trans (Kp.alloc X.own _ _)).drewN 1
  have Hh2 : Hid (((w.alloc (.cells #[.int .i64 4] 3)).alloc (.cells #[.func (.func 252) #[] #[.pointer (some ⟨w.heap.size, 0, none⟩)]] 85)).drew.heap[w.heap.size + 1]? = some (.cells #[.func (.func 252) #[] #[.pointer (some ⟨w.heap.size, 0, none⟩)]] 85)) := heap2 w _ _
  have Hc2 : Hid (((w.alloc (.cells #[.int .i64 4] 3)).alloc (.cells #[.func (.func 252) #[] #[.pointer (some ⟨w.heap.size, 0, none⟩)]] 85)).drew.cell? ⟨w.heap.size, 0, none⟩ = some (.int .i64 4)) := cell_kept (cell_new w (.int .i64 4) 3) ((Kp.alloc X.own _ _).drewN 1) Hfre.out
  have Hf2 : Hid (¬ X.own (w.heap.size + 1)) := Hst.out.fresh1
  go_region_with (first
    | (go_at_call 76; refine (segment_ok _ _).mono ?_; rintro e w3 ⟨rfl, hw⟩; subst hw)
    | (go_at_call 64; have cI := is_gen ((w.alloc (.cells #[.int .i64 4] 3)).alloc (.cells #[.func (.func 252) #[] #[.pointer (some ⟨w.heap.size, 0, none⟩)]] 85)).drew X σ Hd2.out 12 0 σ.v (w.heap.size + 1) [⟨252, #[.pointer (some ⟨w.heap.size, 0, none⟩)], pSeg 4⟩] (by simp) Hf2.out Hh2.out (HP.out _ _ Hfre.out Hc2.out); refine cI.mono ?_; rintro e w2 ⟨rfl, hd⟩; have hk := Kd2.out.trans hd.2))
  all_goals
    have hs9 := hd.1
    clear hd
    go_wp2
    go_end0
    exact ⟨rfl, hs9, hk⟩

set_option maxHeartbeats 4000000 in
theorem r0F_12 : RuleOk 214 (fun X σ => isM X 3 0 σ.v [pE, pG, pCL] σ) := by
  intro w X σ h
  have f3 := h.f3
  have hF := h.ltF
  have hfre := h.fresh
  have Hst : Hid (St X w σ) := h
  have Hfre : Hid (¬ X.own w.heap.size) := hfre
  clear h hfre
  have HP : Hid (∀ W : World, ∀ p ∈ ([⟨66, #[], pE⟩, ⟨67, #[], pG⟩, ⟨164, #[], pCL⟩] : List Prt), PartOk X W p.n p.cap p.f σ.v) := by
    intro W p hp
    simp at hp
    rcases hp with rfl | rfl | rfl
    · exact okE Hst.out.vs
    · exact okG Hst.out.vs
    · exact okCL Hst.out.vs
  go_enter Tryz.func214, Tryz.ntmps214
  go_wp2_with fail
  have cI := is_gen (w.alloc (.cells #[.func (.func 66) #[] #[], .func (.func 67) #[] #[], .func (.func 164) #[] #[]] 85)) X σ (Hst.out.alloc _) 3 0 σ.v w.heap.size [⟨66, #[], pE⟩, ⟨67, #[], pG⟩, ⟨164, #[], pCL⟩] (by decide) (Hst.out.fresh) (MapKept.heap_alloc w (.cells #[.func (.func 66) #[] #[], .func (.func 67) #[] #[], .func (.func 164) #[] #[]] 85)).1 (HP.out _)
  refine cI.mono ?_; rintro e w2 ⟨rfl, hd⟩
  have hk := ((Kp.alloc X.own _ _)).trans hd.2
  have hs9 := hd.1
  clear hd
  go_wp2
  go_end0
  exact ⟨rfl, hs9, hk⟩

set_option maxHeartbeats 4000000 in
theorem r0F_16 : RuleOk 218 (fun X σ => isM X 3 1 σ.v [pE, pG, pIb] σ) := by
  intro w X σ h
  have f3 := h.f3
  have hF := h.ltF
  have hfre := h.fresh
  have Hst : Hid (St X w σ) := h
  have Hfre : Hid (¬ X.own w.heap.size) := hfre
  clear h hfre
  have HP : Hid (∀ W : World, ∀ p ∈ ([⟨66, #[], pE⟩, ⟨67, #[], pG⟩, ⟨148, #[], pIb⟩] : List Prt), PartOk X W p.n p.cap p.f σ.v) := by
    intro W p hp
    simp at hp
    rcases hp with rfl | rfl | rfl
    · exact okE Hst.out.vs
    · exact okG Hst.out.vs
    · exact okIb Hst.out.vs
  go_enter Tryz.func218, Tryz.ntmps218
  go_wp2_with fail
  have cI := is_gen (w.alloc (.cells #[.func (.func 66) #[] #[], .func (.func 67) #[] #[], .func (.func 148) #[] #[]] 85)) X σ (Hst.out.alloc _) 3 1 σ.v w.heap.size [⟨66, #[], pE⟩, ⟨67, #[], pG⟩, ⟨148, #[], pIb⟩] (by decide) (Hst.out.fresh) (MapKept.heap_alloc w (.cells #[.func (.func 66) #[] #[], .func (.func 67) #[] #[], .func (.func 148) #[] #[]] 85)).1 (HP.out _)
  refine cI.mono ?_; rintro e w2 ⟨rfl, hd⟩
  have hk := ((Kp.alloc X.own _ _)).trans hd.2
  have hs9 := hd.1
  clear hd
  go_wp2
  go_end0
  exact ⟨rfl, hs9, hk⟩

set_option maxHeartbeats 4000000 in
theorem r0F_20 : RuleOk 222 (fun X σ => isM X 9 0 σ.v [pG, pEb] σ) := by
  intro w X σ h
  have f3 := h.f3
  have hF := h.ltF
  have hfre := h.fresh
  have Hst : Hid (St X w σ) := h
  have Hfre : Hid (¬ X.own w.heap.size) := hfre
  clear h hfre
  have HP : Hid (∀ W : World, ∀ p ∈ ([⟨67, #[], pG⟩, ⟨223, #[], pEb⟩] : List Prt), PartOk X W p.n p.cap p.f σ.v) := by
    intro W p hp
    simp at hp
    rcases hp with rfl | rfl
    · exact okG Hst.out.vs
    · exact okEb Hst.out.vs
  go_enter Tryz.func222, Tryz.ntmps222
  go_wp2_with fail
  have cI := is_gen (w.alloc (.cells #[.func (.func 67) #[] #[], .func (.func 223) #[] #[]] 85)) X σ (Hst.out.alloc _) 9 0 σ.v w.heap.size [⟨67, #[], pG⟩, ⟨223, #[], pEb⟩] (by decide) (Hst.out.fresh) (MapKept.heap_alloc w (.cells #[.func (.func 67) #[] #[], .func (.func 223) #[] #[]] 85)).1 (HP.out _)
  refine cI.mono ?_; rintro e w2 ⟨rfl, hd⟩
  have hk := ((Kp.alloc X.own _ _)).trans hd.2
  have hs9 := hd.1
  clear hd
  go_wp2
  go_end0
  exact ⟨rfl, hs9, hk⟩

set_option maxHeartbeats 4000000 in
theorem r0F_25 : RuleOk 229 (fun X σ => isM X 24 1 σ.v [pG, pE] σ) := by
  intro w X σ h
  have f3 := h.f3
  have hF := h.ltF
  have hfre := h.fresh
  have Hst : Hid (St X w σ) := h
  have Hfre : Hid (¬ X.own w.heap.size) := hfre
  clear h hfre
  have HP : Hid (∀ W : World, ∀ p ∈ ([⟨67, #[], pG⟩, ⟨66, #[], pE⟩] : List Prt), PartOk X W p.n p.cap p.f σ.v) := by
    intro W p hp
    simp at hp
    rcases hp with rfl | rfl
    · exact okG Hst.out.vs
    · exact okE Hst.out.vs
  go_enter Tryz.func229, Tryz.ntmps229
  go_wp2_with fail
  have cI := is_gen (w.alloc (.cells #[.func (.func 67) #[] #[], .func (.func 66) #[] #[]] 85)) X σ (Hst.out.alloc _) 24 1 σ.v w.heap.size [⟨67, #[], pG⟩, ⟨66, #[], pE⟩] (by decide) (Hst.out.fresh) (MapKept.heap_alloc w (.cells #[.func (.func 67) #[] #[], .func (.func 66) #[] #[]] 85)).1 (HP.out _)
  refine cI.mono ?_; rintro e w2 ⟨rfl, hd⟩
  have hk := ((Kp.alloc X.own _ _)).trans hd.2
  have hs9 := hd.1
  clear hd
  go_wp2
  go_end0
  exact ⟨rfl, hs9, hk⟩

end Go.Proofs.YtolnaodlghahlaaGreatDoor
