/- Contracts of the table's rules. -/
import Derived.Test.YtolnaodlghahlaaGreatDoorDecRule0
import Derived.Deep.RegionWith
namespace Go.Proofs.YtolnaodlghahlaaGreatDoor
open Go.ChangeShapes Go.WideShapes Go.ChangeAt Go.RowKit
set_option linter.unusedVariables false
set_option maxRecDepth 100000

set_option maxHeartbeats 8000000 in
theorem r0F_22 : RuleOk 226 (fun X σ => isM X 23 ((modrm X (onlyM X [4, 5, 6, 7] σ)).1.2.1 - 4) (onlyM X [4, 5, 6, 7] σ).v [pE, pIb] (modrm X (onlyM X [4, 5, 6, 7] σ)).2) := by
  intro w X σ h
  have hfre := h.fresh
  have h0 : St X (w.alloc (.cells #[.int .i64 4, .int .i64 5, .int .i64 6, .int .i64 7] 3)) σ := h.alloc _
  have hn0 := (MapKept.heap_alloc w (.cells #[.int .i64 4, .int .i64 5, .int .i64 6, .int .i64 7] 3)).1
  have cO := only_ok _ X σ h0 w.heap.size 4 [4, 5, 6, 7] rfl (by decide) hfre (fun j hj => by
    rcases (by omega : j = 0 ∨ j = 1 ∨ j = 2 ∨ j = 3) with rfl | rfl | rfl | rfl <;> (unfold World.cell?; rw [hn0]; rfl))
  obtain ⟨σa, hσa⟩ : ∃ σa, σa = onlyM X [4, 5, 6, 7] σ := ⟨_, rfl⟩
  show Calls _ _ _ _ fun e w' => _ ∧ Done X w (isM X 23 ((modrm X (onlyM X [4, 5, 6, 7] σ)).1.2.1 - 4) (onlyM X [4, 5, 6, 7] σ).v [pE, pIb] (modrm X (onlyM X [4, 5, 6, 7] σ)).2) w'
  rw [← hσa] at cO ⊢
  clear hσa h h0 hn0
  go_enter Tryz.func226, Tryz.ntmps226
  go_wp2_with fail
  refine cO.mono ?_; rintro e wa ⟨rfl, h, ka⟩
  replace ka := (Kp.alloc X.own w _).trans ka
  clear cO hfre
  have f3 := h.f3
  have hF := h.ltF
  have hfre := h.fresh
  have cM := fun W (hW : St X W σa) => modrm_ok W X σa hW
  have hv1 := modrm_v X σa
  have hbd := modrm_bd h
  obtain ⟨⟨m, n, r⟩, hm⟩ : ∃ x, x = (modrm X σa).1 := ⟨_, rfl⟩
  obtain ⟨σ1, hσ1⟩ : ∃ σ1, σ1 = (modrm X σa).2 := ⟨_, rfl⟩
  obtain ⟨V, hV⟩ : ∃ V, V = isM X 23 (n - 4) σa.v [pE, pIb] σ1 := ⟨_, rfl⟩
  have eV : isM X 23 ((modrm X σa).1.2.1 - 4) σa.v [pE, pIb] (modrm X σa).2 = V := by rw [hV, hσ1, ← hm]
  simp only [← hm, ← hσ1, mrV] at cM hv1 hbd
  obtain ⟨_, ⟨n0, n1⟩, _⟩ := hbd
  have fl1 := fld1
  have hw4 : IntKind.i64.wrap (n - 4) = n - 4 := IntWalk.i64_in _ ⟨by omega, by omega⟩
  have HV : Hid (V = isM X 23 (n - 4) σa.v [pE, pIb] σ1) := hV
  have Hv1 : Hid (σ1.v = σa.v) := hv1
  have HM : Hid _ := cM
  clear hm hσ1 hV hv1 cM
  have Hst : Hid (St X wa σa) := h
  have Hfre : Hid (¬ X.own wa.heap.size) := hfre
  clear h hfre
  have HP : Hid (∀ W : World, ∀ p ∈ ([⟨66, #[], pE⟩, ⟨148, #[], pIb⟩] : List Prt), PartOk X W p.n p.cap p.f σa.v) := by
    intro W p hp
    simp at hp
    rcases hp with rfl | rfl
    · exact okE Hst.out.vs
    · exact okIb Hst.out.vs
  have Hd0 : Hid (St X wa.drew σa) := Hst.out.drewN 1
  have Kd0 : Hid (Kp X.own wa wa.drew) := (Kp.refl _ _).drewN 1
  have Hd1 : Hid (St X (wa.alloc (.cells #[.func (.func 66) #[] #[], .func (.func 148) #[] #[]] 85)).drew σa) := (Hst.out.alloc _).drewN 1
  have Kd1 : Hid (Kp X.own wa (wa.alloc (.cells #[.func (.func 66) #[] #[], .func (.func 148) #[] #[]] 85)).drew) := (Kp.alloc _ _ _).drewN 1
  have Hh1 : Hid ((wa.alloc (.cells #[.func (.func 66) #[] #[], .func (.func 148) #[] #[]] 85)).drew.heap[wa.heap.size]? = some (.cells #[.func (.func 66) #[] #[], .func (.func 148) #[] #[]] 85)) := (MapKept.heap_alloc wa _).1
  go_upto_region 1 with fail
  go_region_with (first
    | (go_at_call 103; refine Calls.mono (HM.out _ ?_) ?_; (first | exact Hd0.out | exact Hd1.out); rintro e w1 ⟨rfl, h1, k1⟩; have g3 : w1.cell? ⟨X.F, 3, none⟩ = some (.int .i64 σa.v) := (by rw [← Hv1.out]; exact h1.f3); have gF := h1.ltF; (try have hsl := heap_kept Hh1.out k1 Hfre.out))
    | (go_at_call 64; first | (have cI := is_gen w1 X σ1 h1 23 (n - 4) σa.v wa.heap.size [⟨66, #[], pE⟩, ⟨148, #[], pIb⟩] (by decide) Hfre.out hsl (HP.out _); refine cI.mono ?_; rintro e w2 ⟨rfl, hd⟩; have hk := (Kd1.out.trans k1).trans hd.2) | (have cI := is_gen (w1.alloc (.cells #[.func (.func 66) #[] #[], .func (.func 148) #[] #[]] 85)) X σ1 (h1.alloc _) 23 (n - 4) σa.v w1.heap.size [⟨66, #[], pE⟩, ⟨148, #[], pIb⟩] (by decide) h1.fresh (MapKept.heap_alloc w1 (.cells #[.func (.func 66) #[] #[], .func (.func 148) #[] #[]] 85)).1 (HP.out _); refine cI.mono ?_; rintro e w2 ⟨rfl, hd⟩; have hk := ((Kd0.out.trans k1).trans (Kp.alloc X.own w1 _)).trans hd.2)))
  all_goals
    have hs9 := hd.1
    clear hd
    go_wp2
    go_end0
    rw [eV]; rw [HV.out]
    exact ⟨rfl, hs9, ka.trans hk⟩

end Go.Proofs.YtolnaodlghahlaaGreatDoor
