/- The document's reader, and the code's (DecR5, DecTab, DecFrame). -/
import Derived.Test.YtbfccfhjgopnbaaGreatDr03
import Derived.Deep.RegionWith
import Derived.Test.YtbfccfhjgopnbaaGreatDr08
import Derived.Test.YtbfccfhjgopnbaaGreatDr43
import Derived.Test.YtbfccfhjgopnbaaGreatDr44
import Derived.Test.YtbfccfhjgopnbaaGreatDr45
import Derived.Test.YtbfccfhjgopnbaaGreatDr46
import Derived.Test.YtbfccfhjgopnbaaGreatRows
import Derived.WalkKit
import Derived.ProofKit
import Derived.OpenShut
import Derived.Below
import Derived.SizedLaws
set_option linter.unusedSimpArgs false
namespace Go.Proofs.YtbfccfhjgopnbaaGreat
open Go.ChangeShapes Go.WideShapes Go.ChangeAt Go.RowKit
set_option linter.unusedVariables false
set_option maxRecDepth 100000
set_option maxHeartbeats 8000000 in
theorem r0F_22 : RuleOk 195 (fun X σ => isM X 23 ((modrm X (onlyM X [4, 5, 6, 7] σ)).1.2.1 - 4) (onlyM X [4, 5, 6, 7] σ).v [pE, pIb] (modrm X (onlyM X [4, 5, 6, 7] σ)).2) := by
  intro w X σ h
  have hfre := h.fresh
  have h0 : St X (w.alloc (.cells #[.int .i64 4, .int .i64 5, .int .i64 6, .int .i64 7] 3)) σ := h.alloc _
  have hn0 := (MapKept.heap_alloc w (.cells #[.int .i64 4, .int .i64 5, .int .i64 6, .int .i64 7] 3)).1
  have cO := only_ok _ X σ h0 w.heap.size 4 [4, 5, 6, 7] rfl (by decide) hfre (fun j hj => by
    rcases (by omega : j = 0 ∨ j = 1 ∨ j = 2 ∨ j = 3) with rfl | rfl | rfl | rfl <;> (unfold World.cell?; rw [hn0]; rfl))
  obtain ⟨σa, hσa⟩ : ∃ σa, σa = onlyM X [4, 5, 6, 7] σ := ⟨_, rfl⟩
  show Calls _ _ _ _ fun e w' => _ ∧ Done X w (isM X 23 ((modrm X (onlyM X [4, 5, 6, 7] σ)).1.2.1 - 4) (onlyM X [4, 5, 6, 7] σ).v [pE, pIb] (modrm X (onlyM X [4, 5, 6, 7] σ)).2) w'
  rw [← hσa] at cO ⊢
  clear hσa h h0 hn0
  go_enter Tryz.func195, Tryz.ntmps195
  go_wp2_with fail
  refine cO.mono ?_; rintro e wa ⟨rfl, h, ka⟩
  replace ka := (Kp.alloc X.own w _).trans ka
  clear cO hfre
  have f3 := h.f3
  have hF := h.ltF
  have hfre := h.fresh
  have cM := fun W (hW : St X W σa) => modrm_ok W X σa hW
  have hv1 := modrm_v X σa
  have hbd := modrm_bd h
  obtain ⟨⟨m, n, r⟩, hm⟩ : ∃ x, x = (modrm X σa).1 := ⟨_, rfl⟩
  obtain ⟨σ1, hσ1⟩ : ∃ σ1, σ1 = (modrm X σa).2 := ⟨_, rfl⟩
  obtain ⟨V, hV⟩ : ∃ V, V = isM X 23 (n - 4) σa.v [pE, pIb] σ1 := ⟨_, rfl⟩
  have eV : isM X 23 ((modrm X σa).1.2.1 - 4) σa.v [pE, pIb] (modrm X σa).2 = V := by rw [hV, hσ1, ← hm]
  simp only [← hm, ← hσ1, mrV] at cM hv1 hbd
  obtain ⟨_, ⟨n0, n1⟩, _⟩ := hbd
  have fl1 := fld1
  have hw4 : IntKind.i64.wrap (n - 4) = n - 4 := IntWalk.i64_in _ ⟨by omega, by omega⟩
  have HV : Hid (V = isM X 23 (n - 4) σa.v [pE, pIb] σ1) := hV
  have Hv1 : Hid (σ1.v = σa.v) := hv1
  have HM : Hid _ := cM
  clear hm hσ1 hV hv1 cM
  have Hst : Hid (St X wa σa) := h
  have Hfre : Hid (¬ X.own wa.heap.size) := hfre
  clear h hfre
  have HP : Hid (∀ W : World, ∀ p ∈ ([⟨35, #[], pE⟩, ⟨117, #[], pIb⟩] : List Prt), PartOk X W p.n p.cap p.f σa.v) := by
    intro W p hp
    simp at hp
    rcases hp with rfl | rfl
    · exact okE Hst.out.vs
    · exact okIb Hst.out.vs
  have Hd0 : Hid (St X wa.drew σa) := Hst.out.drewN 1
  have Kd0 : Hid (Kp X.own wa wa.drew) := (Kp.refl _ _).drewN 1
  have Hd1 : Hid (St X (wa.alloc (.cells #[.func (.func 35) #[] #[], .func (.func 117) #[] #[]] 55)).drew σa) := (Hst.out.alloc _).drewN 1
  have Kd1 : Hid (Kp X.own wa (wa.alloc (.cells #[.func (.func 35) #[] #[], .func (.func 117) #[] #[]] 55)).drew) := (Kp.alloc _ _ _).drewN 1
  have Hh1 : Hid ((wa.alloc (.cells #[.func (.func 35) #[] #[], .func (.func 117) #[] #[]] 55)).drew.heap[wa.heap.size]? = some (.cells #[.func (.func 35) #[] #[], .func (.func 117) #[] #[]] 55)) := (MapKept.heap_alloc wa _).1
  go_upto_region 1 with fail
  go_region_with (first
    | (go_at_call 72; refine Calls.mono (HM.out _ ?_) ?_; (first | exact Hd0.out | exact Hd1.out); rintro e w1 ⟨rfl, h1, k1⟩; have g3 : w1.cell? ⟨X.F, 3, none⟩ = some (.int .i64 σa.v) := (by rw [← Hv1.out]; exact h1.f3); have gF := h1.ltF; (try have hsl := heap_kept Hh1.out k1 Hfre.out))
    | (go_at_call 33; first | (have cI := is_gen w1 X σ1 h1 23 (n - 4) σa.v wa.heap.size [⟨35, #[], pE⟩, ⟨117, #[], pIb⟩] (by decide) Hfre.out hsl (HP.out _); refine cI.mono ?_; rintro e w2 ⟨rfl, hd⟩; have hk := (Kd1.out.trans k1).trans hd.2) | (have cI := is_gen (w1.alloc (.cells #[.func (.func 35) #[] #[], .func (.func 117) #[] #[]] 55)) X σ1 (h1.alloc _) 23 (n - 4) σa.v w1.heap.size [⟨35, #[], pE⟩, ⟨117, #[], pIb⟩] (by decide) h1.fresh (MapKept.heap_alloc w1 (.cells #[.func (.func 35) #[] #[], .func (.func 117) #[] #[]] 55)).1 (HP.out _); refine cI.mono ?_; rintro e w2 ⟨rfl, hd⟩; have hk := ((Kd0.out.trans k1).trans (Kp.alloc X.own w1 _)).trans hd.2)))
  all_goals
    have hs9 := hd.1
    clear hd
    go_wp2
    go_end0
    rw [eV]; rw [HV.out]
    exact ⟨rfl, hs9, ka.trans hk⟩
end Go.Proofs.YtbfccfhjgopnbaaGreat
namespace Go.Proofs.YtbfccfhjgopnbaaGreat
open Go.ChangeShapes Go.WideShapes Go.ChangeAt Go.RowKit
set_option linter.unusedVariables false
set_option maxRecDepth 100000
theorem tb0 : RowOk 32 (.row ⟨.no, 1, .opn, (.k 1), [.E, .G]⟩) := ⟨r00_1, fun a w => by kernel_rfl⟩
theorem tb1 : RowOk 40 (.row ⟨.no, 1, .opn, (.k 1), [.A, .I]⟩) := ⟨r00_5, fun a w => by kernel_rfl⟩
theorem tb2 : RowOk 47 (.row ⟨.no, 12, (.k 0), .v, [.Seg 2]⟩) := ⟨r00_9, fun a w => by kernel_rfl⟩
theorem tb3 : RowOk 51 (.row ⟨.no, 13, (.k 0), .v, [.Seg 3]⟩) := ⟨r00_13, fun a w => by kernel_rfl⟩
theorem tb4 : RowOk 55 (.row ⟨.no, 7, (.k 3), (.k 1), []⟩) := ⟨r00_17, fun a w => by kernel_rfl⟩
theorem tb5 : RowOk 60 (.row ⟨.no, 13, (.k 0), .v, [.R]⟩) := ⟨r40_4, fun a w => by kernel_rfl⟩
theorem tb6 : RowOk 64 (.row ⟨.no, 5, (.k 0), .v, [.G, .E, .I]⟩) := ⟨r40_8, fun a w => by kernel_rfl⟩
theorem tb7 : RowOk 71 (.row ⟨.no, 1, .mn, (.k 1), [.E, .I]⟩) := ⟨r80_1, fun a w => by kernel_rfl⟩
theorem tb8 : RowOk 76 (.row ⟨.no, 1, (.k 8), .v, [.E, .G]⟩) := ⟨r80_5, fun a w => by kernel_rfl⟩
theorem tb9 : RowOk 80 (.row ⟨.no, 8, (.k 0), .v, [.E, .G]⟩) := ⟨r80_9, fun a w => by kernel_rfl⟩
theorem tb10 : RowOk 88 (.row ⟨.no, 10, (.k 0), .v, [.R, .A]⟩) := ⟨r80_13, fun a w => by kernel_rfl⟩
theorem tb11 : RowOk 92 (.row ⟨.no, 17, (.k 0), .v, []⟩) := ⟨r80_17, fun a w => by kernel_rfl⟩
theorem tb12 : RowOk 96 (.row ⟨.no, 8, (.k 0), (.k 1), [.A, .O]⟩) := ⟨rA0_1, fun a w => by kernel_rfl⟩
theorem tb13 : RowOk 101 (.str 0 (.k 1)) := ⟨rA0_5, fun a w => by kernel_rfl⟩
theorem tb14 : RowOk 106 (.row ⟨.no, 1, (.k 8), (.k 1), [.A, .I]⟩) := ⟨rA0_9, fun a w => by kernel_rfl⟩
theorem tb15 : RowOk 110 (.str 3 (.k 1)) := ⟨rA0_13, fun a w => by kernel_rfl⟩
theorem tb16 : RowOk 114 (.row ⟨.no, 8, (.k 0), (.k 1), [.R, .I]⟩) := ⟨rA0_17, fun a w => by kernel_rfl⟩
theorem tb17 : RowOk 119 (.row ⟨.no, 30, (.k 0), .v, [.Iw]⟩) := ⟨rC0_3, fun a w => by kernel_rfl⟩
theorem tb18 : RowOk 125 (.row ⟨.no, 35, (.k 0), .v, []⟩) := ⟨rC0_7, fun a w => by kernel_rfl⟩
theorem tb19 : RowOk 129 (.row ⟨.no, 33, (.k 0), .v, []⟩) := ⟨rC0_11, fun a w => by kernel_rfl⟩
theorem tb20 : RowOk 134 (.row ⟨.no, 2, .mn, .v, [.E, .CL]⟩) := ⟨rC0_15, fun a w => by kernel_rfl⟩
theorem tb21 : RowOk 138 (.row ⟨.no, 31, (.k 1), .v, [.Jb]⟩) := ⟨rE0_2, fun a w => by kernel_rfl⟩
theorem tb22 : RowOk 142 (.row ⟨.no, 37, (.k 0), .v, [.A, .Ib]⟩) := ⟨rE0_6, fun a w => by kernel_rfl⟩
theorem tb23 : RowOk 147 (.row ⟨.no, 27, (.k 0), .v, [.J]⟩) := ⟨rE0_10, fun a w => by kernel_rfl⟩
theorem tb24 : RowOk 153 (.row ⟨.no, 37, (.k 0), .v, [.A, .DX]⟩) := ⟨rE0_14, fun a w => by kernel_rfl⟩
theorem tb25 : RowOk 157 (.row ⟨.no, 39, (.k 2), (.k 4), []⟩) := ⟨rE0_18, fun a w => by kernel_rfl⟩
theorem tb26 : RowOk 164 (.row ⟨.no, 39, (.k 6), (.k 4), []⟩) := ⟨rE0_24, fun a w => by kernel_rfl⟩
theorem tb27 : RowOk 169 (.row ⟨(.only [3]), 44, (.k 0), (.k 2), [.E]⟩) := ⟨r0F_1, fun a w => by kernel_rfl⟩
theorem tb28 : RowOk 176 (.row ⟨.no, 26, .opc, .v, [.G, .E]⟩) := ⟨r0F_5, fun a w => by kernel_rfl⟩
theorem tb29 : RowOk 180 (.row ⟨.no, 13, (.k 0), .v, [.Seg 4]⟩) := ⟨r0F_9, fun a w => by kernel_rfl⟩
theorem tb30 : RowOk 184 (.row ⟨.no, 12, (.k 0), .v, [.Seg 5]⟩) := ⟨r0F_13, fun a w => by kernel_rfl⟩
theorem tb31 : RowOk 188 (.row ⟨.no, 3, (.k 1), .v, [.E, .G, .CL]⟩) := ⟨r0F_17, fun a w => by kernel_rfl⟩
theorem tb32 : RowOk 193 (.row ⟨.no, 9, (.k 0), .v, [.G, .Ew]⟩) := ⟨r0F_21, fun a w => by kernel_rfl⟩
theorem tb33 : RowOk 199 (.row ⟨.no, 9, (.k 1), .v, [.G, .Eb]⟩) := ⟨r0F_26, fun a w => by kernel_rfl⟩
theorem tb34 : RowOk 37 (.row ⟨.no, 1, .opn, .v, [.E, .G]⟩) := ⟨r00_2, fun a w => by kernel_rfl⟩
theorem tb35 : RowOk 43 (.row ⟨.no, 1, .opn, .v, [.A, .I]⟩) := ⟨r00_6, fun a w => by kernel_rfl⟩
theorem tb36 : RowOk 48 (.row ⟨.no, 12, (.k 0), .v, [.Seg 3]⟩) := ⟨r00_10, fun a w => by kernel_rfl⟩
theorem tb37 : RowOk 52 (.row ⟨.no, 7, (.k 0), (.k 1), []⟩) := ⟨r00_14, fun a w => by kernel_rfl⟩
theorem tb38 : RowOk 56 (.row ⟨.no, 1, (.k 9), .v, [.R]⟩) := ⟨r40_1, fun a w => by kernel_rfl⟩
theorem tb39 : RowOk 61 (.row ⟨.no, 14, (.k 0), .v, []⟩) := ⟨r40_5, fun a w => by kernel_rfl⟩
theorem tb40 : RowOk 65 (.row ⟨.no, 12, (.k 0), .v, [.Is]⟩) := ⟨r40_9, fun a w => by kernel_rfl⟩
theorem tb41 : RowOk 73 (.row ⟨.no, 1, .mn, .v, [.E, .I]⟩) := ⟨r80_2, fun a w => by kernel_rfl⟩
theorem tb42 : RowOk 77 (.row ⟨.no, 10, (.k 0), (.k 1), [.E, .G]⟩) := ⟨r80_6, fun a w => by kernel_rfl⟩
theorem tb43 : RowOk 81 (.row ⟨.no, 8, (.k 0), (.k 1), [.G, .E]⟩) := ⟨r80_10, fun a w => by kernel_rfl⟩
theorem tb44 : RowOk 89 (.row ⟨.no, 20, (.k 0), .v, []⟩) := ⟨r80_14, fun a w => by kernel_rfl⟩
theorem tb45 : RowOk 93 (.row ⟨.no, 18, (.k 0), (.k 1), []⟩) := ⟨r80_18, fun a w => by kernel_rfl⟩
theorem tb46 : RowOk 98 (.row ⟨.no, 8, (.k 0), .v, [.A, .O]⟩) := ⟨rA0_2, fun a w => by kernel_rfl⟩
theorem tb47 : RowOk 103 (.str 0 .v) := ⟨rA0_6, fun a w => by kernel_rfl⟩
theorem tb48 : RowOk 107 (.row ⟨.no, 1, (.k 8), .v, [.A, .I]⟩) := ⟨rA0_10, fun a w => by kernel_rfl⟩
theorem tb49 : RowOk 111 (.str 3 .v) := ⟨rA0_14, fun a w => by kernel_rfl⟩
theorem tb50 : RowOk 115 (.row ⟨.no, 8, (.k 0), .v, [.R, .I]⟩) := ⟨rA0_18, fun a w => by kernel_rfl⟩
theorem tb51 : RowOk 121 (.row ⟨.no, 30, (.k 0), .v, [.Num 0]⟩) := ⟨rC0_4, fun a w => by kernel_rfl⟩
theorem tb52 : RowOk 126 (.row ⟨.no, 32, (.k 1), (.k 4), [.Num 3]⟩) := ⟨rC0_8, fun a w => by kernel_rfl⟩
theorem tb53 : RowOk 130 (.row ⟨.no, 2, .mn, (.k 1), [.E, .Num 1]⟩) := ⟨rC0_12, fun a w => by kernel_rfl⟩
theorem tb54 : RowOk 135 (.row ⟨.no, 7, (.k 4), (.k 1), [.I]⟩) := ⟨rC0_16, fun a w => by kernel_rfl⟩
theorem tb55 : RowOk 139 (.row ⟨.no, 31, (.k 2), .v, [.Jb]⟩) := ⟨rE0_3, fun a w => by kernel_rfl⟩
theorem tb56 : RowOk 143 (.row ⟨.no, 38, (.k 0), (.k 1), [.Ib, .A]⟩) := ⟨rE0_7, fun a w => by kernel_rfl⟩
theorem tb57 : RowOk 148 (.row ⟨.no, 34, (.k 0), .v, [.Far]⟩) := ⟨rE0_11, fun a w => by kernel_rfl⟩
theorem tb58 : RowOk 154 (.row ⟨.no, 38, (.k 0), (.k 1), [.DX, .A]⟩) := ⟨rE0_15, fun a w => by kernel_rfl⟩
theorem tb59 : RowOk 161 (.row ⟨.no, 39, (.k 0), (.k 4), []⟩) := ⟨rE0_21, fun a w => by kernel_rfl⟩
theorem tb60 : RowOk 165 (.row ⟨.no, 39, (.k 3), (.k 4), []⟩) := ⟨rE0_25, fun a w => by kernel_rfl⟩
theorem tb61 : RowOk 171 (.row ⟨.no, 47, (.k 0), (.k 4), []⟩) := ⟨r0F_2, fun a w => by kernel_rfl⟩
theorem tb62 : RowOk 177 (.row ⟨.no, 28, .opc, .v, [.J]⟩) := ⟨r0F_6, fun a w => by kernel_rfl⟩
theorem tb63 : RowOk 181 (.row ⟨.no, 23, (.k 0), .v, [.E, .G]⟩) := ⟨r0F_10, fun a w => by kernel_rfl⟩
theorem tb64 : RowOk 185 (.row ⟨.no, 13, (.k 0), .v, [.Seg 5]⟩) := ⟨r0F_14, fun a w => by kernel_rfl⟩
theorem tb65 : RowOk 189 (.row ⟨.no, 5, (.k 0), .v, [.G, .E]⟩) := ⟨r0F_18, fun a w => by kernel_rfl⟩
theorem tb66 : RowOk 196 (.row ⟨.no, 23, (.k 3), .v, [.E, .G]⟩) := ⟨r0F_23, fun a w => by kernel_rfl⟩
theorem tb67 : RowOk 200 (.row ⟨.no, 9, (.k 1), .v, [.G, .Ew]⟩) := ⟨r0F_27, fun a w => by kernel_rfl⟩
theorem tb68 : RowOk 38 (.row ⟨.no, 1, .opn, (.k 1), [.G, .E]⟩) := ⟨r00_3, fun a w => by kernel_rfl⟩
theorem tb69 : RowOk 44 (.row ⟨.no, 12, (.k 0), .v, [.Seg 0]⟩) := ⟨r00_7, fun a w => by kernel_rfl⟩
theorem tb70 : RowOk 49 (.row ⟨.no, 13, (.k 0), .v, [.Seg 0]⟩) := ⟨r00_11, fun a w => by kernel_rfl⟩
theorem tb71 : RowOk 53 (.row ⟨.no, 7, (.k 1), (.k 1), []⟩) := ⟨r00_15, fun a w => by kernel_rfl⟩
theorem tb72 : RowOk 58 (.row ⟨.no, 1, (.k 10), .v, [.R]⟩) := ⟨r40_2, fun a w => by kernel_rfl⟩
theorem tb73 : RowOk 62 (.row ⟨.no, 15, (.k 0), .v, []⟩) := ⟨r40_6, fun a w => by kernel_rfl⟩
theorem tb74 : RowOk 67 (.row ⟨.no, 5, (.k 0), .v, [.G, .E, .Is]⟩) := ⟨r40_10, fun a w => by kernel_rfl⟩
theorem tb75 : RowOk 74 (.row ⟨.no, 1, .mn, .v, [.E, .Is]⟩) := ⟨r80_3, fun a w => by kernel_rfl⟩
theorem tb76 : RowOk 78 (.row ⟨.no, 10, (.k 0), .v, [.E, .G]⟩) := ⟨r80_7, fun a w => by kernel_rfl⟩
theorem tb77 : RowOk 82 (.row ⟨.no, 8, (.k 0), .v, [.G, .E]⟩) := ⟨r80_11, fun a w => by kernel_rfl⟩
theorem tb78 : RowOk 90 (.row ⟨.no, 21, (.k 0), .v, []⟩) := ⟨r80_15, fun a w => by kernel_rfl⟩
theorem tb79 : RowOk 94 (.row ⟨.no, 19, (.k 0), (.k 1), []⟩) := ⟨r80_19, fun a w => by kernel_rfl⟩
theorem tb80 : RowOk 99 (.row ⟨.no, 8, (.k 0), (.k 1), [.O, .A]⟩) := ⟨rA0_3, fun a w => by kernel_rfl⟩
theorem tb81 : RowOk 104 (.str 1 (.k 1)) := ⟨rA0_7, fun a w => by kernel_rfl⟩
theorem tb82 : RowOk 108 (.str 2 (.k 1)) := ⟨rA0_11, fun a w => by kernel_rfl⟩
theorem tb83 : RowOk 112 (.str 4 (.k 1)) := ⟨rA0_15, fun a w => by kernel_rfl⟩
theorem tb84 : RowOk 116 (.row ⟨.no, 2, .mn, (.k 1), [.E, .Ib]⟩) := ⟨rC0_1, fun a w => by kernel_rfl⟩
theorem tb85 : RowOk 123 (.row ⟨(.only [0]), 8, (.k 0), (.k 1), [.E, .I]⟩) := ⟨rC0_5, fun a w => by kernel_rfl⟩
theorem tb86 : RowOk 127 (.row ⟨.no, 32, (.k 0), (.k 4), [.Ib]⟩) := ⟨rC0_9, fun a w => by kernel_rfl⟩
theorem tb87 : RowOk 131 (.row ⟨.no, 2, .mn, .v, [.E, .Num 1]⟩) := ⟨rC0_13, fun a w => by kernel_rfl⟩
theorem tb88 : RowOk 136 (.row ⟨.no, 7, (.k 5), (.k 1), [.I]⟩) := ⟨rC0_17, fun a w => by kernel_rfl⟩
theorem tb89 : RowOk 140 (.row ⟨.no, 31, (.k 3), .v, [.Jb]⟩) := ⟨rE0_4, fun a w => by kernel_rfl⟩
theorem tb90 : RowOk 144 (.row ⟨.no, 38, (.k 0), .v, [.Ib, .A]⟩) := ⟨rE0_8, fun a w => by kernel_rfl⟩
theorem tb91 : RowOk 150 (.row ⟨.no, 27, (.k 0), .v, [.Jb]⟩) := ⟨rE0_12, fun a w => by kernel_rfl⟩
theorem tb92 : RowOk 155 (.row ⟨.no, 38, (.k 0), .v, [.DX, .A]⟩) := ⟨rE0_16, fun a w => by kernel_rfl⟩
theorem tb93 : RowOk 162 (.row ⟨.no, 39, (.k 1), (.k 4), []⟩) := ⟨rE0_22, fun a w => by kernel_rfl⟩
theorem tb94 : RowOk 166 (.row ⟨.no, 39, (.k 4), (.k 4), []⟩) := ⟨rE0_26, fun a w => by kernel_rfl⟩
theorem tb95 : RowOk 172 (.row ⟨(.only [0, 2, 3]), 45, (.k 0), (.k 4), [.Rm, .Cr]⟩) := ⟨r0F_3, fun a w => by kernel_rfl⟩
theorem tb96 : RowOk 178 (.row ⟨.no, 25, .opc, (.k 1), [.E]⟩) := ⟨r0F_7, fun a w => by kernel_rfl⟩
theorem tb97 : RowOk 182 (.row ⟨.no, 3, (.k 0), .v, [.E, .G, .Ib]⟩) := ⟨r0F_11, fun a w => by kernel_rfl⟩
theorem tb98 : RowOk 186 (.row ⟨.no, 23, (.k 1), .v, [.E, .G]⟩) := ⟨r0F_15, fun a w => by kernel_rfl⟩
theorem tb99 : RowOk 190 (.row ⟨.no, 23, (.k 2), .v, [.E, .G]⟩) := ⟨r0F_19, fun a w => by kernel_rfl⟩
theorem tb100 : RowOk 197 (.row ⟨.no, 24, (.k 0), .v, [.G, .E]⟩) := ⟨r0F_24, fun a w => by kernel_rfl⟩
theorem tb101 : RowOk 201 (.row ⟨.no, 22, (.k 0), (.k 4), [.R]⟩) := ⟨r0F_28, fun a w => by kernel_rfl⟩
theorem tb102 : RowOk 39 (.row ⟨.no, 1, .opn, .v, [.G, .E]⟩) := ⟨r00_4, fun a w => by kernel_rfl⟩
theorem tb103 : RowOk 46 (.row ⟨.no, 12, (.k 0), .v, [.Seg 1]⟩) := ⟨r00_8, fun a w => by kernel_rfl⟩
theorem tb104 : RowOk 50 (.row ⟨.no, 13, (.k 0), .v, [.Seg 2]⟩) := ⟨r00_12, fun a w => by kernel_rfl⟩
theorem tb105 : RowOk 54 (.row ⟨.no, 7, (.k 2), (.k 1), []⟩) := ⟨r00_16, fun a w => by kernel_rfl⟩
theorem tb106 : RowOk 59 (.row ⟨.no, 12, (.k 0), .v, [.R]⟩) := ⟨r40_3, fun a w => by kernel_rfl⟩
theorem tb107 : RowOk 63 (.row ⟨.no, 12, (.k 0), .v, [.I]⟩) := ⟨r40_7, fun a w => by kernel_rfl⟩
theorem tb108 : RowOk 68 (.row ⟨.no, 28, .opc, .v, [.Jb]⟩) := ⟨r40_11, fun a w => by kernel_rfl⟩
theorem tb109 : RowOk 75 (.row ⟨.no, 1, (.k 8), (.k 1), [.E, .G]⟩) := ⟨r80_4, fun a w => by kernel_rfl⟩
theorem tb110 : RowOk 79 (.row ⟨.no, 8, (.k 0), (.k 1), [.E, .G]⟩) := ⟨r80_8, fun a w => by kernel_rfl⟩
theorem tb111 : RowOk 86 (.row ⟨(.only [0]), 13, (.k 0), .v, [.E]⟩) := ⟨r80_12, fun a w => by kernel_rfl⟩
theorem tb112 : RowOk 91 (.row ⟨.no, 16, (.k 0), .v, []⟩) := ⟨r80_16, fun a w => by kernel_rfl⟩
theorem tb113 : RowOk 95 (.row ⟨.no, 41, (.k 0), (.k 4), []⟩) := ⟨r80_20, fun a w => by kernel_rfl⟩
theorem tb114 : RowOk 100 (.row ⟨.no, 8, (.k 0), .v, [.O, .A]⟩) := ⟨rA0_4, fun a w => by kernel_rfl⟩
theorem tb115 : RowOk 105 (.str 1 .v) := ⟨rA0_8, fun a w => by kernel_rfl⟩
theorem tb116 : RowOk 109 (.str 2 .v) := ⟨rA0_12, fun a w => by kernel_rfl⟩
theorem tb117 : RowOk 113 (.str 4 .v) := ⟨rA0_16, fun a w => by kernel_rfl⟩
theorem tb118 : RowOk 118 (.row ⟨.no, 2, .mn, .v, [.E, .Ib]⟩) := ⟨rC0_2, fun a w => by kernel_rfl⟩
theorem tb119 : RowOk 124 (.row ⟨(.only [0]), 8, (.k 0), .v, [.E, .I]⟩) := ⟨rC0_6, fun a w => by kernel_rfl⟩
theorem tb120 : RowOk 128 (.row ⟨.no, 32, (.k 2), (.k 4), [.Num 4]⟩) := ⟨rC0_10, fun a w => by kernel_rfl⟩
theorem tb121 : RowOk 132 (.row ⟨.no, 2, .mn, (.k 1), [.E, .CL]⟩) := ⟨rC0_14, fun a w => by kernel_rfl⟩
theorem tb122 : RowOk 137 (.row ⟨.no, 31, (.k 0), .v, [.Jb]⟩) := ⟨rE0_1, fun a w => by kernel_rfl⟩
theorem tb123 : RowOk 141 (.row ⟨.no, 37, (.k 0), (.k 1), [.A, .Ib]⟩) := ⟨rE0_5, fun a w => by kernel_rfl⟩
theorem tb124 : RowOk 145 (.row ⟨.no, 29, (.k 0), .v, [.J]⟩) := ⟨rE0_9, fun a w => by kernel_rfl⟩
theorem tb125 : RowOk 151 (.row ⟨.no, 37, (.k 0), (.k 1), [.A, .DX]⟩) := ⟨rE0_13, fun a w => by kernel_rfl⟩
theorem tb126 : RowOk 156 (.row ⟨.no, 40, (.k 0), (.k 4), []⟩) := ⟨rE0_17, fun a w => by kernel_rfl⟩
theorem tb127 : RowOk 163 (.row ⟨.no, 39, (.k 5), (.k 4), []⟩) := ⟨rE0_23, fun a w => by kernel_rfl⟩
theorem tb128 : RowOk 167 (.row ⟨(.only [0, 1]), 1, .mp9, (.k 1), [.E]⟩) := ⟨rE0_27, fun a w => by kernel_rfl⟩
theorem tb129 : RowOk 175 (.row ⟨(.only [0, 2, 3]), 45, (.k 0), (.k 4), [.Cr, .Rm]⟩) := ⟨r0F_4, fun a w => by kernel_rfl⟩
theorem tb130 : RowOk 179 (.row ⟨.no, 12, (.k 0), .v, [.Seg 4]⟩) := ⟨r0F_8, fun a w => by kernel_rfl⟩
theorem tb131 : RowOk 183 (.row ⟨.no, 3, (.k 0), .v, [.E, .G, .CL]⟩) := ⟨r0F_12, fun a w => by kernel_rfl⟩
theorem tb132 : RowOk 187 (.row ⟨.no, 3, (.k 1), .v, [.E, .G, .Ib]⟩) := ⟨r0F_16, fun a w => by kernel_rfl⟩
theorem tb133 : RowOk 191 (.row ⟨.no, 9, (.k 0), .v, [.G, .Eb]⟩) := ⟨r0F_20, fun a w => by kernel_rfl⟩
theorem tb134 : RowOk 198 (.row ⟨.no, 24, (.k 1), .v, [.G, .E]⟩) := ⟨r0F_25, fun a w => by kernel_rfl⟩
theorem tb135 : RowOk 195 (.row ⟨(.only [4, 5, 6, 7]), 23, .mm4, .v, [.E, .Ib]⟩) := ⟨r0F_22, fun a w => by kernel_rfl⟩
theorem tb136 : RowOk 158 (.un (.k 1)) := ⟨rE0_19, fun a w => by kernel_rfl⟩
theorem tb137 : RowOk 160 (.un .v) := ⟨rE0_20, fun a w => by kernel_rfl⟩
theorem tb138 : RowOk 168 (.ff) := ⟨gFF_ok, fun a w => by kernel_rfl⟩
theorem tb139 : RowOk 170 (.sys) := ⟨gSys_ok, fun a w => by kernel_rfl⟩
theorem tb140 : RowOk 84 (.row ⟨.mem, 11, .k 0, .v, [.G, .E]⟩) := ⟨gLea_ok, fun a w => by kernel_rfl⟩
theorem tb141 : RowOk 85 (.to) := ⟨gTo_ok, fun a w => by kernel_rfl⟩
theorem tb142 : RowOk 83 (.frm) := ⟨gFrom_ok, fun a w => by kernel_rfl⟩
theorem tab_ok : ∀ e ∈ tab, RowOk e.1 e.2 := by
  unfold tab
  simp only [List.forall_mem_cons]
  exact ⟨tb0, tb1, tb2, tb3, tb4, tb5, tb6, tb7, tb8, tb9, tb10, tb11, tb12, tb13, tb14, tb15, tb16, tb17, tb18, tb19, tb20, tb21, tb22, tb23, tb24, tb25, tb26, tb27, tb28, tb29, tb30, tb31, tb32, tb33, tb34, tb35, tb36, tb37, tb38, tb39, tb40, tb41, tb42, tb43, tb44, tb45, tb46, tb47, tb48, tb49, tb50, tb51, tb52, tb53, tb54, tb55, tb56, tb57, tb58, tb59, tb60, tb61, tb62, tb63, tb64, tb65, tb66, tb67, tb68, tb69, tb70, tb71, tb72, tb73, tb74, tb75, tb76, tb77, tb78, tb79, tb80, tb81, tb82, tb83, tb84, tb85, tb86, tb87, tb88, tb89, tb90, tb91, tb92, tb93, tb94, tb95, tb96, tb97, tb98, tb99, tb100, tb101, tb102, tb103, tb104, tb105, tb106, tb107, tb108, tb109, tb110, tb111, tb112, tb113, tb114, tb115, tb116, tb117, tb118, tb119, tb120, tb121, tb122, tb123, tb124, tb125, tb126, tb127, tb128, tb129, tb130, tb131, tb132, tb133, tb134, tb135, tb136, tb137, tb138, tb139, tb140, tb141, tb142, fun _ h => by cases h⟩
theorem tabOk : TabOk ruleOf := by
  intro op h0 h1
  unfold ruleOf
  cases h : rowOf op with
  | none => exact Or.inl ⟨rfl, rfl⟩
  | some n =>
    have a := ruleOf_all ⟨op.toNat, by omega⟩
    simp only [Int.toNat_of_nonneg h0, h, Option.all_some] at a
    obtain ⟨r, hr⟩ := Option.isSome_iff_exists.1 a
    exact Or.inr ⟨n, r, rfl, hr, tab_ok _ (lookN_mem _ _ _ hr)⟩
end Go.Proofs.YtbfccfhjgopnbaaGreat
namespace Go.Proofs.YtbfccfhjgopnbaaGreat
open Go.ChangeShapes Go.WideShapes Go.ChangeAt Go.RowKit
set_option linter.unusedVariables false
theorem Kp.below {w w' : World} (h : Kp noB w w') : Below w.heap.size w w' := ⟨h.os, h.tape, h.output, h.size, fun k hk => h.block k hk id⟩
structure BytIn (w : World) (a : Option Addr) (L : Nat) (bt : Nat → Int) : Prop where
  at' : BytAt w a L bt
  bd : ∀ j, j < L → 0 ≤ bt j ∧ bt j < 256
  le : L ≤ 140737488351232
theorem bytesIn {H : Type} {enc : TypeId × Value → H} {w : World} {fuel : Nat} {a : Option Addr} {len cap : Nat} {d : DataW H} {p : List MemPlace} (h : DataW.trod enc Tryz.prog w 0 (fun _ => true) true fuel 22 (Value.slice a len cap).cells.toList = some (d, p))
    (hz : ∀ elems spare, d = .slice elems spare → (elems.length + spare.length) * Tryz.prog.bytesOf 5 ≤ reachBytes) : ∃ bt, BytIn w a len bt := by
  rcases open_ints Tryz.underlying22 Tryz.underlying5 (by kernel_rfl) h with ⟨hcs, _⟩ | ⟨y, l, c, zs, hcs, _, hl, hm, hzl, hx, hcell, hwz⟩
  · simp [Value.cells] at hcs
    obtain ⟨rfl, rfl, rfl⟩ := hcs
    exact ⟨fun _ => 0, fun j hj => absurd hj (by simp), fun j hj => absurd hj (by simp), by simp⟩
  · simp [Value.cells] at hcs
    obtain ⟨rfl, rfl, rfl⟩ := hcs
    have hz' : zs.length = cap := by simpa using hzl
    injection hx with hd hp
    have hs := hz _ _ hd
    have hb : Tryz.prog.bytesOf 5 = 1 := by kernel_rfl
    have hr : reachBytes = 140737488351232 := rfl
    have hlen : len ≤ 140737488351232 := by
      rw [hb] at hs
      have e : (lits (H := H) .u8 (List.take len zs)).length = len := by unfold lits; rw [List.length_map, List.length_take]; omega
      rw [e] at hs
      omega
    refine ⟨fun j => zs.getD j 0, fun j hj => ?_, fun j hj => ?_, hlen⟩
    · obtain ⟨b, off, rfl, hc⟩ := ints_at hcell (by omega)
      have := hc j (by omega)
      exact ⟨b, off, rfl, cell_lt this, this⟩
    · have hj' : j < zs.length := by omega
      have e : zs.getD j 0 ∈ zs := by rw [List.getD_eq_getElem?_getD, List.getElem?_eq_getElem hj']; exact List.getElem_mem hj'
      have := bounds_u8 (hwz _ e)
      omega
end Go.Proofs.YtbfccfhjgopnbaaGreat
