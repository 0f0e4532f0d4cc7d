/- The bus and its devices: DecShp3, DecRr, DecR5, DecTab. -/
import Derived.Test.YtiagfmkinefidaaGreatEx11
import Derived.Test.YtiagfmkinefidaaGreatEx16
import Derived.Test.YtiagfmkinefidaaGreatEx08
import Derived.Deep.RegionWith
import Derived.Test.YtiagfmkinefidaaGreatEx10
namespace Go.Proofs.YtiagfmkinefidaaGreat.Dc
open Go.ChangeShapes Go.WideShapes Go.ChangeAt Go.RowKit
set_option linter.unusedVariables false
set_option maxRecDepth 100000
set_option maxHeartbeats 4000000 in
theorem shp2 {k : Nat} {fn : Func} (q : String) (cv a b : Int) (hf : Tryz.prog.funcs[k]? = some fn) (h3 : fn.ntmps = 10 ∧ fn.results = #[] ∧ fn.body = some (Code.region 0 #[oG (some 2) (.move (.tmp 0)) 199 q #[], oG (some 3) (.move (.tmp 0)) 199 q #[], oG (some 4) (.nilCheck (.tmp 3)) 0 q #[gD 1], oG (some 5) (.fieldAddr 203 (.tmp 4) 3) 0 q #[gD 2], oG (some 6) (.load 3 (.tmp 5)) 3 q #[gD 3], oG (some 7) (.call { callee := .value (.func 243), args := #[.const (.int .i64 cv)], argTypes := #[3] }) 291 q #[], oG (some 8) (.buildSlice 331 1 #[(0, .tmp 7)]) 331 q #[gD 5], oG (some 9) (.call { callee := .value (.func 231), args := #[.tmp 2, .const (.int .i64 a), .const (.int .i64 b), .tmp 6, .tmp 8], argTypes := #[199, 3, 3, 3, 331] }) 0 q #[gD 0, gD 4, gD 6, gC 5]] true)) : RuleOk k (fun X σ => isM X a b σ.v [pSeg cv] σ) := by
  intro w X σ h
  have f3 := h.f3
  have hF := h.ltF
  have hfre := h.fresh
  have Hst : Hid (St X w σ) := h
  have Hfre : Hid (¬ X.own w.heap.size) := hfre
  clear h hfre
  have HP : Hid (∀ (W : World) (q : Nat), ¬ X.own q → W.cell? ⟨q, 0, none⟩ = some (.int .i64 cv) → ∀ p ∈ ([⟨456, #[.pointer (some ⟨q, 0, none⟩)], pSeg cv⟩] : List Prt), PartOk X W p.n p.cap p.f σ.v) := by
    intro W q hq hc p hp
    simp at hp
    subst hp
    exact seg_ok hq hc
  obtain ⟨hn, hr, hb⟩ := h3
  refine calls_of_wp hf hb ?_
  simp only [hn, oG, gD, gC, List.size_toArray, List.length_cons, List.length_nil, Nat.reduceAdd, Nat.reduceSub, Array.replicate_succ, Array.replicate_zero, List.push_toArray, List.append_toArray, List.nil_append, List.cons_append]
  have Hd0 : Hid (St X w.drew σ) := Hst.out.drewN 1
  have Kd0 : Hid (Kp X.own w w.drew) := (Kp.refl _ _).drewN 1
  have Hd2 : Hid (St X ((w.alloc (.cells #[.int .i64 cv] 3)).alloc (.cells #[.func (.func 456) #[] #[.pointer (some ⟨w.heap.size, 0, none⟩)]] 291)).drew σ) := ((Hst.out.alloc _).alloc _).drewN 1
  have Kd2 : Hid (Kp X.own w ((w.alloc (.cells #[.int .i64 cv] 3)).alloc (.cells #[.func (.func 456) #[] #[.pointer (some ⟨w.heap.size, 0, none⟩)]] 291)).drew) := ((Kp.alloc X.own w _).trans (Kp.alloc X.own _ _)).drewN 1
  have Hh2 : Hid (((w.alloc (.cells #[.int .i64 cv] 3)).alloc (.cells #[.func (.func 456) #[] #[.pointer (some ⟨w.heap.size, 0, none⟩)]] 291)).drew.heap[w.heap.size + 1]? = some (.cells #[.func (.func 456) #[] #[.pointer (some ⟨w.heap.size, 0, none⟩)]] 291)) := heap2 w _ _
  have Hc2 : Hid (((w.alloc (.cells #[.int .i64 cv] 3)).alloc (.cells #[.func (.func 456) #[] #[.pointer (some ⟨w.heap.size, 0, none⟩)]] 291)).drew.cell? ⟨w.heap.size, 0, none⟩ = some (.int .i64 cv)) := cell_kept (cell_new w (.int .i64 cv) 3) ((Kp.alloc X.own _ _).drewN 1) Hfre.out
  have Hf2 : Hid (¬ X.own (w.heap.size + 1)) := Hst.out.fresh1
  have KV : Hid ((isM X a b σ.v [pSeg cv] σ).v = σ.v) := (isM_v X _ _ _ _ _ ((kC (vSeg cv) kN))).trans rfl
  have S0 : Hid (w.drew.cell? ⟨X.F, 3, none⟩ = some (.int .i64 σ.v)) := Hd0.out.f3
  have S1 : Hid (∀ o : Obj, (w.drew.alloc o).cell? ⟨X.F, 3, none⟩ = some (.int .i64 σ.v)) := fun o => (Hd0.out.alloc o).f3
  have S2 : Hid (∀ o o2 : Obj, ((w.drew.alloc o).alloc o2).cell? ⟨X.F, 3, none⟩ = some (.int .i64 σ.v)) := fun o o2 => ((Hd0.out.alloc o).alloc o2).f3
  go_region_held3 (fun W => W.cell? ⟨X.F, 3, none⟩ = some (.int .i64 σ.v))
    (first | exact S0.out | exact S1.out _ | exact S2.out _ _ | assumption)
    (first
    | (go_at_call 243; refine (segment_ok _ _).mono ?_; rintro e w3 ⟨rfl, hw⟩; subst hw)
    | (go_at_call 231; have cI := is_gen ((w.alloc (.cells #[.int .i64 cv] 3)).alloc (.cells #[.func (.func 456) #[] #[.pointer (some ⟨w.heap.size, 0, none⟩)]] 291)).drew X σ Hd2.out a b σ.v (w.heap.size + 1) [⟨456, #[.pointer (some ⟨w.heap.size, 0, none⟩)], pSeg cv⟩] (by simp) Hf2.out Hh2.out (HP.out _ _ Hfre.out Hc2.out); refine cI.mono ?_; rintro e w2 ⟨rfl, hd⟩; have s9 : w2.cell? ⟨X.F, 3, none⟩ = some (.int .i64 σ.v) := (by rw [← KV.out]; exact hd.1.f3); have hk := Kd2.out.trans hd.2))
  all_goals
    have hs9 := hd.1
    clear hd
    go_wp2
    refine bodyPost_end (results_none hr _ _ _) rfl ?_
    exact ⟨rfl, hs9, hk⟩
set_option maxHeartbeats 4000000 in
theorem shp5 {k : Nat} {fn : Func} (q : String) (a b : Int) (hf : Tryz.prog.funcs[k]? = some fn) (h3 : fn.ntmps = 8 ∧ fn.results = #[] ∧ fn.body = some (Code.region 0 #[oG (some 2) (.move (.tmp 0)) 199 q #[], oG (some 3) (.move (.tmp 0)) 199 q #[], oG (some 4) (.nilCheck (.tmp 3)) 0 q #[gD 1], oG (some 5) (.fieldAddr 203 (.tmp 4) 3) 0 q #[gD 2], oG (some 6) (.load 3 (.tmp 5)) 3 q #[gD 3], oG (some 7) (.call { callee := .value (.func 231), args := #[.tmp 2, .const (.int .i64 a), .const (.int .i64 b), .tmp 6, .const (.slice none 0 0)], argTypes := #[199, 3, 3, 3, 331] }) 0 q #[gD 0, gD 4]] false)) : RuleOk k (fun X σ => isM X a b σ.v [] σ) := by
  intro w X σ h
  have f3 := h.f3
  have hF := h.ltF
  have hfre := h.fresh
  have Hst : Hid (St X w σ) := h
  have Hfre : Hid (¬ X.own w.heap.size) := hfre
  clear h hfre
  obtain ⟨hn, hr, hb⟩ := h3
  refine calls_of_wp hf hb ?_
  simp only [hn, oG, gD, List.size_toArray, List.length_cons, List.length_nil, Nat.reduceAdd, Nat.reduceSub, Array.replicate_succ, Array.replicate_zero, List.push_toArray, List.append_toArray, List.nil_append, List.cons_append]
  go_wp2_with fail
  refine (is_nil _ X σ Hst.out a b σ.v).mono ?_; rintro e w2 ⟨rfl, hd⟩
  have hk := hd.2
  have hs9 := hd.1
  clear hd
  go_wp2
  refine bodyPost_end (results_none hr _ _ _) rfl ?_
  exact ⟨rfl, hs9, hk⟩
set_option maxHeartbeats 4000000 in
theorem shp8 {k : Nat} {fn : Func} (q : String) (a s : Int) {F1 F2 : Nat} {p1 p2 : Cx → Int → Sg → Opd × Sg} (hf : Tryz.prog.funcs[k]? = some fn) (h3 : fn.ntmps = 8 ∧ fn.results = #[] ∧ fn.body = some (Code.region 0 #[oG (some 2) (.move (.tmp 0)) 199 q #[], oG (some 3) (.move (.tmp 0)) 199 q #[], oG (some 4) (.call { callee := .value (.func 270), args := #[.tmp 3], argTypes := #[199] }) 294 q #[gD 1], oG (some 5) (.field 294 (.tmp 4) 1) 3 q #[gD 2], oG (some 6) (.buildSlice 331 2 #[(0, .func F1), (1, .func F2)]) 331 q #[], oG (some 7) (.call { callee := .value (.func 231), args := #[.tmp 2, .const (.int .i64 a), .tmp 5, .const (.int .i64 s), .tmp 6], argTypes := #[199, 3, 3, 3, 331] }) 0 q #[gD 0, gD 3, gD 4, gC 2]] false)) (hsz : s = 1 ∨ s = 2 ∨ s = 4) (o1 : ∀ {X : Cx} {w0 : World} {z : Int}, (z = 1 ∨ z = 2 ∨ z = 4) → PartOk X w0 F1 #[] p1 z) (o2 : ∀ {X : Cx} {w0 : World} {z : Int}, (z = 1 ∨ z = 2 ∨ z = 4) → PartOk X w0 F2 #[] p2 z) : RuleOk k (fun X σ => isM X a (modrm X σ).1.2.1 s [p1, p2] (modrm X σ).2) := by
  intro w X σ h
  have f3 := h.f3
  have hF := h.ltF
  have hfre := h.fresh
  have cM := fun W (hW : St X W σ) => modrm_ok W X σ hW
  have hv1 := modrm_v X σ
  have hbd := modrm_bd h
  obtain ⟨⟨m, n, r⟩, hm⟩ : ∃ x, x = (modrm X σ).1 := ⟨_, rfl⟩
  obtain ⟨σ1, hσ1⟩ : ∃ σ1, σ1 = (modrm X σ).2 := ⟨_, rfl⟩
  obtain ⟨V, hV⟩ : ∃ V, V = isM X a n s [p1, p2] σ1 := ⟨_, rfl⟩
  show Calls _ _ _ _ fun e w' => _ ∧ Done X w (isM X a (modrm X σ).1.2.1 s [p1, p2] (modrm X σ).2) w'
  rw [show isM X a (modrm X σ).1.2.1 s [p1, p2] (modrm X σ).2 = V by rw [hV, hσ1, ← hm]]
  simp only [← hm, ← hσ1, mrV] at cM hv1 hbd
  obtain ⟨_, ⟨n0, n1⟩, _⟩ := hbd
  have fl1 := fld1
  have HV : Hid (V = isM X a n s [p1, p2] σ1) := hV
  have Hv1 : Hid (σ1.v = σ.v) := hv1
  have HM : Hid _ := cM
  clear hm hσ1 hV hv1 cM
  have Hst : Hid (St X w σ) := h
  have Hfre : Hid (¬ X.own w.heap.size) := hfre
  clear h hfre
  have HP : Hid (∀ W : World, ∀ p ∈ ([⟨F1, #[], p1⟩, ⟨F2, #[], p2⟩] : List Prt), PartOk X W p.n p.cap p.f s) := by
    intro W p hp
    simp at hp
    rcases hp with rfl | rfl
    · exact o1 hsz
    · exact o2 hsz
  obtain ⟨hn, hr, hb⟩ := h3
  refine calls_of_wp hf hb ?_
  simp only [hn, oG, gD, gC, List.size_toArray, List.length_cons, List.length_nil, Nat.reduceAdd, Nat.reduceSub, Array.replicate_succ, Array.replicate_zero, List.push_toArray, List.append_toArray, List.nil_append, List.cons_append]
  go_wp2_with fail
  refine (HM.out _ Hst.out).mono ?_; rintro e w1 ⟨rfl, h1, k1⟩
  go_wp2_with fail
  have cI := is_gen (w1.alloc (.cells #[.func (.func F1) #[] #[], .func (.func F2) #[] #[]] 291)) X σ1 (h1.alloc _) a n s w1.heap.size [⟨F1, #[], p1⟩, ⟨F2, #[], p2⟩] (by simp) (h1.fresh) (MapKept.heap_alloc w1 (.cells #[.func (.func F1) #[] #[], .func (.func F2) #[] #[]] 291)).1 (HP.out _)
  refine cI.mono ?_; rintro e w2 ⟨rfl, hd⟩
  have hk := ((k1).trans (Kp.alloc X.own _ _)).trans hd.2
  have hs9 := hd.1
  clear hd
  go_wp2
  refine bodyPost_end (results_none hr _ _ _) rfl ?_
  rw [HV.out]
  exact ⟨rfl, hs9, hk⟩
set_option maxHeartbeats 4000000 in
theorem shp11 {k : Nat} {fn : Func} (q : String) (a b : Int) {F1 F2 : Nat} {p1 p2 : Cx → Int → Sg → Opd × Sg} (hf : Tryz.prog.funcs[k]? = some fn) (h3 : fn.ntmps = 9 ∧ fn.results = #[] ∧ fn.body = some (Code.region 0 #[oG (some 2) (.move (.tmp 0)) 199 q #[], oG (some 3) (.move (.tmp 0)) 199 q #[], oG (some 4) (.nilCheck (.tmp 3)) 0 q #[gD 1], oG (some 5) (.fieldAddr 203 (.tmp 4) 3) 0 q #[gD 2], oG (some 6) (.load 3 (.tmp 5)) 3 q #[gD 3], oG (some 7) (.buildSlice 331 2 #[(0, .func F1), (1, .func F2)]) 331 q #[], oG (some 8) (.call { callee := .value (.func 231), args := #[.tmp 2, .const (.int .i64 a), .const (.int .i64 b), .tmp 6, .tmp 7], argTypes := #[199, 3, 3, 3, 331] }) 0 q #[gD 0, gD 4, gD 5]] false)) (o1 : ∀ {X : Cx} {w0 : World} {z : Int}, (z = 1 ∨ z = 2 ∨ z = 4) → PartOk X w0 F1 #[] p1 z) (o2 : ∀ {X : Cx} {w0 : World} {z : Int}, (z = 1 ∨ z = 2 ∨ z = 4) → PartOk X w0 F2 #[] p2 z) : RuleOk k (fun X σ => isM X a b σ.v [p1, p2] σ) := by
  intro w X σ h
  have f3 := h.f3
  have hF := h.ltF
  have hfre := h.fresh
  have Hst : Hid (St X w σ) := h
  have Hfre : Hid (¬ X.own w.heap.size) := hfre
  clear h hfre
  have HP : Hid (∀ W : World, ∀ p ∈ ([⟨F1, #[], p1⟩, ⟨F2, #[], p2⟩] : List Prt), PartOk X W p.n p.cap p.f σ.v) := by
    intro W p hp
    simp at hp
    rcases hp with rfl | rfl
    · exact o1 Hst.out.vs
    · exact o2 Hst.out.vs
  obtain ⟨hn, hr, hb⟩ := h3
  refine calls_of_wp hf hb ?_
  simp only [hn, oG, gD, List.size_toArray, List.length_cons, List.length_nil, Nat.reduceAdd, Nat.reduceSub, Array.replicate_succ, Array.replicate_zero, List.push_toArray, List.append_toArray, List.nil_append, List.cons_append]
  go_wp2_with fail
  have cI := is_gen (w.alloc (.cells #[.func (.func F1) #[] #[], .func (.func F2) #[] #[]] 291)) X σ (Hst.out.alloc _) a b σ.v w.heap.size [⟨F1, #[], p1⟩, ⟨F2, #[], p2⟩] (by simp) (Hst.out.fresh) (MapKept.heap_alloc w (.cells #[.func (.func F1) #[] #[], .func (.func F2) #[] #[]] 291)).1 (HP.out _)
  refine cI.mono ?_; rintro e w2 ⟨rfl, hd⟩
  have hk := ((Kp.alloc X.own _ _)).trans hd.2
  have hs9 := hd.1
  clear hd
  go_wp2
  refine bodyPost_end (results_none hr _ _ _) rfl ?_
  exact ⟨rfl, hs9, hk⟩
theorem shp14 {k : Nat} {fn : Func} (q : String) (a : Int) (hf : Tryz.prog.funcs[k]? = some fn) (h3 : fn.ntmps = 8 ∧ fn.results = #[] ∧ fn.body = some (Code.region 0 #[oG (some 2) (.move (.tmp 0)) 199 q #[], oG (some 3) (.move (.tmp 0)) 199 q #[], oG (some 4) (.nilCheck (.tmp 3)) 0 q #[gD 1], oG (some 5) (.fieldAddr 203 (.tmp 4) 3) 0 q #[gD 2], oG (some 6) (.load 3 (.tmp 5)) 3 q #[gD 3], oG (some 7) (.call { callee := .value (.func 300), args := #[.tmp 2, .const (.int .i64 a), .tmp 6], argTypes := #[199, 3, 3] }) 0 q #[gD 0, gD 4]] false)) : RuleOk k (fun X σ => isStr X a σ.v σ) := by
  intro w X σ h
  have f3 := h.f3
  have c := isString_ok w X σ h a σ.v (h.vs)
  clear h
  obtain ⟨hn, hr, hb⟩ := h3
  refine calls_of_wp hf hb ?_
  simp only [hn, oG, gD, List.size_toArray, List.length_cons, List.length_nil, Nat.reduceAdd, Nat.reduceSub, Array.replicate_succ, Array.replicate_zero, List.push_toArray, List.append_toArray, List.nil_append, List.cons_append]
  go_wp2_with fail
  refine c.mono ?_; rintro e w1 ⟨rfl, hd⟩
  go_wp2
  refine bodyPost_end (results_none hr _ _ _) rfl ?_
  exact ⟨rfl, hd⟩
set_option maxHeartbeats 4000000 in
theorem shp17 {k : Nat} {fn : Func} (q : String) (l0 a b : Int) {F1 F2 : Nat} {p1 p2 : Cx → Int → Sg → Opd × Sg} (hf : Tryz.prog.funcs[k]? = some fn) (h3 : fn.ntmps = 12 ∧ fn.results = #[] ∧ fn.body = some ((Code.region 0 #[oG (some 2) (.move (.tmp 0)) 199 q #[], oG (some 3) (.buildSlice 141 1 #[(0, .const (.int .i64 l0))]) 141 q #[], oG (some 4) (.call { callee := .value (.func 285), args := #[.tmp 2, .tmp 3], argTypes := #[199, 141] }) 0 q #[gD 0, gD 1]] false).seq (Code.region 1 #[oG (some 5) (.move (.tmp 0)) 199 q #[], oG (some 6) (.move (.tmp 0)) 199 q #[], oG (some 7) (.nilCheck (.tmp 6)) 0 q #[gD 1], oG (some 8) (.fieldAddr 203 (.tmp 7) 3) 0 q #[gD 2], oG (some 9) (.load 3 (.tmp 8)) 3 q #[gD 3], oG (some 10) (.buildSlice 331 2 #[(0, .func F1), (1, .func F2)]) 331 q #[], oG (some 11) (.call { callee := .value (.func 231), args := #[.tmp 5, .const (.int .i64 a), .const (.int .i64 b), .tmp 9, .tmp 10], argTypes := #[199, 3, 3, 3, 331] }) 0 q #[gD 0, gD 4, gD 5]] false))) (o1 : ∀ {X : Cx} {w0 : World} {z : Int}, (z = 1 ∨ z = 2 ∨ z = 4) → PartOk X w0 F1 #[] p1 z) (o2 : ∀ {X : Cx} {w0 : World} {z : Int}, (z = 1 ∨ z = 2 ∨ z = 4) → PartOk X w0 F2 #[] p2 z) : RuleOk k (fun X σ => isM X a b (onlyM X [l0] σ).v [p1, p2] (onlyM X [l0] σ)) := by
  intro w X σ h
  have hfre := h.fresh
  have h0 : St X (w.alloc (.cells #[.int .i64 l0] 3)) σ := h.alloc _
  have hn0 := (MapKept.heap_alloc w (.cells #[.int .i64 l0] 3)).1
  have cO := only_ok _ X σ h0 w.heap.size 1 [l0] rfl (by simp) hfre (fun j hj => by
    rcases (by omega : j = 0) with rfl <;> (unfold World.cell?; rw [hn0]; rfl))
  obtain ⟨σa, hσa⟩ : ∃ σa, σa = onlyM X [l0] σ := ⟨_, rfl⟩
  show Calls _ _ _ _ fun e w' => _ ∧ Done X w (isM X a b (onlyM X [l0] σ).v [p1, p2] (onlyM X [l0] σ)) w'
  rw [← hσa] at cO ⊢
  clear hσa h h0 hn0
  obtain ⟨hn, hr, hb⟩ := h3
  refine calls_of_wp hf hb ?_
  simp only [hn, oG, gD, List.size_toArray, List.length_cons, List.length_nil, Nat.reduceAdd, Nat.reduceSub, Array.replicate_succ, Array.replicate_zero, List.push_toArray, List.append_toArray, List.nil_append, List.cons_append]
  go_wp2_with fail
  refine cO.mono ?_; rintro e wa ⟨rfl, h, ka⟩
  replace ka := (Kp.alloc X.own w _).trans ka
  clear cO hfre
  have f3 := h.f3
  have hF := h.ltF
  have hfre := h.fresh
  have Hst : Hid (St X wa σa) := h
  have Hfre : Hid (¬ X.own wa.heap.size) := hfre
  clear h hfre
  have HP : Hid (∀ W : World, ∀ p ∈ ([⟨F1, #[], p1⟩, ⟨F2, #[], p2⟩] : List Prt), PartOk X W p.n p.cap p.f σa.v) := by
    intro W p hp
    simp at hp
    rcases hp with rfl | rfl
    · exact o1 Hst.out.vs
    · exact o2 Hst.out.vs
  go_wp2_with fail
  have cI := is_gen (wa.alloc (.cells #[.func (.func F1) #[] #[], .func (.func F2) #[] #[]] 291)) X σa (Hst.out.alloc _) a b σa.v wa.heap.size [⟨F1, #[], p1⟩, ⟨F2, #[], p2⟩] (by simp) (Hst.out.fresh) (MapKept.heap_alloc wa (.cells #[.func (.func F1) #[] #[], .func (.func F2) #[] #[]] 291)).1 (HP.out _)
  refine cI.mono ?_; rintro e w2 ⟨rfl, hd⟩
  have hk := ((ka).trans (Kp.alloc X.own _ _)).trans hd.2
  have hs9 := hd.1
  clear hd
  go_wp2
  refine bodyPost_end (results_none hr _ _ _) rfl ?_
  exact ⟨rfl, hs9, hk⟩
set_option maxHeartbeats 4000000 in
theorem shp20 {k : Nat} {fn : Func} (q : String) (cv a s : Int) {F1 : Nat} {p1 : Cx → Int → Sg → Opd × Sg} (hf : Tryz.prog.funcs[k]? = some fn) (h3 : fn.ntmps = 9 ∧ fn.results = #[] ∧ fn.body = some (Code.region 0 #[oG (some 2) (.move (.tmp 0)) 199 q #[], oG (some 3) (.move (.tmp 0)) 199 q #[], oG (some 4) (.call { callee := .value (.func 270), args := #[.tmp 3], argTypes := #[199] }) 294 q #[gD 1], oG (some 5) (.field 294 (.tmp 4) 1) 3 q #[gD 2], oG (some 6) (.call { callee := .value (.func 320), args := #[.const (.int .u32 cv)], argTypes := #[23] }) 291 q #[gC 2], oG (some 7) (.buildSlice 331 2 #[(0, .func F1), (1, .tmp 6)]) 331 q #[gD 4], oG (some 8) (.call { callee := .value (.func 231), args := #[.tmp 2, .const (.int .i64 a), .tmp 5, .const (.int .i64 s), .tmp 7], argTypes := #[199, 3, 3, 3, 331] }) 0 q #[gD 0, gD 3, gD 5, gC 4]] false)) (hsz : s = 1 ∨ s = 2 ∨ s = 4) (o1 : ∀ {X : Cx} {w0 : World} {z : Int}, (z = 1 ∨ z = 2 ∨ z = 4) → PartOk X w0 F1 #[] p1 z) : RuleOk k (fun X σ => isM X a (modrm X σ).1.2.1 s [p1, pNum cv] (modrm X σ).2) := by
  intro w X σ h
  have f3 := h.f3
  have hF := h.ltF
  have hfre := h.fresh
  have cM := fun W (hW : St X W σ) => modrm_ok W X σ hW
  have hv1 := modrm_v X σ
  have hbd := modrm_bd h
  obtain ⟨⟨m, n, r⟩, hm⟩ : ∃ x, x = (modrm X σ).1 := ⟨_, rfl⟩
  obtain ⟨σ1, hσ1⟩ : ∃ σ1, σ1 = (modrm X σ).2 := ⟨_, rfl⟩
  obtain ⟨V, hV⟩ : ∃ V, V = isM X a n s [p1, pNum cv] σ1 := ⟨_, rfl⟩
  show Calls _ _ _ _ fun e w' => _ ∧ Done X w (isM X a (modrm X σ).1.2.1 s [p1, pNum cv] (modrm X σ).2) w'
  rw [show isM X a (modrm X σ).1.2.1 s [p1, pNum cv] (modrm X σ).2 = V by rw [hV, hσ1, ← hm]]
  simp only [← hm, ← hσ1, mrV] at cM hv1 hbd
  obtain ⟨_, ⟨n0, n1⟩, _⟩ := hbd
  have fl1 := fld1
  have HV : Hid (V = isM X a n s [p1, pNum cv] σ1) := hV
  have Hv1 : Hid (σ1.v = σ.v) := hv1
  have HM : Hid _ := cM
  clear hm hσ1 hV hv1 cM
  have Hst : Hid (St X w σ) := h
  have Hfre : Hid (¬ X.own w.heap.size) := hfre
  clear h hfre
  have HP : Hid (∀ (W : World) (q : Nat), ¬ X.own q → W.cell? ⟨q, 0, none⟩ = some (.int .u32 cv) → ∀ p ∈ ([⟨F1, #[], p1⟩, ⟨462, #[.pointer (some ⟨q, 0, none⟩)], pNum cv⟩] : List Prt), PartOk X W p.n p.cap p.f s) := by
    intro W q hq hc p hp
    simp at hp
    rcases hp with rfl | rfl
    · exact o1 hsz
    · exact num_ok hq hc
  obtain ⟨hn, hr, hb⟩ := h3
  refine calls_of_wp hf hb ?_
  simp only [hn, oG, gD, gC, List.size_toArray, List.length_cons, List.length_nil, Nat.reduceAdd, Nat.reduceSub, Array.replicate_succ, Array.replicate_zero, List.push_toArray, List.append_toArray, List.nil_append, List.cons_append]
  go_wp2_with fail
  refine (HM.out _ Hst.out).mono ?_; rintro e w1 ⟨rfl, h1, k1⟩
  go_wp2_with fail
  refine (constant_ok _ _).mono ?_; rintro e w3 ⟨rfl, hw⟩; subst hw
  have hcap : w1.alloc (.cells #[.int .u32 cv] 23) = w1.alloc (.cells #[.int .u32 cv] 23) := rfl
  have g1 : St X (w1.alloc (.cells #[.int .u32 cv] 23)) σ1 := h1.alloc _
  have gc := cell_new w1 (.int .u32 cv) 23
  go_wp2_with fail
  have cI := is_gen ((w1.alloc (.cells #[.int .u32 cv] 23)).alloc (.cells #[.func (.func F1) #[] #[], .func (.func 462) #[] #[.pointer (some ⟨w1.heap.size, 0, none⟩)]] 291)) X σ1 (g1.alloc _) a n s (w1.heap.size + 1) [⟨F1, #[], p1⟩, ⟨462, #[.pointer (some ⟨w1.heap.size, 0, none⟩)], pNum cv⟩] (by simp) h1.fresh1 (heap2 w1 (.cells #[.int .u32 cv] 23) (.cells #[.func (.func F1) #[] #[], .func (.func 462) #[] #[.pointer (some ⟨w1.heap.size, 0, none⟩)]] 291)) (HP.out _ _ (h1.fresh) (cell_kept gc (Kp.alloc X.own _ _) (h1.fresh)))
  refine cI.mono ?_; rintro e w2 ⟨rfl, hd⟩
  have hk := (((k1).trans (Kp.alloc X.own _ _)).trans (Kp.alloc X.own _ _)).trans hd.2
  have hs9 := hd.1
  clear hd
  go_wp2
  refine bodyPost_end (results_none hr _ _ _) rfl ?_
  rw [HV.out]
  exact ⟨rfl, hs9, hk⟩
set_option maxHeartbeats 4000000 in
theorem shp23 {k : Nat} {fn : Func} (q : String) (l0 a b s : Int) {F1 : Nat} {p1 : Cx → Int → Sg → Opd × Sg} (hf : Tryz.prog.funcs[k]? = some fn) (h3 : fn.ntmps = 8 ∧ fn.results = #[] ∧ fn.body = some ((Code.region 0 #[oG (some 2) (.move (.tmp 0)) 199 q #[], oG (some 3) (.buildSlice 141 1 #[(0, .const (.int .i64 l0))]) 141 q #[], oG (some 4) (.call { callee := .value (.func 285), args := #[.tmp 2, .tmp 3], argTypes := #[199, 141] }) 0 q #[gD 0, gD 1]] false).seq (Code.region 1 #[oG (some 5) (.move (.tmp 0)) 199 q #[], oG (some 6) (.buildSlice 331 1 #[(0, .func F1)]) 331 q #[], oG (some 7) (.call { callee := .value (.func 231), args := #[.tmp 5, .const (.int .i64 a), .const (.int .i64 b), .const (.int .i64 s), .tmp 6], argTypes := #[199, 3, 3, 3, 331] }) 0 q #[gD 0, gD 1]] false))) (hsz : s = 1 ∨ s = 2 ∨ s = 4) (o1 : ∀ {X : Cx} {w0 : World} {z : Int}, (z = 1 ∨ z = 2 ∨ z = 4) → PartOk X w0 F1 #[] p1 z) : RuleOk k (fun X σ => isM X a b s [p1] (onlyM X [l0] σ)) := by
  intro w X σ h
  have hfre := h.fresh
  have h0 : St X (w.alloc (.cells #[.int .i64 l0] 3)) σ := h.alloc _
  have hn0 := (MapKept.heap_alloc w (.cells #[.int .i64 l0] 3)).1
  have cO := only_ok _ X σ h0 w.heap.size 1 [l0] rfl (by simp) hfre (fun j hj => by
    rcases (by omega : j = 0) with rfl <;> (unfold World.cell?; rw [hn0]; rfl))
  obtain ⟨σa, hσa⟩ : ∃ σa, σa = onlyM X [l0] σ := ⟨_, rfl⟩
  show Calls _ _ _ _ fun e w' => _ ∧ Done X w (isM X a b s [p1] (onlyM X [l0] σ)) w'
  rw [← hσa] at cO ⊢
  clear hσa h h0 hn0
  obtain ⟨hn, hr, hb⟩ := h3
  refine calls_of_wp hf hb ?_
  simp only [hn, oG, gD, List.size_toArray, List.length_cons, List.length_nil, Nat.reduceAdd, Nat.reduceSub, Array.replicate_succ, Array.replicate_zero, List.push_toArray, List.append_toArray, List.nil_append, List.cons_append]
  go_wp2_with fail
  refine cO.mono ?_; rintro e wa ⟨rfl, h, ka⟩
  replace ka := (Kp.alloc X.own w _).trans ka
  clear cO hfre
  have f3 := h.f3
  have hF := h.ltF
  have hfre := h.fresh
  have Hst : Hid (St X wa σa) := h
  have Hfre : Hid (¬ X.own wa.heap.size) := hfre
  clear h hfre
  have HP : Hid (∀ W : World, ∀ p ∈ ([⟨F1, #[], p1⟩] : List Prt), PartOk X W p.n p.cap p.f s) := by
    intro W p hp
    simp at hp
    subst hp
    exact o1 hsz
  go_wp2_with fail
  have cI := is_gen (wa.alloc (.cells #[.func (.func F1) #[] #[]] 291)) X σa (Hst.out.alloc _) a b s wa.heap.size [⟨F1, #[], p1⟩] (by simp) (Hst.out.fresh) (MapKept.heap_alloc wa (.cells #[.func (.func F1) #[] #[]] 291)).1 (HP.out _)
  refine cI.mono ?_; rintro e w2 ⟨rfl, hd⟩
  have hk := ((ka).trans (Kp.alloc X.own _ _)).trans hd.2
  have hs9 := hd.1
  clear hd
  go_wp2
  refine bodyPost_end (results_none hr _ _ _) rfl ?_
  exact ⟨rfl, hs9, hk⟩
set_option maxHeartbeats 4000000 in
theorem shp26 {k : Nat} {fn : Func} (q : String) (a s : Int) {F1 : Nat} {p1 : Cx → Int → Sg → Opd × Sg} (hf : Tryz.prog.funcs[k]? = some fn) (h3 : fn.ntmps = 7 ∧ fn.results = #[] ∧ fn.body = some (Code.region 0 #[oG (some 2) (.move (.tmp 0)) 199 q #[], oG (some 3) (.move (.tmp 0)) 199 q #[], oG (some 4) (.call { callee := .value (.func 267), args := #[.tmp 3], argTypes := #[199] }) 3 q #[gD 1], oG (some 5) (.buildSlice 331 1 #[(0, .func F1)]) 331 q #[], oG (some 6) (.call { callee := .value (.func 231), args := #[.tmp 2, .const (.int .i64 a), .tmp 4, .const (.int .i64 s), .tmp 5], argTypes := #[199, 3, 3, 3, 331] }) 0 q #[gD 0, gD 2, gD 3, gC 2]] false)) (hsz : s = 1 ∨ s = 2 ∨ s = 4) (o1 : ∀ {X : Cx} {w0 : World} {z : Int}, (z = 1 ∨ z = 2 ∨ z = 4) → PartOk X w0 F1 #[] p1 z) : RuleOk k (fun X σ => isM X a (σ.op % 16) s [p1] σ) := by
  intro w X σ h
  have f3 := h.f3
  have hF := h.ltF
  have hfre := h.fresh
  have Hst : Hid (St X w σ) := h
  have Hfre : Hid (¬ X.own w.heap.size) := hfre
  clear h hfre
  have HP : Hid (∀ W : World, ∀ p ∈ ([⟨F1, #[], p1⟩] : List Prt), PartOk X W p.n p.cap p.f s) := by
    intro W p hp
    simp at hp
    subst hp
    exact o1 hsz
  obtain ⟨hn, hr, hb⟩ := h3
  refine calls_of_wp hf hb ?_
  simp only [hn, oG, gD, gC, List.size_toArray, List.length_cons, List.length_nil, Nat.reduceAdd, Nat.reduceSub, Array.replicate_succ, Array.replicate_zero, List.push_toArray, List.append_toArray, List.nil_append, List.cons_append]
  go_wp2_with fail
  refine (c_ok _ X σ Hst.out).mono ?_; rintro e w0 ⟨rfl, hw⟩; replace hw := hw.symm; subst hw
  go_wp2_with fail
  have cI := is_gen (w.alloc (.cells #[.func (.func F1) #[] #[]] 291)) X σ (Hst.out.alloc _) a (σ.op % 16) s w.heap.size [⟨F1, #[], p1⟩] (by simp) (Hst.out.fresh) (MapKept.heap_alloc w (.cells #[.func (.func F1) #[] #[]] 291)).1 (HP.out _)
  refine cI.mono ?_; rintro e w2 ⟨rfl, hd⟩
  have hk := ((Kp.alloc X.own _ _)).trans hd.2
  have hs9 := hd.1
  clear hd
  go_wp2
  refine bodyPost_end (results_none hr _ _ _) rfl ?_
  exact ⟨rfl, hs9, hk⟩
end Go.Proofs.YtiagfmkinefidaaGreat.Dc
namespace Go.Proofs.YtiagfmkinefidaaGreat.Dc
open Go.ChangeShapes Go.WideShapes Go.ChangeAt Go.RowKit
set_option linter.unusedVariables false
set_option maxRecDepth 100000
theorem r00_1 : RuleOk 230 (fun X σ => isM X 1 (σ.op / 8 % 8) 1 [pE, pG] σ) := shp0 "table.go:33" 1 1 Tryz.func230 ⟨rfl, rfl, rfl⟩ (by decide) okE okG
theorem r00_3 : RuleOk 236 (fun X σ => isM X 1 (σ.op / 8 % 8) 1 [pG, pE] σ) := shp0 "table.go:35" 1 1 Tryz.func236 ⟨rfl, rfl, rfl⟩ (by decide) okG okE
theorem r00_5 : RuleOk 238 (fun X σ => isM X 1 (σ.op / 8 % 8) 1 [pA, pI] σ) := shp0 "table.go:37" 1 1 Tryz.func238 ⟨rfl, rfl, rfl⟩ (by decide) okA okI
theorem r00_2 : RuleOk 235 (fun X σ => isM X 1 (σ.op / 8 % 8) σ.v [pE, pG] σ) := shp1 "table.go:34" 1 Tryz.func235 ⟨rfl, rfl, rfl⟩ okE okG vE vG
theorem r00_4 : RuleOk 237 (fun X σ => isM X 1 (σ.op / 8 % 8) σ.v [pG, pE] σ) := shp1 "table.go:36" 1 Tryz.func237 ⟨rfl, rfl, rfl⟩ okG okE vG vE
theorem r00_6 : RuleOk 241 (fun X σ => isM X 1 (σ.op / 8 % 8) σ.v [pA, pI] σ) := shp1 "table.go:38" 1 Tryz.func241 ⟨rfl, rfl, rfl⟩ okA okI vA vI
theorem r00_7 : RuleOk 242 (fun X σ => isM X 12 0 σ.v [pSeg 0] σ) := shp2 "table.go:39" 0 12 0 Tryz.func242 ⟨rfl, rfl, rfl⟩
theorem r00_8 : RuleOk 244 (fun X σ => isM X 12 0 σ.v [pSeg 1] σ) := shp2 "table.go:40" 1 12 0 Tryz.func244 ⟨rfl, rfl, rfl⟩
theorem r00_9 : RuleOk 245 (fun X σ => isM X 12 0 σ.v [pSeg 2] σ) := shp2 "table.go:41" 2 12 0 Tryz.func245 ⟨rfl, rfl, rfl⟩
theorem r00_10 : RuleOk 246 (fun X σ => isM X 12 0 σ.v [pSeg 3] σ) := shp2 "table.go:42" 3 12 0 Tryz.func246 ⟨rfl, rfl, rfl⟩
theorem r00_11 : RuleOk 247 (fun X σ => isM X 13 0 σ.v [pSeg 0] σ) := shp2 "table.go:43" 0 13 0 Tryz.func247 ⟨rfl, rfl, rfl⟩
theorem r00_12 : RuleOk 248 (fun X σ => isM X 13 0 σ.v [pSeg 2] σ) := shp2 "table.go:44" 2 13 0 Tryz.func248 ⟨rfl, rfl, rfl⟩
theorem r00_13 : RuleOk 249 (fun X σ => isM X 13 0 σ.v [pSeg 3] σ) := shp2 "table.go:45" 3 13 0 Tryz.func249 ⟨rfl, rfl, rfl⟩
theorem r0F_8 : RuleOk 377 (fun X σ => isM X 12 0 σ.v [pSeg 4] σ) := shp2 "table.go:196" 4 12 0 Tryz.func377 ⟨rfl, rfl, rfl⟩
theorem r0F_9 : RuleOk 378 (fun X σ => isM X 13 0 σ.v [pSeg 4] σ) := shp2 "table.go:197" 4 13 0 Tryz.func378 ⟨rfl, rfl, rfl⟩
theorem r0F_13 : RuleOk 382 (fun X σ => isM X 12 0 σ.v [pSeg 5] σ) := shp2 "table.go:201" 5 12 0 Tryz.func382 ⟨rfl, rfl, rfl⟩
theorem r0F_14 : RuleOk 383 (fun X σ => isM X 13 0 σ.v [pSeg 5] σ) := shp2 "table.go:202" 5 13 0 Tryz.func383 ⟨rfl, rfl, rfl⟩
theorem r00_14 : RuleOk 250 (fun X σ => isM X 7 0 1 [] σ) := shp3 "table.go:46" 7 0 1 Tryz.func250 ⟨rfl, rfl, rfl⟩ (by decide)
theorem r00_15 : RuleOk 251 (fun X σ => isM X 7 1 1 [] σ) := shp3 "table.go:47" 7 1 1 Tryz.func251 ⟨rfl, rfl, rfl⟩ (by decide)
theorem r00_16 : RuleOk 252 (fun X σ => isM X 7 2 1 [] σ) := shp3 "table.go:48" 7 2 1 Tryz.func252 ⟨rfl, rfl, rfl⟩ (by decide)
theorem r00_17 : RuleOk 253 (fun X σ => isM X 7 3 1 [] σ) := shp3 "table.go:49" 7 3 1 Tryz.func253 ⟨rfl, rfl, rfl⟩ (by decide)
theorem r80_18 : RuleOk 291 (fun X σ => isM X 18 0 1 [] σ) := shp3 "table.go:95" 18 0 1 Tryz.func291 ⟨rfl, rfl, rfl⟩ (by decide)
theorem r80_19 : RuleOk 292 (fun X σ => isM X 19 0 1 [] σ) := shp3 "table.go:96" 19 0 1 Tryz.func292 ⟨rfl, rfl, rfl⟩ (by decide)
theorem r80_20 : RuleOk 293 (fun X σ => isM X 41 0 4 [] σ) := shp3 "table.go:98" 41 0 4 Tryz.func293 ⟨rfl, rfl, rfl⟩ (by decide)
theorem rE0_17 : RuleOk 354 (fun X σ => isM X 40 0 4 [] σ) := shp3 "table.go:169" 40 0 4 Tryz.func354 ⟨rfl, rfl, rfl⟩ (by decide)
theorem rE0_18 : RuleOk 355 (fun X σ => isM X 39 2 4 [] σ) := shp3 "table.go:170" 39 2 4 Tryz.func355 ⟨rfl, rfl, rfl⟩ (by decide)
theorem rE0_21 : RuleOk 359 (fun X σ => isM X 39 0 4 [] σ) := shp3 "table.go:173" 39 0 4 Tryz.func359 ⟨rfl, rfl, rfl⟩ (by decide)
theorem rE0_22 : RuleOk 360 (fun X σ => isM X 39 1 4 [] σ) := shp3 "table.go:174" 39 1 4 Tryz.func360 ⟨rfl, rfl, rfl⟩ (by decide)
theorem rE0_23 : RuleOk 361 (fun X σ => isM X 39 5 4 [] σ) := shp3 "table.go:175" 39 5 4 Tryz.func361 ⟨rfl, rfl, rfl⟩ (by decide)
theorem rE0_24 : RuleOk 362 (fun X σ => isM X 39 6 4 [] σ) := shp3 "table.go:176" 39 6 4 Tryz.func362 ⟨rfl, rfl, rfl⟩ (by decide)
theorem rE0_25 : RuleOk 363 (fun X σ => isM X 39 3 4 [] σ) := shp3 "table.go:177" 39 3 4 Tryz.func363 ⟨rfl, rfl, rfl⟩ (by decide)
theorem rE0_26 : RuleOk 364 (fun X σ => isM X 39 4 4 [] σ) := shp3 "table.go:178" 39 4 4 Tryz.func364 ⟨rfl, rfl, rfl⟩ (by decide)
theorem r0F_2 : RuleOk 369 (fun X σ => isM X 47 0 4 [] σ) := shp3 "table.go:190" 47 0 4 Tryz.func369 ⟨rfl, rfl, rfl⟩ (by decide)
theorem r40_1 : RuleOk 254 (fun X σ => isM X 1 9 σ.v [pR] σ) := shp4 "table.go:57" 1 9 Tryz.func254 ⟨rfl, rfl, rfl⟩ okR
theorem r40_2 : RuleOk 256 (fun X σ => isM X 1 10 σ.v [pR] σ) := shp4 "table.go:58" 1 10 Tryz.func256 ⟨rfl, rfl, rfl⟩ okR
theorem r40_3 : RuleOk 257 (fun X σ => isM X 12 0 σ.v [pR] σ) := shp4 "table.go:59" 12 0 Tryz.func257 ⟨rfl, rfl, rfl⟩ okR
theorem r40_4 : RuleOk 258 (fun X σ => isM X 13 0 σ.v [pR] σ) := shp4 "table.go:60" 13 0 Tryz.func258 ⟨rfl, rfl, rfl⟩ okR
theorem r40_7 : RuleOk 261 (fun X σ => isM X 12 0 σ.v [pI] σ) := shp4 "table.go:63" 12 0 Tryz.func261 ⟨rfl, rfl, rfl⟩ okI
theorem r40_9 : RuleOk 263 (fun X σ => isM X 12 0 σ.v [pIs] σ) := shp4 "table.go:65" 12 0 Tryz.func263 ⟨rfl, rfl, rfl⟩ okIs
theorem rC0_3 : RuleOk 317 (fun X σ => isM X 30 0 σ.v [pIw] σ) := shp4 "table.go:132" 30 0 Tryz.func317 ⟨rfl, rfl, rfl⟩ okIw
theorem rE0_1 : RuleOk 335 (fun X σ => isM X 31 0 σ.v [pJb] σ) := shp4 "table.go:153" 31 0 Tryz.func335 ⟨rfl, rfl, rfl⟩ okJb
theorem rE0_2 : RuleOk 336 (fun X σ => isM X 31 1 σ.v [pJb] σ) := shp4 "table.go:154" 31 1 Tryz.func336 ⟨rfl, rfl, rfl⟩ okJb
theorem rE0_3 : RuleOk 337 (fun X σ => isM X 31 2 σ.v [pJb] σ) := shp4 "table.go:155" 31 2 Tryz.func337 ⟨rfl, rfl, rfl⟩ okJb
theorem rE0_4 : RuleOk 338 (fun X σ => isM X 31 3 σ.v [pJb] σ) := shp4 "table.go:156" 31 3 Tryz.func338 ⟨rfl, rfl, rfl⟩ okJb
theorem rE0_9 : RuleOk 343 (fun X σ => isM X 29 0 σ.v [pJ] σ) := shp4 "table.go:161" 29 0 Tryz.func343 ⟨rfl, rfl, rfl⟩ okJ
theorem rE0_10 : RuleOk 345 (fun X σ => isM X 27 0 σ.v [pJ] σ) := shp4 "table.go:162" 27 0 Tryz.func345 ⟨rfl, rfl, rfl⟩ okJ
theorem rE0_11 : RuleOk 346 (fun X σ => isM X 34 0 σ.v [pFar] σ) := shp4 "table.go:163" 34 0 Tryz.func346 ⟨rfl, rfl, rfl⟩ okFar
theorem rE0_12 : RuleOk 348 (fun X σ => isM X 27 0 σ.v [pJb] σ) := shp4 "table.go:164" 27 0 Tryz.func348 ⟨rfl, rfl, rfl⟩ okJb
theorem r40_5 : RuleOk 259 (fun X σ => isM X 14 0 σ.v [] σ) := shp5 "table.go:61" 14 0 Tryz.func259 ⟨rfl, rfl, rfl⟩
theorem r40_6 : RuleOk 260 (fun X σ => isM X 15 0 σ.v [] σ) := shp5 "table.go:62" 15 0 Tryz.func260 ⟨rfl, rfl, rfl⟩
theorem r80_14 : RuleOk 287 (fun X σ => isM X 20 0 σ.v [] σ) := shp5 "table.go:91" 20 0 Tryz.func287 ⟨rfl, rfl, rfl⟩
theorem r80_15 : RuleOk 288 (fun X σ => isM X 21 0 σ.v [] σ) := shp5 "table.go:92" 21 0 Tryz.func288 ⟨rfl, rfl, rfl⟩
theorem r80_16 : RuleOk 289 (fun X σ => isM X 16 0 σ.v [] σ) := shp5 "table.go:93" 16 0 Tryz.func289 ⟨rfl, rfl, rfl⟩
theorem r80_17 : RuleOk 290 (fun X σ => isM X 17 0 σ.v [] σ) := shp5 "table.go:94" 17 0 Tryz.func290 ⟨rfl, rfl, rfl⟩
theorem rC0_7 : RuleOk 323 (fun X σ => isM X 35 0 σ.v [] σ) := shp5 "table.go:136" 35 0 Tryz.func323 ⟨rfl, rfl, rfl⟩
theorem rC0_11 : RuleOk 327 (fun X σ => isM X 33 0 σ.v [] σ) := shp5 "table.go:140" 33 0 Tryz.func327 ⟨rfl, rfl, rfl⟩
theorem r40_8 : RuleOk 262 (fun X σ => isM X 5 0 σ.v [pG, pE, pI] σ) := shp6 "table.go:64" 5 0 Tryz.func262 ⟨rfl, rfl, rfl⟩ okG okE okI
theorem r40_10 : RuleOk 265 (fun X σ => isM X 5 0 σ.v [pG, pE, pIs] σ) := shp6 "table.go:66" 5 0 Tryz.func265 ⟨rfl, rfl, rfl⟩ okG okE okIs
theorem r0F_11 : RuleOk 380 (fun X σ => isM X 3 0 σ.v [pE, pG, pIb] σ) := shp6 "table.go:199" 3 0 Tryz.func380 ⟨rfl, rfl, rfl⟩ okE okG okIb
theorem r0F_12 : RuleOk 381 (fun X σ => isM X 3 0 σ.v [pE, pG, pCL] σ) := shp6 "table.go:200" 3 0 Tryz.func381 ⟨rfl, rfl, rfl⟩ okE okG okCL
theorem r0F_16 : RuleOk 385 (fun X σ => isM X 3 1 σ.v [pE, pG, pIb] σ) := shp6 "table.go:204" 3 1 Tryz.func385 ⟨rfl, rfl, rfl⟩ okE okG okIb
theorem r0F_17 : RuleOk 386 (fun X σ => isM X 3 1 σ.v [pE, pG, pCL] σ) := shp6 "table.go:205" 3 1 Tryz.func386 ⟨rfl, rfl, rfl⟩ okE okG okCL
theorem r40_11 : RuleOk 266 (fun X σ => isM X 28 (σ.op % 16) σ.v [pJb] σ) := shp7 "table.go:67" 28 Tryz.func266 ⟨rfl, rfl, rfl⟩ okJb vJb
theorem r0F_6 : RuleOk 375 (fun X σ => isM X 28 (σ.op % 16) σ.v [pJ] σ) := shp7 "table.go:194" 28 Tryz.func375 ⟨rfl, rfl, rfl⟩ okJ vJ
theorem r80_1 : RuleOk 269 (fun X σ => isM X 1 (modrm X σ).1.2.1 1 [pE, pI] (modrm X σ).2) := shp8 "table.go:75" 1 1 Tryz.func269 ⟨rfl, rfl, rfl⟩ (by decide) okE okI
theorem rC0_1 : RuleOk 314 (fun X σ => isM X 2 (modrm X σ).1.2.1 1 [pE, pIb] (modrm X σ).2) := shp8 "table.go:130" 2 1 Tryz.func314 ⟨rfl, rfl, rfl⟩ (by decide) okE okIb
theorem rC0_14 : RuleOk 330 (fun X σ => isM X 2 (modrm X σ).1.2.1 1 [pE, pCL] (modrm X σ).2) := shp8 "table.go:143" 2 1 Tryz.func330 ⟨rfl, rfl, rfl⟩ (by decide) okE okCL
theorem r80_2 : RuleOk 271 (fun X σ => isM X 1 (modrm X σ).1.2.1 σ.v [pE, pI] (modrm X σ).2) := shp9 "table.go:76" 1 Tryz.func271 ⟨rfl, rfl, rfl⟩ okE okI vE vI
theorem r80_3 : RuleOk 272 (fun X σ => isM X 1 (modrm X σ).1.2.1 σ.v [pE, pIs] (modrm X σ).2) := shp9 "table.go:77" 1 Tryz.func272 ⟨rfl, rfl, rfl⟩ okE okIs vE vIs
theorem rC0_2 : RuleOk 316 (fun X σ => isM X 2 (modrm X σ).1.2.1 σ.v [pE, pIb] (modrm X σ).2) := shp9 "table.go:131" 2 Tryz.func316 ⟨rfl, rfl, rfl⟩ okE okIb vE vIb
theorem rC0_15 : RuleOk 332 (fun X σ => isM X 2 (modrm X σ).1.2.1 σ.v [pE, pCL] (modrm X σ).2) := shp9 "table.go:144" 2 Tryz.func332 ⟨rfl, rfl, rfl⟩ okE okCL vE vCL
theorem r80_4 : RuleOk 273 (fun X σ => isM X 1 8 1 [pE, pG] σ) := shp10 "table.go:78" 1 8 1 Tryz.func273 ⟨rfl, rfl, rfl⟩ (by decide) okE okG
theorem r80_6 : RuleOk 275 (fun X σ => isM X 10 0 1 [pE, pG] σ) := shp10 "table.go:80" 10 0 1 Tryz.func275 ⟨rfl, rfl, rfl⟩ (by decide) okE okG
theorem r80_8 : RuleOk 277 (fun X σ => isM X 8 0 1 [pE, pG] σ) := shp10 "table.go:82" 8 0 1 Tryz.func277 ⟨rfl, rfl, rfl⟩ (by decide) okE okG
theorem r80_10 : RuleOk 279 (fun X σ => isM X 8 0 1 [pG, pE] σ) := shp10 "table.go:84" 8 0 1 Tryz.func279 ⟨rfl, rfl, rfl⟩ (by decide) okG okE
theorem rA0_1 : RuleOk 294 (fun X σ => isM X 8 0 1 [pA, pO] σ) := shp10 "table.go:106" 8 0 1 Tryz.func294 ⟨rfl, rfl, rfl⟩ (by decide) okA okO
theorem rA0_3 : RuleOk 297 (fun X σ => isM X 8 0 1 [pO, pA] σ) := shp10 "table.go:108" 8 0 1 Tryz.func297 ⟨rfl, rfl, rfl⟩ (by decide) okO okA
theorem rA0_9 : RuleOk 304 (fun X σ => isM X 1 8 1 [pA, pI] σ) := shp10 "table.go:114" 1 8 1 Tryz.func304 ⟨rfl, rfl, rfl⟩ (by decide) okA okI
theorem rA0_17 : RuleOk 312 (fun X σ => isM X 8 0 1 [pR, pI] σ) := shp10 "table.go:122" 8 0 1 Tryz.func312 ⟨rfl, rfl, rfl⟩ (by decide) okR okI
theorem rE0_5 : RuleOk 339 (fun X σ => isM X 37 0 1 [pA, pIb] σ) := shp10 "table.go:157" 37 0 1 Tryz.func339 ⟨rfl, rfl, rfl⟩ (by decide) okA okIb
theorem rE0_7 : RuleOk 341 (fun X σ => isM X 38 0 1 [pIb, pA] σ) := shp10 "table.go:159" 38 0 1 Tryz.func341 ⟨rfl, rfl, rfl⟩ (by decide) okIb okA
theorem rE0_13 : RuleOk 349 (fun X σ => isM X 37 0 1 [pA, pDX] σ) := shp10 "table.go:165" 37 0 1 Tryz.func349 ⟨rfl, rfl, rfl⟩ (by decide) okA okDX
theorem rE0_15 : RuleOk 352 (fun X σ => isM X 38 0 1 [pDX, pA] σ) := shp10 "table.go:167" 38 0 1 Tryz.func352 ⟨rfl, rfl, rfl⟩ (by decide) okDX okA
theorem r80_5 : RuleOk 274 (fun X σ => isM X 1 8 σ.v [pE, pG] σ) := shp11 "table.go:79" 1 8 Tryz.func274 ⟨rfl, rfl, rfl⟩ okE okG
theorem r80_7 : RuleOk 276 (fun X σ => isM X 10 0 σ.v [pE, pG] σ) := shp11 "table.go:81" 10 0 Tryz.func276 ⟨rfl, rfl, rfl⟩ okE okG
theorem r80_9 : RuleOk 278 (fun X σ => isM X 8 0 σ.v [pE, pG] σ) := shp11 "table.go:83" 8 0 Tryz.func278 ⟨rfl, rfl, rfl⟩ okE okG
theorem r80_11 : RuleOk 280 (fun X σ => isM X 8 0 σ.v [pG, pE] σ) := shp11 "table.go:85" 8 0 Tryz.func280 ⟨rfl, rfl, rfl⟩ okG okE
theorem r80_13 : RuleOk 286 (fun X σ => isM X 10 0 σ.v [pR, pA] σ) := shp11 "table.go:90" 10 0 Tryz.func286 ⟨rfl, rfl, rfl⟩ okR okA
theorem rA0_2 : RuleOk 296 (fun X σ => isM X 8 0 σ.v [pA, pO] σ) := shp11 "table.go:107" 8 0 Tryz.func296 ⟨rfl, rfl, rfl⟩ okA okO
theorem rA0_4 : RuleOk 298 (fun X σ => isM X 8 0 σ.v [pO, pA] σ) := shp11 "table.go:109" 8 0 Tryz.func298 ⟨rfl, rfl, rfl⟩ okO okA
theorem rA0_10 : RuleOk 305 (fun X σ => isM X 1 8 σ.v [pA, pI] σ) := shp11 "table.go:115" 1 8 Tryz.func305 ⟨rfl, rfl, rfl⟩ okA okI
theorem rA0_18 : RuleOk 313 (fun X σ => isM X 8 0 σ.v [pR, pI] σ) := shp11 "table.go:123" 8 0 Tryz.func313 ⟨rfl, rfl, rfl⟩ okR okI
theorem rE0_6 : RuleOk 340 (fun X σ => isM X 37 0 σ.v [pA, pIb] σ) := shp11 "table.go:158" 37 0 Tryz.func340 ⟨rfl, rfl, rfl⟩ okA okIb
theorem rE0_8 : RuleOk 342 (fun X σ => isM X 38 0 σ.v [pIb, pA] σ) := shp11 "table.go:160" 38 0 Tryz.func342 ⟨rfl, rfl, rfl⟩ okIb okA
theorem rE0_14 : RuleOk 351 (fun X σ => isM X 37 0 σ.v [pA, pDX] σ) := shp11 "table.go:166" 37 0 Tryz.func351 ⟨rfl, rfl, rfl⟩ okA okDX
theorem rE0_16 : RuleOk 353 (fun X σ => isM X 38 0 σ.v [pDX, pA] σ) := shp11 "table.go:168" 38 0 Tryz.func353 ⟨rfl, rfl, rfl⟩ okDX okA
theorem r0F_10 : RuleOk 379 (fun X σ => isM X 23 0 σ.v [pE, pG] σ) := shp11 "table.go:198" 23 0 Tryz.func379 ⟨rfl, rfl, rfl⟩ okE okG
theorem r0F_15 : RuleOk 384 (fun X σ => isM X 23 1 σ.v [pE, pG] σ) := shp11 "table.go:203" 23 1 Tryz.func384 ⟨rfl, rfl, rfl⟩ okE okG
theorem r0F_18 : RuleOk 387 (fun X σ => isM X 5 0 σ.v [pG, pE] σ) := shp11 "table.go:206" 5 0 Tryz.func387 ⟨rfl, rfl, rfl⟩ okG okE
theorem r0F_19 : RuleOk 388 (fun X σ => isM X 23 2 σ.v [pE, pG] σ) := shp11 "table.go:207" 23 2 Tryz.func388 ⟨rfl, rfl, rfl⟩ okE okG
theorem r0F_20 : RuleOk 389 (fun X σ => isM X 9 0 σ.v [pG, pEb] σ) := shp11 "table.go:208" 9 0 Tryz.func389 ⟨rfl, rfl, rfl⟩ okG okEb
theorem r0F_21 : RuleOk 391 (fun X σ => isM X 9 0 σ.v [pG, pEw] σ) := shp11 "table.go:209" 9 0 Tryz.func391 ⟨rfl, rfl, rfl⟩ okG okEw
theorem r0F_23 : RuleOk 394 (fun X σ => isM X 23 3 σ.v [pE, pG] σ) := shp11 "table.go:211" 23 3 Tryz.func394 ⟨rfl, rfl, rfl⟩ okE okG
theorem r0F_24 : RuleOk 395 (fun X σ => isM X 24 0 σ.v [pG, pE] σ) := shp11 "table.go:212" 24 0 Tryz.func395 ⟨rfl, rfl, rfl⟩ okG okE
theorem r0F_25 : RuleOk 396 (fun X σ => isM X 24 1 σ.v [pG, pE] σ) := shp11 "table.go:213" 24 1 Tryz.func396 ⟨rfl, rfl, rfl⟩ okG okE
theorem r0F_26 : RuleOk 397 (fun X σ => isM X 9 1 σ.v [pG, pEb] σ) := shp11 "table.go:214" 9 1 Tryz.func397 ⟨rfl, rfl, rfl⟩ okG okEb
theorem r0F_27 : RuleOk 398 (fun X σ => isM X 9 1 σ.v [pG, pEw] σ) := shp11 "table.go:215" 9 1 Tryz.func398 ⟨rfl, rfl, rfl⟩ okG okEw
theorem r80_12 : RuleOk 284 (fun X σ => isM X 13 0 (onlyM X [0] σ).v [pE] (onlyM X [0] σ)) := shp12 "table.go:89" 0 13 0 Tryz.func284 ⟨rfl, rfl, rfl⟩ okE
theorem rA0_5 : RuleOk 299 (fun X σ => isStr X 0 1 σ) := shp13 "table.go:110" 0 Tryz.func299 ⟨rfl, rfl, rfl⟩
theorem rA0_7 : RuleOk 302 (fun X σ => isStr X 1 1 σ) := shp13 "table.go:112" 1 Tryz.func302 ⟨rfl, rfl, rfl⟩
theorem rA0_11 : RuleOk 306 (fun X σ => isStr X 2 1 σ) := shp13 "table.go:116" 2 Tryz.func306 ⟨rfl, rfl, rfl⟩
theorem rA0_13 : RuleOk 308 (fun X σ => isStr X 3 1 σ) := shp13 "table.go:118" 3 Tryz.func308 ⟨rfl, rfl, rfl⟩
theorem rA0_15 : RuleOk 310 (fun X σ => isStr X 4 1 σ) := shp13 "table.go:120" 4 Tryz.func310 ⟨rfl, rfl, rfl⟩
theorem rA0_6 : RuleOk 301 (fun X σ => isStr X 0 σ.v σ) := shp14 "table.go:111" 0 Tryz.func301 ⟨rfl, rfl, rfl⟩
theorem rA0_8 : RuleOk 303 (fun X σ => isStr X 1 σ.v σ) := shp14 "table.go:113" 1 Tryz.func303 ⟨rfl, rfl, rfl⟩
theorem rA0_12 : RuleOk 307 (fun X σ => isStr X 2 σ.v σ) := shp14 "table.go:117" 2 Tryz.func307 ⟨rfl, rfl, rfl⟩
theorem rA0_14 : RuleOk 309 (fun X σ => isStr X 3 σ.v σ) := shp14 "table.go:119" 3 Tryz.func309 ⟨rfl, rfl, rfl⟩
theorem rA0_16 : RuleOk 311 (fun X σ => isStr X 4 σ.v σ) := shp14 "table.go:121" 4 Tryz.func311 ⟨rfl, rfl, rfl⟩
theorem rC0_4 : RuleOk 319 (fun X σ => isM X 30 0 σ.v [pNum 0] σ) := shp15 "table.go:133" 0 30 0 Tryz.func319 ⟨rfl, rfl, rfl⟩
theorem rC0_5 : RuleOk 321 (fun X σ => isM X 8 0 1 [pE, pI] (onlyM X [0] σ)) := shp16 "table.go:134" 0 8 0 1 Tryz.func321 ⟨rfl, rfl, rfl⟩ (by decide) okE okI
theorem rC0_6 : RuleOk 322 (fun X σ => isM X 8 0 (onlyM X [0] σ).v [pE, pI] (onlyM X [0] σ)) := shp17 "table.go:135" 0 8 0 Tryz.func322 ⟨rfl, rfl, rfl⟩ okE okI
theorem rC0_8 : RuleOk 324 (fun X σ => isM X 32 1 4 [pNum 3] σ) := shp18 "table.go:137" 3 32 1 4 Tryz.func324 ⟨rfl, rfl, rfl⟩ (by decide)
theorem rC0_10 : RuleOk 326 (fun X σ => isM X 32 2 4 [pNum 4] σ) := shp18 "table.go:139" 4 32 2 4 Tryz.func326 ⟨rfl, rfl, rfl⟩ (by decide)
theorem rC0_9 : RuleOk 325 (fun X σ => isM X 32 0 4 [pIb] σ) := shp19 "table.go:138" 32 0 4 Tryz.func325 ⟨rfl, rfl, rfl⟩ (by decide) okIb
theorem rC0_16 : RuleOk 333 (fun X σ => isM X 7 4 1 [pI] σ) := shp19 "table.go:145" 7 4 1 Tryz.func333 ⟨rfl, rfl, rfl⟩ (by decide) okI
theorem rC0_17 : RuleOk 334 (fun X σ => isM X 7 5 1 [pI] σ) := shp19 "table.go:146" 7 5 1 Tryz.func334 ⟨rfl, rfl, rfl⟩ (by decide) okI
theorem r0F_28 : RuleOk 399 (fun X σ => isM X 22 0 4 [pR] σ) := shp19 "table.go:216" 22 0 4 Tryz.func399 ⟨rfl, rfl, rfl⟩ (by decide) okR
theorem rC0_12 : RuleOk 328 (fun X σ => isM X 2 (modrm X σ).1.2.1 1 [pE, pNum 1] (modrm X σ).2) := shp20 "table.go:141" 1 2 1 Tryz.func328 ⟨rfl, rfl, rfl⟩ (by decide) okE
theorem rC0_13 : RuleOk 329 (fun X σ => isM X 2 (modrm X σ).1.2.1 σ.v [pE, pNum 1] (modrm X σ).2) := shp21 "table.go:142" 1 2 Tryz.func329 ⟨rfl, rfl, rfl⟩ okE vE
theorem rE0_27 : RuleOk 365 (fun X σ => isM X 1 (9 + (modrm X (onlyM X [0, 1] σ)).1.2.1) 1 [pE] (modrm X (onlyM X [0, 1] σ)).2) := shp22 "table.go:179" 0 1 1 1 Tryz.func365 ⟨rfl, rfl, rfl⟩ (by decide) okE
theorem r0F_1 : RuleOk 367 (fun X σ => isM X 44 0 2 [pE] (onlyM X [3] σ)) := shp23 "table.go:188" 3 44 0 2 Tryz.func367 ⟨rfl, rfl, rfl⟩ (by decide) okE
theorem r0F_3 : RuleOk 370 (fun X σ => isM X 45 0 4 [pRm, pCr] (onlyM X [0, 2, 3] σ)) := shp24 "table.go:191" 0 2 3 45 0 4 Tryz.func370 ⟨rfl, rfl, rfl⟩ (by decide) okRm okCr
theorem r0F_4 : RuleOk 373 (fun X σ => isM X 45 0 4 [pCr, pRm] (onlyM X [0, 2, 3] σ)) := shp24 "table.go:192" 0 2 3 45 0 4 Tryz.func373 ⟨rfl, rfl, rfl⟩ (by decide) okCr okRm
theorem r0F_5 : RuleOk 374 (fun X σ => isM X 26 (σ.op % 16) σ.v [pG, pE] σ) := shp25 "table.go:193" 26 Tryz.func374 ⟨rfl, rfl, rfl⟩ okG okE vG vE
theorem r0F_7 : RuleOk 376 (fun X σ => isM X 25 (σ.op % 16) 1 [pE] σ) := shp26 "table.go:195" 25 1 Tryz.func376 ⟨rfl, rfl, rfl⟩ (by decide) okE
end Go.Proofs.YtiagfmkinefidaaGreat.Dc
namespace Go.Proofs.YtiagfmkinefidaaGreat.Dc
open Go.ChangeShapes Go.WideShapes Go.ChangeAt Go.RowKit
set_option linter.unusedVariables false
set_option maxRecDepth 100000
set_option maxHeartbeats 8000000 in
theorem r0F_22 : RuleOk 393 (fun X σ => isM X 23 ((modrm X (onlyM X [4, 5, 6, 7] σ)).1.2.1 - 4) (onlyM X [4, 5, 6, 7] σ).v [pE, pIb] (modrm X (onlyM X [4, 5, 6, 7] σ)).2) := by
  intro w X σ h
  have hfre := h.fresh
  have h0 : St X (w.alloc (.cells #[.int .i64 4, .int .i64 5, .int .i64 6, .int .i64 7] 3)) σ := h.alloc _
  have hn0 := (MapKept.heap_alloc w (.cells #[.int .i64 4, .int .i64 5, .int .i64 6, .int .i64 7] 3)).1
  have cO := only_ok _ X σ h0 w.heap.size 4 [4, 5, 6, 7] rfl (by decide) hfre (fun j hj => by
    rcases (by omega : j = 0 ∨ j = 1 ∨ j = 2 ∨ j = 3) with rfl | rfl | rfl | rfl <;> (unfold World.cell?; rw [hn0]; rfl))
  obtain ⟨σa, hσa⟩ : ∃ σa, σa = onlyM X [4, 5, 6, 7] σ := ⟨_, rfl⟩
  show Calls _ _ _ _ fun e w' => _ ∧ Done X w (isM X 23 ((modrm X (onlyM X [4, 5, 6, 7] σ)).1.2.1 - 4) (onlyM X [4, 5, 6, 7] σ).v [pE, pIb] (modrm X (onlyM X [4, 5, 6, 7] σ)).2) w'
  rw [← hσa] at cO ⊢
  clear hσa h h0 hn0
  go_enter Tryz.func393, Tryz.ntmps393
  go_wp2_with fail
  refine cO.mono ?_; rintro e wa ⟨rfl, h, ka⟩
  replace ka := (Kp.alloc X.own w _).trans ka
  clear cO hfre
  have f3 := h.f3
  have hF := h.ltF
  have hfre := h.fresh
  have cM := fun W (hW : St X W σa) => modrm_ok W X σa hW
  have hv1 := modrm_v X σa
  have hbd := modrm_bd h
  obtain ⟨⟨m, n, r⟩, hm⟩ : ∃ x, x = (modrm X σa).1 := ⟨_, rfl⟩
  obtain ⟨σ1, hσ1⟩ : ∃ σ1, σ1 = (modrm X σa).2 := ⟨_, rfl⟩
  obtain ⟨V, hV⟩ : ∃ V, V = isM X 23 (n - 4) σa.v [pE, pIb] σ1 := ⟨_, rfl⟩
  have eV : isM X 23 ((modrm X σa).1.2.1 - 4) σa.v [pE, pIb] (modrm X σa).2 = V := by rw [hV, hσ1, ← hm]
  simp only [← hm, ← hσ1, mrV] at cM hv1 hbd
  obtain ⟨_, ⟨n0, n1⟩, _⟩ := hbd
  have fl1 := fld1
  have hw4 : IntKind.i64.wrap (n - 4) = n - 4 := IntWalk.i64_in _ ⟨by omega, by omega⟩
  have HV : Hid (V = isM X 23 (n - 4) σa.v [pE, pIb] σ1) := hV
  have Hv1 : Hid (σ1.v = σa.v) := hv1
  have HM : Hid _ := cM
  clear hm hσ1 hV hv1 cM
  have Hst : Hid (St X wa σa) := h
  have Hfre : Hid (¬ X.own wa.heap.size) := hfre
  clear h hfre
  have HP : Hid (∀ W : World, ∀ p ∈ ([⟨233, #[], pE⟩, ⟨315, #[], pIb⟩] : List Prt), PartOk X W p.n p.cap p.f σa.v) := by
    intro W p hp
    simp at hp
    rcases hp with rfl | rfl
    · exact okE Hst.out.vs
    · exact okIb Hst.out.vs
  have Hd0 : Hid (St X wa.drew σa) := Hst.out.drewN 1
  have Kd0 : Hid (Kp X.own wa wa.drew) := (Kp.refl _ _).drewN 1
  have Hd1 : Hid (St X (wa.alloc (.cells #[.func (.func 233) #[] #[], .func (.func 315) #[] #[]] 291)).drew σa) := (Hst.out.alloc _).drewN 1
  have Kd1 : Hid (Kp X.own wa (wa.alloc (.cells #[.func (.func 233) #[] #[], .func (.func 315) #[] #[]] 291)).drew) := (Kp.alloc _ _ _).drewN 1
  have Hh1 : Hid ((wa.alloc (.cells #[.func (.func 233) #[] #[], .func (.func 315) #[] #[]] 291)).drew.heap[wa.heap.size]? = some (.cells #[.func (.func 233) #[] #[], .func (.func 315) #[] #[]] 291)) := (MapKept.heap_alloc wa _).1
  go_upto_region 1 with fail
  go_region_with (first
    | (go_at_call 270; refine Calls.mono (HM.out _ ?_) ?_; (first | exact Hd0.out | exact Hd1.out); rintro e w1 ⟨rfl, h1, k1⟩; have g3 : w1.cell? ⟨X.F, 3, none⟩ = some (.int .i64 σa.v) := (by rw [← Hv1.out]; exact h1.f3); have gF := h1.ltF; (try have hsl := heap_kept Hh1.out k1 Hfre.out))
    | (go_at_call 231; first | (have cI := is_gen w1 X σ1 h1 23 (n - 4) σa.v wa.heap.size [⟨233, #[], pE⟩, ⟨315, #[], pIb⟩] (by decide) Hfre.out hsl (HP.out _); refine cI.mono ?_; rintro e w2 ⟨rfl, hd⟩; have hk := (Kd1.out.trans k1).trans hd.2) | (have cI := is_gen (w1.alloc (.cells #[.func (.func 233) #[] #[], .func (.func 315) #[] #[]] 291)) X σ1 (h1.alloc _) 23 (n - 4) σa.v w1.heap.size [⟨233, #[], pE⟩, ⟨315, #[], pIb⟩] (by decide) h1.fresh (MapKept.heap_alloc w1 (.cells #[.func (.func 233) #[] #[], .func (.func 315) #[] #[]] 291)).1 (HP.out _); refine cI.mono ?_; rintro e w2 ⟨rfl, hd⟩; have hk := ((Kd0.out.trans k1).trans (Kp.alloc X.own w1 _)).trans hd.2)))
  all_goals
    have hs9 := hd.1
    clear hd
    go_wp2
    go_end0
    rw [eV]; rw [HV.out]
    exact ⟨rfl, hs9, ka.trans hk⟩
end Go.Proofs.YtiagfmkinefidaaGreat.Dc
namespace Go.Proofs.YtiagfmkinefidaaGreat.Dc
open Go.ChangeShapes Go.WideShapes Go.ChangeAt Go.RowKit
set_option linter.unusedVariables false
set_option maxRecDepth 100000
theorem tb0 : RowOk 230 (.row ⟨.no, 1, .opn, (.k 1), [.E, .G]⟩) := ⟨r00_1, fun a w => by kernel_rfl⟩
theorem tb1 : RowOk 238 (.row ⟨.no, 1, .opn, (.k 1), [.A, .I]⟩) := ⟨r00_5, fun a w => by kernel_rfl⟩
theorem tb2 : RowOk 245 (.row ⟨.no, 12, (.k 0), .v, [.Seg 2]⟩) := ⟨r00_9, fun a w => by kernel_rfl⟩
theorem tb3 : RowOk 249 (.row ⟨.no, 13, (.k 0), .v, [.Seg 3]⟩) := ⟨r00_13, fun a w => by kernel_rfl⟩
theorem tb4 : RowOk 253 (.row ⟨.no, 7, (.k 3), (.k 1), []⟩) := ⟨r00_17, fun a w => by kernel_rfl⟩
theorem tb5 : RowOk 258 (.row ⟨.no, 13, (.k 0), .v, [.R]⟩) := ⟨r40_4, fun a w => by kernel_rfl⟩
theorem tb6 : RowOk 262 (.row ⟨.no, 5, (.k 0), .v, [.G, .E, .I]⟩) := ⟨r40_8, fun a w => by kernel_rfl⟩
theorem tb7 : RowOk 269 (.row ⟨.no, 1, .mn, (.k 1), [.E, .I]⟩) := ⟨r80_1, fun a w => by kernel_rfl⟩
theorem tb8 : RowOk 274 (.row ⟨.no, 1, (.k 8), .v, [.E, .G]⟩) := ⟨r80_5, fun a w => by kernel_rfl⟩
theorem tb9 : RowOk 278 (.row ⟨.no, 8, (.k 0), .v, [.E, .G]⟩) := ⟨r80_9, fun a w => by kernel_rfl⟩
theorem tb10 : RowOk 286 (.row ⟨.no, 10, (.k 0), .v, [.R, .A]⟩) := ⟨r80_13, fun a w => by kernel_rfl⟩
theorem tb11 : RowOk 290 (.row ⟨.no, 17, (.k 0), .v, []⟩) := ⟨r80_17, fun a w => by kernel_rfl⟩
theorem tb12 : RowOk 294 (.row ⟨.no, 8, (.k 0), (.k 1), [.A, .O]⟩) := ⟨rA0_1, fun a w => by kernel_rfl⟩
theorem tb13 : RowOk 299 (.str 0 (.k 1)) := ⟨rA0_5, fun a w => by kernel_rfl⟩
theorem tb14 : RowOk 304 (.row ⟨.no, 1, (.k 8), (.k 1), [.A, .I]⟩) := ⟨rA0_9, fun a w => by kernel_rfl⟩
theorem tb15 : RowOk 308 (.str 3 (.k 1)) := ⟨rA0_13, fun a w => by kernel_rfl⟩
theorem tb16 : RowOk 312 (.row ⟨.no, 8, (.k 0), (.k 1), [.R, .I]⟩) := ⟨rA0_17, fun a w => by kernel_rfl⟩
theorem tb17 : RowOk 317 (.row ⟨.no, 30, (.k 0), .v, [.Iw]⟩) := ⟨rC0_3, fun a w => by kernel_rfl⟩
theorem tb18 : RowOk 323 (.row ⟨.no, 35, (.k 0), .v, []⟩) := ⟨rC0_7, fun a w => by kernel_rfl⟩
theorem tb19 : RowOk 327 (.row ⟨.no, 33, (.k 0), .v, []⟩) := ⟨rC0_11, fun a w => by kernel_rfl⟩
theorem tb20 : RowOk 332 (.row ⟨.no, 2, .mn, .v, [.E, .CL]⟩) := ⟨rC0_15, fun a w => by kernel_rfl⟩
theorem tb21 : RowOk 336 (.row ⟨.no, 31, (.k 1), .v, [.Jb]⟩) := ⟨rE0_2, fun a w => by kernel_rfl⟩
theorem tb22 : RowOk 340 (.row ⟨.no, 37, (.k 0), .v, [.A, .Ib]⟩) := ⟨rE0_6, fun a w => by kernel_rfl⟩
theorem tb23 : RowOk 345 (.row ⟨.no, 27, (.k 0), .v, [.J]⟩) := ⟨rE0_10, fun a w => by kernel_rfl⟩
theorem tb24 : RowOk 351 (.row ⟨.no, 37, (.k 0), .v, [.A, .DX]⟩) := ⟨rE0_14, fun a w => by kernel_rfl⟩
theorem tb25 : RowOk 355 (.row ⟨.no, 39, (.k 2), (.k 4), []⟩) := ⟨rE0_18, fun a w => by kernel_rfl⟩
theorem tb26 : RowOk 362 (.row ⟨.no, 39, (.k 6), (.k 4), []⟩) := ⟨rE0_24, fun a w => by kernel_rfl⟩
theorem tb27 : RowOk 367 (.row ⟨(.only [3]), 44, (.k 0), (.k 2), [.E]⟩) := ⟨r0F_1, fun a w => by kernel_rfl⟩
theorem tb28 : RowOk 374 (.row ⟨.no, 26, .opc, .v, [.G, .E]⟩) := ⟨r0F_5, fun a w => by kernel_rfl⟩
theorem tb29 : RowOk 378 (.row ⟨.no, 13, (.k 0), .v, [.Seg 4]⟩) := ⟨r0F_9, fun a w => by kernel_rfl⟩
theorem tb30 : RowOk 382 (.row ⟨.no, 12, (.k 0), .v, [.Seg 5]⟩) := ⟨r0F_13, fun a w => by kernel_rfl⟩
theorem tb31 : RowOk 386 (.row ⟨.no, 3, (.k 1), .v, [.E, .G, .CL]⟩) := ⟨r0F_17, fun a w => by kernel_rfl⟩
theorem tb32 : RowOk 391 (.row ⟨.no, 9, (.k 0), .v, [.G, .Ew]⟩) := ⟨r0F_21, fun a w => by kernel_rfl⟩
theorem tb33 : RowOk 397 (.row ⟨.no, 9, (.k 1), .v, [.G, .Eb]⟩) := ⟨r0F_26, fun a w => by kernel_rfl⟩
theorem tb34 : RowOk 235 (.row ⟨.no, 1, .opn, .v, [.E, .G]⟩) := ⟨r00_2, fun a w => by kernel_rfl⟩
theorem tb35 : RowOk 241 (.row ⟨.no, 1, .opn, .v, [.A, .I]⟩) := ⟨r00_6, fun a w => by kernel_rfl⟩
theorem tb36 : RowOk 246 (.row ⟨.no, 12, (.k 0), .v, [.Seg 3]⟩) := ⟨r00_10, fun a w => by kernel_rfl⟩
theorem tb37 : RowOk 250 (.row ⟨.no, 7, (.k 0), (.k 1), []⟩) := ⟨r00_14, fun a w => by kernel_rfl⟩
theorem tb38 : RowOk 254 (.row ⟨.no, 1, (.k 9), .v, [.R]⟩) := ⟨r40_1, fun a w => by kernel_rfl⟩
theorem tb39 : RowOk 259 (.row ⟨.no, 14, (.k 0), .v, []⟩) := ⟨r40_5, fun a w => by kernel_rfl⟩
theorem tb40 : RowOk 263 (.row ⟨.no, 12, (.k 0), .v, [.Is]⟩) := ⟨r40_9, fun a w => by kernel_rfl⟩
theorem tb41 : RowOk 271 (.row ⟨.no, 1, .mn, .v, [.E, .I]⟩) := ⟨r80_2, fun a w => by kernel_rfl⟩
theorem tb42 : RowOk 275 (.row ⟨.no, 10, (.k 0), (.k 1), [.E, .G]⟩) := ⟨r80_6, fun a w => by kernel_rfl⟩
theorem tb43 : RowOk 279 (.row ⟨.no, 8, (.k 0), (.k 1), [.G, .E]⟩) := ⟨r80_10, fun a w => by kernel_rfl⟩
theorem tb44 : RowOk 287 (.row ⟨.no, 20, (.k 0), .v, []⟩) := ⟨r80_14, fun a w => by kernel_rfl⟩
theorem tb45 : RowOk 291 (.row ⟨.no, 18, (.k 0), (.k 1), []⟩) := ⟨r80_18, fun a w => by kernel_rfl⟩
theorem tb46 : RowOk 296 (.row ⟨.no, 8, (.k 0), .v, [.A, .O]⟩) := ⟨rA0_2, fun a w => by kernel_rfl⟩
theorem tb47 : RowOk 301 (.str 0 .v) := ⟨rA0_6, fun a w => by kernel_rfl⟩
theorem tb48 : RowOk 305 (.row ⟨.no, 1, (.k 8), .v, [.A, .I]⟩) := ⟨rA0_10, fun a w => by kernel_rfl⟩
theorem tb49 : RowOk 309 (.str 3 .v) := ⟨rA0_14, fun a w => by kernel_rfl⟩
theorem tb50 : RowOk 313 (.row ⟨.no, 8, (.k 0), .v, [.R, .I]⟩) := ⟨rA0_18, fun a w => by kernel_rfl⟩
theorem tb51 : RowOk 319 (.row ⟨.no, 30, (.k 0), .v, [.Num 0]⟩) := ⟨rC0_4, fun a w => by kernel_rfl⟩
theorem tb52 : RowOk 324 (.row ⟨.no, 32, (.k 1), (.k 4), [.Num 3]⟩) := ⟨rC0_8, fun a w => by kernel_rfl⟩
theorem tb53 : RowOk 328 (.row ⟨.no, 2, .mn, (.k 1), [.E, .Num 1]⟩) := ⟨rC0_12, fun a w => by kernel_rfl⟩
theorem tb54 : RowOk 333 (.row ⟨.no, 7, (.k 4), (.k 1), [.I]⟩) := ⟨rC0_16, fun a w => by kernel_rfl⟩
theorem tb55 : RowOk 337 (.row ⟨.no, 31, (.k 2), .v, [.Jb]⟩) := ⟨rE0_3, fun a w => by kernel_rfl⟩
theorem tb56 : RowOk 341 (.row ⟨.no, 38, (.k 0), (.k 1), [.Ib, .A]⟩) := ⟨rE0_7, fun a w => by kernel_rfl⟩
theorem tb57 : RowOk 346 (.row ⟨.no, 34, (.k 0), .v, [.Far]⟩) := ⟨rE0_11, fun a w => by kernel_rfl⟩
theorem tb58 : RowOk 352 (.row ⟨.no, 38, (.k 0), (.k 1), [.DX, .A]⟩) := ⟨rE0_15, fun a w => by kernel_rfl⟩
theorem tb59 : RowOk 359 (.row ⟨.no, 39, (.k 0), (.k 4), []⟩) := ⟨rE0_21, fun a w => by kernel_rfl⟩
theorem tb60 : RowOk 363 (.row ⟨.no, 39, (.k 3), (.k 4), []⟩) := ⟨rE0_25, fun a w => by kernel_rfl⟩
theorem tb61 : RowOk 369 (.row ⟨.no, 47, (.k 0), (.k 4), []⟩) := ⟨r0F_2, fun a w => by kernel_rfl⟩
theorem tb62 : RowOk 375 (.row ⟨.no, 28, .opc, .v, [.J]⟩) := ⟨r0F_6, fun a w => by kernel_rfl⟩
theorem tb63 : RowOk 379 (.row ⟨.no, 23, (.k 0), .v, [.E, .G]⟩) := ⟨r0F_10, fun a w => by kernel_rfl⟩
theorem tb64 : RowOk 383 (.row ⟨.no, 13, (.k 0), .v, [.Seg 5]⟩) := ⟨r0F_14, fun a w => by kernel_rfl⟩
theorem tb65 : RowOk 387 (.row ⟨.no, 5, (.k 0), .v, [.G, .E]⟩) := ⟨r0F_18, fun a w => by kernel_rfl⟩
theorem tb66 : RowOk 394 (.row ⟨.no, 23, (.k 3), .v, [.E, .G]⟩) := ⟨r0F_23, fun a w => by kernel_rfl⟩
theorem tb67 : RowOk 398 (.row ⟨.no, 9, (.k 1), .v, [.G, .Ew]⟩) := ⟨r0F_27, fun a w => by kernel_rfl⟩
theorem tb68 : RowOk 236 (.row ⟨.no, 1, .opn, (.k 1), [.G, .E]⟩) := ⟨r00_3, fun a w => by kernel_rfl⟩
theorem tb69 : RowOk 242 (.row ⟨.no, 12, (.k 0), .v, [.Seg 0]⟩) := ⟨r00_7, fun a w => by kernel_rfl⟩
theorem tb70 : RowOk 247 (.row ⟨.no, 13, (.k 0), .v, [.Seg 0]⟩) := ⟨r00_11, fun a w => by kernel_rfl⟩
theorem tb71 : RowOk 251 (.row ⟨.no, 7, (.k 1), (.k 1), []⟩) := ⟨r00_15, fun a w => by kernel_rfl⟩
theorem tb72 : RowOk 256 (.row ⟨.no, 1, (.k 10), .v, [.R]⟩) := ⟨r40_2, fun a w => by kernel_rfl⟩
theorem tb73 : RowOk 260 (.row ⟨.no, 15, (.k 0), .v, []⟩) := ⟨r40_6, fun a w => by kernel_rfl⟩
theorem tb74 : RowOk 265 (.row ⟨.no, 5, (.k 0), .v, [.G, .E, .Is]⟩) := ⟨r40_10, fun a w => by kernel_rfl⟩
theorem tb75 : RowOk 272 (.row ⟨.no, 1, .mn, .v, [.E, .Is]⟩) := ⟨r80_3, fun a w => by kernel_rfl⟩
theorem tb76 : RowOk 276 (.row ⟨.no, 10, (.k 0), .v, [.E, .G]⟩) := ⟨r80_7, fun a w => by kernel_rfl⟩
theorem tb77 : RowOk 280 (.row ⟨.no, 8, (.k 0), .v, [.G, .E]⟩) := ⟨r80_11, fun a w => by kernel_rfl⟩
theorem tb78 : RowOk 288 (.row ⟨.no, 21, (.k 0), .v, []⟩) := ⟨r80_15, fun a w => by kernel_rfl⟩
theorem tb79 : RowOk 292 (.row ⟨.no, 19, (.k 0), (.k 1), []⟩) := ⟨r80_19, fun a w => by kernel_rfl⟩
theorem tb80 : RowOk 297 (.row ⟨.no, 8, (.k 0), (.k 1), [.O, .A]⟩) := ⟨rA0_3, fun a w => by kernel_rfl⟩
theorem tb81 : RowOk 302 (.str 1 (.k 1)) := ⟨rA0_7, fun a w => by kernel_rfl⟩
theorem tb82 : RowOk 306 (.str 2 (.k 1)) := ⟨rA0_11, fun a w => by kernel_rfl⟩
theorem tb83 : RowOk 310 (.str 4 (.k 1)) := ⟨rA0_15, fun a w => by kernel_rfl⟩
theorem tb84 : RowOk 314 (.row ⟨.no, 2, .mn, (.k 1), [.E, .Ib]⟩) := ⟨rC0_1, fun a w => by kernel_rfl⟩
theorem tb85 : RowOk 321 (.row ⟨(.only [0]), 8, (.k 0), (.k 1), [.E, .I]⟩) := ⟨rC0_5, fun a w => by kernel_rfl⟩
theorem tb86 : RowOk 325 (.row ⟨.no, 32, (.k 0), (.k 4), [.Ib]⟩) := ⟨rC0_9, fun a w => by kernel_rfl⟩
theorem tb87 : RowOk 329 (.row ⟨.no, 2, .mn, .v, [.E, .Num 1]⟩) := ⟨rC0_13, fun a w => by kernel_rfl⟩
theorem tb88 : RowOk 334 (.row ⟨.no, 7, (.k 5), (.k 1), [.I]⟩) := ⟨rC0_17, fun a w => by kernel_rfl⟩
theorem tb89 : RowOk 338 (.row ⟨.no, 31, (.k 3), .v, [.Jb]⟩) := ⟨rE0_4, fun a w => by kernel_rfl⟩
theorem tb90 : RowOk 342 (.row ⟨.no, 38, (.k 0), .v, [.Ib, .A]⟩) := ⟨rE0_8, fun a w => by kernel_rfl⟩
theorem tb91 : RowOk 348 (.row ⟨.no, 27, (.k 0), .v, [.Jb]⟩) := ⟨rE0_12, fun a w => by kernel_rfl⟩
theorem tb92 : RowOk 353 (.row ⟨.no, 38, (.k 0), .v, [.DX, .A]⟩) := ⟨rE0_16, fun a w => by kernel_rfl⟩
theorem tb93 : RowOk 360 (.row ⟨.no, 39, (.k 1), (.k 4), []⟩) := ⟨rE0_22, fun a w => by kernel_rfl⟩
theorem tb94 : RowOk 364 (.row ⟨.no, 39, (.k 4), (.k 4), []⟩) := ⟨rE0_26, fun a w => by kernel_rfl⟩
theorem tb95 : RowOk 370 (.row ⟨(.only [0, 2, 3]), 45, (.k 0), (.k 4), [.Rm, .Cr]⟩) := ⟨r0F_3, fun a w => by kernel_rfl⟩
theorem tb96 : RowOk 376 (.row ⟨.no, 25, .opc, (.k 1), [.E]⟩) := ⟨r0F_7, fun a w => by kernel_rfl⟩
theorem tb97 : RowOk 380 (.row ⟨.no, 3, (.k 0), .v, [.E, .G, .Ib]⟩) := ⟨r0F_11, fun a w => by kernel_rfl⟩
theorem tb98 : RowOk 384 (.row ⟨.no, 23, (.k 1), .v, [.E, .G]⟩) := ⟨r0F_15, fun a w => by kernel_rfl⟩
theorem tb99 : RowOk 388 (.row ⟨.no, 23, (.k 2), .v, [.E, .G]⟩) := ⟨r0F_19, fun a w => by kernel_rfl⟩
theorem tb100 : RowOk 395 (.row ⟨.no, 24, (.k 0), .v, [.G, .E]⟩) := ⟨r0F_24, fun a w => by kernel_rfl⟩
theorem tb101 : RowOk 399 (.row ⟨.no, 22, (.k 0), (.k 4), [.R]⟩) := ⟨r0F_28, fun a w => by kernel_rfl⟩
theorem tb102 : RowOk 237 (.row ⟨.no, 1, .opn, .v, [.G, .E]⟩) := ⟨r00_4, fun a w => by kernel_rfl⟩
theorem tb103 : RowOk 244 (.row ⟨.no, 12, (.k 0), .v, [.Seg 1]⟩) := ⟨r00_8, fun a w => by kernel_rfl⟩
theorem tb104 : RowOk 248 (.row ⟨.no, 13, (.k 0), .v, [.Seg 2]⟩) := ⟨r00_12, fun a w => by kernel_rfl⟩
theorem tb105 : RowOk 252 (.row ⟨.no, 7, (.k 2), (.k 1), []⟩) := ⟨r00_16, fun a w => by kernel_rfl⟩
theorem tb106 : RowOk 257 (.row ⟨.no, 12, (.k 0), .v, [.R]⟩) := ⟨r40_3, fun a w => by kernel_rfl⟩
theorem tb107 : RowOk 261 (.row ⟨.no, 12, (.k 0), .v, [.I]⟩) := ⟨r40_7, fun a w => by kernel_rfl⟩
theorem tb108 : RowOk 266 (.row ⟨.no, 28, .opc, .v, [.Jb]⟩) := ⟨r40_11, fun a w => by kernel_rfl⟩
theorem tb109 : RowOk 273 (.row ⟨.no, 1, (.k 8), (.k 1), [.E, .G]⟩) := ⟨r80_4, fun a w => by kernel_rfl⟩
theorem tb110 : RowOk 277 (.row ⟨.no, 8, (.k 0), (.k 1), [.E, .G]⟩) := ⟨r80_8, fun a w => by kernel_rfl⟩
theorem tb111 : RowOk 284 (.row ⟨(.only [0]), 13, (.k 0), .v, [.E]⟩) := ⟨r80_12, fun a w => by kernel_rfl⟩
theorem tb112 : RowOk 289 (.row ⟨.no, 16, (.k 0), .v, []⟩) := ⟨r80_16, fun a w => by kernel_rfl⟩
theorem tb113 : RowOk 293 (.row ⟨.no, 41, (.k 0), (.k 4), []⟩) := ⟨r80_20, fun a w => by kernel_rfl⟩
theorem tb114 : RowOk 298 (.row ⟨.no, 8, (.k 0), .v, [.O, .A]⟩) := ⟨rA0_4, fun a w => by kernel_rfl⟩
theorem tb115 : RowOk 303 (.str 1 .v) := ⟨rA0_8, fun a w => by kernel_rfl⟩
theorem tb116 : RowOk 307 (.str 2 .v) := ⟨rA0_12, fun a w => by kernel_rfl⟩
theorem tb117 : RowOk 311 (.str 4 .v) := ⟨rA0_16, fun a w => by kernel_rfl⟩
theorem tb118 : RowOk 316 (.row ⟨.no, 2, .mn, .v, [.E, .Ib]⟩) := ⟨rC0_2, fun a w => by kernel_rfl⟩
theorem tb119 : RowOk 322 (.row ⟨(.only [0]), 8, (.k 0), .v, [.E, .I]⟩) := ⟨rC0_6, fun a w => by kernel_rfl⟩
theorem tb120 : RowOk 326 (.row ⟨.no, 32, (.k 2), (.k 4), [.Num 4]⟩) := ⟨rC0_10, fun a w => by kernel_rfl⟩
theorem tb121 : RowOk 330 (.row ⟨.no, 2, .mn, (.k 1), [.E, .CL]⟩) := ⟨rC0_14, fun a w => by kernel_rfl⟩
theorem tb122 : RowOk 335 (.row ⟨.no, 31, (.k 0), .v, [.Jb]⟩) := ⟨rE0_1, fun a w => by kernel_rfl⟩
theorem tb123 : RowOk 339 (.row ⟨.no, 37, (.k 0), (.k 1), [.A, .Ib]⟩) := ⟨rE0_5, fun a w => by kernel_rfl⟩
theorem tb124 : RowOk 343 (.row ⟨.no, 29, (.k 0), .v, [.J]⟩) := ⟨rE0_9, fun a w => by kernel_rfl⟩
theorem tb125 : RowOk 349 (.row ⟨.no, 37, (.k 0), (.k 1), [.A, .DX]⟩) := ⟨rE0_13, fun a w => by kernel_rfl⟩
theorem tb126 : RowOk 354 (.row ⟨.no, 40, (.k 0), (.k 4), []⟩) := ⟨rE0_17, fun a w => by kernel_rfl⟩
theorem tb127 : RowOk 361 (.row ⟨.no, 39, (.k 5), (.k 4), []⟩) := ⟨rE0_23, fun a w => by kernel_rfl⟩
theorem tb128 : RowOk 365 (.row ⟨(.only [0, 1]), 1, .mp9, (.k 1), [.E]⟩) := ⟨rE0_27, fun a w => by kernel_rfl⟩
theorem tb129 : RowOk 373 (.row ⟨(.only [0, 2, 3]), 45, (.k 0), (.k 4), [.Cr, .Rm]⟩) := ⟨r0F_4, fun a w => by kernel_rfl⟩
theorem tb130 : RowOk 377 (.row ⟨.no, 12, (.k 0), .v, [.Seg 4]⟩) := ⟨r0F_8, fun a w => by kernel_rfl⟩
theorem tb131 : RowOk 381 (.row ⟨.no, 3, (.k 0), .v, [.E, .G, .CL]⟩) := ⟨r0F_12, fun a w => by kernel_rfl⟩
theorem tb132 : RowOk 385 (.row ⟨.no, 3, (.k 1), .v, [.E, .G, .Ib]⟩) := ⟨r0F_16, fun a w => by kernel_rfl⟩
theorem tb133 : RowOk 389 (.row ⟨.no, 9, (.k 0), .v, [.G, .Eb]⟩) := ⟨r0F_20, fun a w => by kernel_rfl⟩
theorem tb134 : RowOk 396 (.row ⟨.no, 24, (.k 1), .v, [.G, .E]⟩) := ⟨r0F_25, fun a w => by kernel_rfl⟩
theorem tb135 : RowOk 393 (.row ⟨(.only [4, 5, 6, 7]), 23, .mm4, .v, [.E, .Ib]⟩) := ⟨r0F_22, fun a w => by kernel_rfl⟩
theorem tb136 : RowOk 356 (.un (.k 1)) := ⟨rE0_19, fun a w => by kernel_rfl⟩
theorem tb137 : RowOk 358 (.un .v) := ⟨rE0_20, fun a w => by kernel_rfl⟩
theorem tb138 : RowOk 366 (.ff) := ⟨gFF_ok, fun a w => by kernel_rfl⟩
theorem tb139 : RowOk 368 (.sys) := ⟨gSys_ok, fun a w => by kernel_rfl⟩
theorem tb140 : RowOk 282 (.row ⟨.mem, 11, .k 0, .v, [.G, .E]⟩) := ⟨gLea_ok, fun a w => by kernel_rfl⟩
theorem tb141 : RowOk 283 (.to) := ⟨gTo_ok, fun a w => by kernel_rfl⟩
theorem tb142 : RowOk 281 (.frm) := ⟨gFrom_ok, fun a w => by kernel_rfl⟩
theorem tab_ok : ∀ e ∈ tab, RowOk e.1 e.2 := by
  unfold tab
  simp only [List.forall_mem_cons]
  exact ⟨tb0, tb1, tb2, tb3, tb4, tb5, tb6, tb7, tb8, tb9, tb10, tb11, tb12, tb13, tb14, tb15, tb16, tb17, tb18, tb19, tb20, tb21, tb22, tb23, tb24, tb25, tb26, tb27, tb28, tb29, tb30, tb31, tb32, tb33, tb34, tb35, tb36, tb37, tb38, tb39, tb40, tb41, tb42, tb43, tb44, tb45, tb46, tb47, tb48, tb49, tb50, tb51, tb52, tb53, tb54, tb55, tb56, tb57, tb58, tb59, tb60, tb61, tb62, tb63, tb64, tb65, tb66, tb67, tb68, tb69, tb70, tb71, tb72, tb73, tb74, tb75, tb76, tb77, tb78, tb79, tb80, tb81, tb82, tb83, tb84, tb85, tb86, tb87, tb88, tb89, tb90, tb91, tb92, tb93, tb94, tb95, tb96, tb97, tb98, tb99, tb100, tb101, tb102, tb103, tb104, tb105, tb106, tb107, tb108, tb109, tb110, tb111, tb112, tb113, tb114, tb115, tb116, tb117, tb118, tb119, tb120, tb121, tb122, tb123, tb124, tb125, tb126, tb127, tb128, tb129, tb130, tb131, tb132, tb133, tb134, tb135, tb136, tb137, tb138, tb139, tb140, tb141, tb142, fun _ h => by cases h⟩
theorem tabOk : TabOk ruleOf := by
  intro op h0 h1
  unfold ruleOf
  cases h : rowOf op with
  | none => exact Or.inl ⟨rfl, rfl⟩
  | some n =>
    have a := ruleOf_all ⟨op.toNat, by omega⟩
    simp only [Int.toNat_of_nonneg h0, h, Option.all_some] at a
    obtain ⟨r, hr⟩ := Option.isSome_iff_exists.1 a
    exact Or.inr ⟨n, r, rfl, hr, tab_ok _ (lookN_mem _ _ _ hr)⟩
end Go.Proofs.YtiagfmkinefidaaGreat.Dc
