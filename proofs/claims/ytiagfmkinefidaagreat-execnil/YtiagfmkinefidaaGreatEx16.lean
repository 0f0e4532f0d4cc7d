/- The bus and its devices: DecShp1, DecShp2. -/
import Derived.Test.YtiagfmkinefidaaGreatEx11
import Derived.Deep.RegionHeld3
namespace Go.Proofs.YtiagfmkinefidaaGreat.Dc
open Go.ChangeShapes Go.WideShapes Go.ChangeAt Go.RowKit
set_option linter.unusedVariables false
set_option maxRecDepth 100000
def oG (d : Option Nat) (o : Op) (t : Nat) (q : String) (a : Array Edge) : Oper := { dst := d, op := o, type := t, pos := q, after := a, guard := none }
def gD (n : Nat) : Edge := { on := n, ground := Ground.data }
def gC (n : Nat) : Edge := { on := n, ground := Ground.chain }
set_option maxHeartbeats 4000000 in
theorem shp0 {k : Nat} {fn : Func} (q : String) (a s : Int) {F1 F2 : Nat} {p1 p2 : Cx → Int → Sg → Opd × Sg} (hf : Tryz.prog.funcs[k]? = some fn) (h3 : fn.ntmps = 7 ∧ fn.results = #[] ∧ fn.body = some (Code.region 0 #[oG (some 2) (.move (.tmp 0)) 199 q #[], oG (some 3) (.move (.tmp 0)) 199 q #[], oG (some 4) (.call { callee := .value (.func 232), args := #[.tmp 3], argTypes := #[199] }) 3 q #[gD 1], oG (some 5) (.buildSlice 331 2 #[(0, .func F1), (1, .func F2)]) 331 q #[], oG (some 6) (.call { callee := .value (.func 231), args := #[.tmp 2, .const (.int .i64 a), .tmp 4, .const (.int .i64 s), .tmp 5], argTypes := #[199, 3, 3, 3, 331] }) 0 q #[gD 0, gD 2, gD 3, gC 2]] false)) (hsz : s = 1 ∨ s = 2 ∨ s = 4) (o1 : ∀ {X : Cx} {w0 : World} {z : Int}, (z = 1 ∨ z = 2 ∨ z = 4) → PartOk X w0 F1 #[] p1 z) (o2 : ∀ {X : Cx} {w0 : World} {z : Int}, (z = 1 ∨ z = 2 ∨ z = 4) → PartOk X w0 F2 #[] p2 z) : RuleOk k (fun X σ => isM X a (σ.op / 8 % 8) s [p1, p2] σ) := by
  intro w X σ h
  have f3 := h.f3
  have hF := h.ltF
  have hfre := h.fresh
  have Hst : Hid (St X w σ) := h
  have Hfre : Hid (¬ X.own w.heap.size) := hfre
  clear h hfre
  have HP : Hid (∀ W : World, ∀ p ∈ ([⟨F1, #[], p1⟩, ⟨F2, #[], p2⟩] : List Prt), PartOk X W p.n p.cap p.f s) := by
    intro W p hp
    simp at hp
    rcases hp with rfl | rfl
    · exact o1 hsz
    · exact o2 hsz
  obtain ⟨hn, hr, hb⟩ := h3
  refine calls_of_wp hf hb ?_
  simp only [hn, oG, gD, gC, List.size_toArray, List.length_cons, List.length_nil, Nat.reduceAdd, Nat.reduceSub, Array.replicate_succ, Array.replicate_zero, List.push_toArray, List.append_toArray, List.nil_append, List.cons_append]
  go_wp2_with fail
  refine (n_ok _ X σ Hst.out).mono ?_; rintro e w0 ⟨rfl, hw⟩; replace hw := hw.symm; subst hw
  go_wp2_with fail
  have cI := is_gen (w.alloc (.cells #[.func (.func F1) #[] #[], .func (.func F2) #[] #[]] 291)) X σ (Hst.out.alloc _) a (σ.op / 8 % 8) s w.heap.size [⟨F1, #[], p1⟩, ⟨F2, #[], p2⟩] (by simp) (Hst.out.fresh) (MapKept.heap_alloc w (.cells #[.func (.func F1) #[] #[], .func (.func F2) #[] #[]] 291)).1 (HP.out _)
  refine cI.mono ?_; rintro e w2 ⟨rfl, hd⟩
  have hk := ((Kp.alloc X.own _ _)).trans hd.2
  have hs9 := hd.1
  clear hd
  go_wp2
  refine bodyPost_end (results_none hr _ _ _) rfl ?_
  exact ⟨rfl, hs9, hk⟩
set_option maxHeartbeats 4000000 in
theorem shp3 {k : Nat} {fn : Func} (q : String) (a b s : Int) (hf : Tryz.prog.funcs[k]? = some fn) (h3 : fn.ntmps = 4 ∧ fn.results = #[] ∧ fn.body = some (Code.region 0 #[oG (some 2) (.move (.tmp 0)) 199 q #[], oG (some 3) (.call { callee := .value (.func 231), args := #[.tmp 2, .const (.int .i64 a), .const (.int .i64 b), .const (.int .i64 s), .const (.slice none 0 0)], argTypes := #[199, 3, 3, 3, 331] }) 0 q #[gD 0]] false)) (hsz : s = 1 ∨ s = 2 ∨ s = 4) : RuleOk k (fun X σ => isM X a b s [] σ) := by
  intro w X σ h
  have f3 := h.f3
  have hF := h.ltF
  have hfre := h.fresh
  have Hst : Hid (St X w σ) := h
  have Hfre : Hid (¬ X.own w.heap.size) := hfre
  clear h hfre
  obtain ⟨hn, hr, hb⟩ := h3
  refine calls_of_wp hf hb ?_
  simp only [hn, oG, gD, List.size_toArray, List.length_cons, List.length_nil, Nat.reduceAdd, Nat.reduceSub, Array.replicate_succ, Array.replicate_zero, List.push_toArray, List.append_toArray, List.nil_append, List.cons_append]
  go_wp2_with fail
  refine (is_nil _ X σ Hst.out a b s).mono ?_; rintro e w2 ⟨rfl, hd⟩
  have hk := hd.2
  have hs9 := hd.1
  clear hd
  go_wp2
  refine bodyPost_end (results_none hr _ _ _) rfl ?_
  exact ⟨rfl, hs9, hk⟩
set_option maxHeartbeats 4000000 in
theorem shp6 {k : Nat} {fn : Func} (q : String) (a b : Int) {F1 F2 F3 : Nat} {p1 p2 p3 : Cx → Int → Sg → Opd × Sg} (hf : Tryz.prog.funcs[k]? = some fn) (h3 : fn.ntmps = 9 ∧ fn.results = #[] ∧ fn.body = some (Code.region 0 #[oG (some 2) (.move (.tmp 0)) 199 q #[], oG (some 3) (.move (.tmp 0)) 199 q #[], oG (some 4) (.nilCheck (.tmp 3)) 0 q #[gD 1], oG (some 5) (.fieldAddr 203 (.tmp 4) 3) 0 q #[gD 2], oG (some 6) (.load 3 (.tmp 5)) 3 q #[gD 3], oG (some 7) (.buildSlice 331 3 #[(0, .func F1), (1, .func F2), (2, .func F3)]) 331 q #[], oG (some 8) (.call { callee := .value (.func 231), args := #[.tmp 2, .const (.int .i64 a), .const (.int .i64 b), .tmp 6, .tmp 7], argTypes := #[199, 3, 3, 3, 331] }) 0 q #[gD 0, gD 4, gD 5]] false)) (o1 : ∀ {X : Cx} {w0 : World} {z : Int}, (z = 1 ∨ z = 2 ∨ z = 4) → PartOk X w0 F1 #[] p1 z) (o2 : ∀ {X : Cx} {w0 : World} {z : Int}, (z = 1 ∨ z = 2 ∨ z = 4) → PartOk X w0 F2 #[] p2 z) (o3 : ∀ {X : Cx} {w0 : World} {z : Int}, (z = 1 ∨ z = 2 ∨ z = 4) → PartOk X w0 F3 #[] p3 z) : RuleOk k (fun X σ => isM X a b σ.v [p1, p2, p3] σ) := by
  intro w X σ h
  have f3 := h.f3
  have hF := h.ltF
  have hfre := h.fresh
  have Hst : Hid (St X w σ) := h
  have Hfre : Hid (¬ X.own w.heap.size) := hfre
  clear h hfre
  have HP : Hid (∀ W : World, ∀ p ∈ ([⟨F1, #[], p1⟩, ⟨F2, #[], p2⟩, ⟨F3, #[], p3⟩] : List Prt), PartOk X W p.n p.cap p.f σ.v) := by
    intro W p hp
    simp at hp
    rcases hp with rfl | rfl | rfl
    · exact o1 Hst.out.vs
    · exact o2 Hst.out.vs
    · exact o3 Hst.out.vs
  obtain ⟨hn, hr, hb⟩ := h3
  refine calls_of_wp hf hb ?_
  simp only [hn, oG, gD, List.size_toArray, List.length_cons, List.length_nil, Nat.reduceAdd, Nat.reduceSub, Array.replicate_succ, Array.replicate_zero, List.push_toArray, List.append_toArray, List.nil_append, List.cons_append]
  go_wp2_with fail
  have cI := is_gen (w.alloc (.cells #[.func (.func F1) #[] #[], .func (.func F2) #[] #[], .func (.func F3) #[] #[]] 291)) X σ (Hst.out.alloc _) a b σ.v w.heap.size [⟨F1, #[], p1⟩, ⟨F2, #[], p2⟩, ⟨F3, #[], p3⟩] (by simp) (Hst.out.fresh) (MapKept.heap_alloc w (.cells #[.func (.func F1) #[] #[], .func (.func F2) #[] #[], .func (.func F3) #[] #[]] 291)).1 (HP.out _)
  refine cI.mono ?_; rintro e w2 ⟨rfl, hd⟩
  have hk := ((Kp.alloc X.own _ _)).trans hd.2
  have hs9 := hd.1
  clear hd
  go_wp2
  refine bodyPost_end (results_none hr _ _ _) rfl ?_
  exact ⟨rfl, hs9, hk⟩
set_option maxHeartbeats 4000000 in
theorem shp9 {k : Nat} {fn : Func} (q : String) (a : Int) {F1 F2 : Nat} {p1 p2 : Cx → Int → Sg → Opd × Sg} (hf : Tryz.prog.funcs[k]? = some fn) (h3 : fn.ntmps = 12 ∧ fn.results = #[] ∧ fn.body = some (Code.region 0 #[oG (some 2) (.move (.tmp 0)) 199 q #[], oG (some 3) (.move (.tmp 0)) 199 q #[], oG (some 4) (.call { callee := .value (.func 270), args := #[.tmp 3], argTypes := #[199] }) 294 q #[gD 1], oG (some 5) (.field 294 (.tmp 4) 1) 3 q #[gD 2], oG (some 6) (.move (.tmp 0)) 199 q #[], oG (some 7) (.nilCheck (.tmp 6)) 0 q #[gD 4], oG (some 8) (.fieldAddr 203 (.tmp 7) 3) 0 q #[gD 5], oG (some 9) (.load 3 (.tmp 8)) 3 q #[gD 6], oG (some 10) (.buildSlice 331 2 #[(0, .func F1), (1, .func F2)]) 331 q #[], oG (some 11) (.call { callee := .value (.func 231), args := #[.tmp 2, .const (.int .i64 a), .tmp 5, .tmp 9, .tmp 10], argTypes := #[199, 3, 3, 3, 331] }) 0 q #[gD 0, gD 3, gD 7, gD 8, gC 2]] true)) (o1 : ∀ {X : Cx} {w0 : World} {z : Int}, (z = 1 ∨ z = 2 ∨ z = 4) → PartOk X w0 F1 #[] p1 z) (o2 : ∀ {X : Cx} {w0 : World} {z : Int}, (z = 1 ∨ z = 2 ∨ z = 4) → PartOk X w0 F2 #[] p2 z) (v1 : KeepsV p1) (v2 : KeepsV p2) : RuleOk k (fun X σ => isM X a (modrm X σ).1.2.1 σ.v [p1, p2] (modrm X σ).2) := by
  intro w X σ h
  have f3 := h.f3
  have hF := h.ltF
  have hfre := h.fresh
  have cM := fun W (hW : St X W σ) => modrm_ok W X σ hW
  have hv1 := modrm_v X σ
  have hbd := modrm_bd h
  obtain ⟨⟨m, n, r⟩, hm⟩ : ∃ x, x = (modrm X σ).1 := ⟨_, rfl⟩
  obtain ⟨σ1, hσ1⟩ : ∃ σ1, σ1 = (modrm X σ).2 := ⟨_, rfl⟩
  obtain ⟨V, hV⟩ : ∃ V, V = isM X a n σ.v [p1, p2] σ1 := ⟨_, rfl⟩
  show Calls _ _ _ _ fun e w' => _ ∧ Done X w (isM X a (modrm X σ).1.2.1 σ.v [p1, p2] (modrm X σ).2) w'
  rw [show isM X a (modrm X σ).1.2.1 σ.v [p1, p2] (modrm X σ).2 = V by rw [hV, hσ1, ← hm]]
  simp only [← hm, ← hσ1, mrV] at cM hv1 hbd
  obtain ⟨_, ⟨n0, n1⟩, _⟩ := hbd
  have fl1 := fld1
  have HV : Hid (V = isM X a n σ.v [p1, p2] σ1) := hV
  have Hv1 : Hid (σ1.v = σ.v) := hv1
  have HM : Hid _ := cM
  clear hm hσ1 hV hv1 cM
  have Hst : Hid (St X w σ) := h
  have Hfre : Hid (¬ X.own w.heap.size) := hfre
  clear h hfre
  have HP : Hid (∀ W : World, ∀ p ∈ ([⟨F1, #[], p1⟩, ⟨F2, #[], p2⟩] : List Prt), PartOk X W p.n p.cap p.f σ.v) := by
    intro W p hp
    simp at hp
    rcases hp with rfl | rfl
    · exact o1 Hst.out.vs
    · exact o2 Hst.out.vs
  obtain ⟨hn, hr, hb⟩ := h3
  refine calls_of_wp hf hb ?_
  simp only [hn, oG, gD, gC, List.size_toArray, List.length_cons, List.length_nil, Nat.reduceAdd, Nat.reduceSub, Array.replicate_succ, Array.replicate_zero, List.push_toArray, List.append_toArray, List.nil_append, List.cons_append]
  have Hd0 : Hid (St X w.drew σ) := Hst.out.drewN 1
  have Kd0 : Hid (Kp X.own w w.drew) := (Kp.refl _ _).drewN 1
  have Hd1 : Hid (St X (w.alloc (.cells #[.func (.func F1) #[] #[], .func (.func F2) #[] #[]] 291)).drew σ) := (Hst.out.alloc _).drewN 1
  have Kd1 : Hid (Kp X.own w (w.alloc (.cells #[.func (.func F1) #[] #[], .func (.func F2) #[] #[]] 291)).drew) := (Kp.alloc _ _ _).drewN 1
  have Hh1 : Hid ((w.alloc (.cells #[.func (.func F1) #[] #[], .func (.func F2) #[] #[]] 291)).drew.heap[w.heap.size]? = some (.cells #[.func (.func F1) #[] #[], .func (.func F2) #[] #[]] 291)) := (MapKept.heap_alloc w _).1
  have KV : Hid ((isM X a n σ.v [p1, p2] σ1).v = σ.v) := (isM_v X _ _ _ _ _ ((kC v1 (kC v2 kN)))).trans Hv1.out
  have S0 : Hid (w.drew.cell? ⟨X.F, 3, none⟩ = some (.int .i64 σ.v)) := Hd0.out.f3
  have S1 : Hid (∀ o : Obj, (w.drew.alloc o).cell? ⟨X.F, 3, none⟩ = some (.int .i64 σ.v)) := fun o => (Hd0.out.alloc o).f3
  have S2 : Hid (∀ o o2 : Obj, ((w.drew.alloc o).alloc o2).cell? ⟨X.F, 3, none⟩ = some (.int .i64 σ.v)) := fun o o2 => ((Hd0.out.alloc o).alloc o2).f3
  have S3 : Hid (∀ W, St X W σ1 → ∀ o : Obj, (W.alloc o).cell? ⟨X.F, 3, none⟩ = some (.int .i64 σ.v)) := fun W h o => by rw [← Hv1.out]; exact (h.alloc o).f3
  have S4 : Hid (∀ W, St X W σ1 → ∀ o o2 : Obj, ((W.alloc o).alloc o2).cell? ⟨X.F, 3, none⟩ = some (.int .i64 σ.v)) := fun W h o o2 => by rw [← Hv1.out]; exact ((h.alloc o).alloc o2).f3
  go_region_held3 (fun W => W.cell? ⟨X.F, 3, none⟩ = some (.int .i64 σ.v))
    (first | exact S0.out | exact S1.out _ | exact S2.out _ _ | exact S3.out _ h1 _ | exact S4.out _ h1 _ _ | assumption)
    (first
    | (go_at_call 270; refine Calls.mono (HM.out _ ?_) ?_; (first | exact Hd0.out | exact Hd1.out); rintro e w1 ⟨rfl, h1, k1⟩; have g3 : w1.cell? ⟨X.F, 3, none⟩ = some (.int .i64 σ.v) := (by rw [← Hv1.out]; exact h1.f3); have gF := h1.ltF; (try have hsl := heap_kept Hh1.out k1 Hfre.out))
    | (go_at_call 231; first | (have cI := is_gen w1 X σ1 h1 a n σ.v w.heap.size [⟨F1, #[], p1⟩, ⟨F2, #[], p2⟩] (by simp) Hfre.out hsl (HP.out _); refine cI.mono ?_; rintro e w2 ⟨rfl, hd⟩; have s9 : w2.cell? ⟨X.F, 3, none⟩ = some (.int .i64 σ.v) := (by rw [← KV.out]; exact hd.1.f3); have hk := (Kd1.out.trans k1).trans hd.2) | (have cI := is_gen (w1.alloc (.cells #[.func (.func F1) #[] #[], .func (.func F2) #[] #[]] 291)) X σ1 (h1.alloc _) a n σ.v w1.heap.size [⟨F1, #[], p1⟩, ⟨F2, #[], p2⟩] (by simp) h1.fresh (MapKept.heap_alloc w1 (.cells #[.func (.func F1) #[] #[], .func (.func F2) #[] #[]] 291)).1 (HP.out _); refine cI.mono ?_; rintro e w2 ⟨rfl, hd⟩; have s9 : w2.cell? ⟨X.F, 3, none⟩ = some (.int .i64 σ.v) := (by rw [← KV.out]; exact hd.1.f3); have hk := ((Kd0.out.trans k1).trans (Kp.alloc X.own w1 _)).trans hd.2)))
  all_goals
    have hs9 := hd.1
    clear hd
    go_wp2
    refine bodyPost_end (results_none hr _ _ _) rfl ?_
    rw [HV.out]
    exact ⟨rfl, hs9, hk⟩
set_option maxHeartbeats 4000000 in
theorem shp12 {k : Nat} {fn : Func} (q : String) (l0 a b : Int) {F1 : Nat} {p1 : Cx → Int → Sg → Opd × Sg} (hf : Tryz.prog.funcs[k]? = some fn) (h3 : fn.ntmps = 12 ∧ fn.results = #[] ∧ fn.body = some ((Code.region 0 #[oG (some 2) (.move (.tmp 0)) 199 q #[], oG (some 3) (.buildSlice 141 1 #[(0, .const (.int .i64 l0))]) 141 q #[], oG (some 4) (.call { callee := .value (.func 285), args := #[.tmp 2, .tmp 3], argTypes := #[199, 141] }) 0 q #[gD 0, gD 1]] false).seq (Code.region 1 #[oG (some 5) (.move (.tmp 0)) 199 q #[], oG (some 6) (.move (.tmp 0)) 199 q #[], oG (some 7) (.nilCheck (.tmp 6)) 0 q #[gD 1], oG (some 8) (.fieldAddr 203 (.tmp 7) 3) 0 q #[gD 2], oG (some 9) (.load 3 (.tmp 8)) 3 q #[gD 3], oG (some 10) (.buildSlice 331 1 #[(0, .func F1)]) 331 q #[], oG (some 11) (.call { callee := .value (.func 231), args := #[.tmp 5, .const (.int .i64 a), .const (.int .i64 b), .tmp 9, .tmp 10], argTypes := #[199, 3, 3, 3, 331] }) 0 q #[gD 0, gD 4, gD 5]] false))) (o1 : ∀ {X : Cx} {w0 : World} {z : Int}, (z = 1 ∨ z = 2 ∨ z = 4) → PartOk X w0 F1 #[] p1 z) : RuleOk k (fun X σ => isM X a b (onlyM X [l0] σ).v [p1] (onlyM X [l0] σ)) := by
  intro w X σ h
  have hfre := h.fresh
  have h0 : St X (w.alloc (.cells #[.int .i64 l0] 3)) σ := h.alloc _
  have hn0 := (MapKept.heap_alloc w (.cells #[.int .i64 l0] 3)).1
  have cO := only_ok _ X σ h0 w.heap.size 1 [l0] rfl (by simp) hfre (fun j hj => by
    rcases (by omega : j = 0) with rfl <;> (unfold World.cell?; rw [hn0]; rfl))
  obtain ⟨σa, hσa⟩ : ∃ σa, σa = onlyM X [l0] σ := ⟨_, rfl⟩
  show Calls _ _ _ _ fun e w' => _ ∧ Done X w (isM X a b (onlyM X [l0] σ).v [p1] (onlyM X [l0] σ)) w'
  rw [← hσa] at cO ⊢
  clear hσa h h0 hn0
  obtain ⟨hn, hr, hb⟩ := h3
  refine calls_of_wp hf hb ?_
  simp only [hn, oG, gD, List.size_toArray, List.length_cons, List.length_nil, Nat.reduceAdd, Nat.reduceSub, Array.replicate_succ, Array.replicate_zero, List.push_toArray, List.append_toArray, List.nil_append, List.cons_append]
  go_wp2_with fail
  refine cO.mono ?_; rintro e wa ⟨rfl, h, ka⟩
  replace ka := (Kp.alloc X.own w _).trans ka
  clear cO hfre
  have f3 := h.f3
  have hF := h.ltF
  have hfre := h.fresh
  have Hst : Hid (St X wa σa) := h
  have Hfre : Hid (¬ X.own wa.heap.size) := hfre
  clear h hfre
  have HP : Hid (∀ W : World, ∀ p ∈ ([⟨F1, #[], p1⟩] : List Prt), PartOk X W p.n p.cap p.f σa.v) := by
    intro W p hp
    simp at hp
    subst hp
    exact o1 Hst.out.vs
  go_wp2_with fail
  have cI := is_gen (wa.alloc (.cells #[.func (.func F1) #[] #[]] 291)) X σa (Hst.out.alloc _) a b σa.v wa.heap.size [⟨F1, #[], p1⟩] (by simp) (Hst.out.fresh) (MapKept.heap_alloc wa (.cells #[.func (.func F1) #[] #[]] 291)).1 (HP.out _)
  refine cI.mono ?_; rintro e w2 ⟨rfl, hd⟩
  have hk := ((ka).trans (Kp.alloc X.own _ _)).trans hd.2
  have hs9 := hd.1
  clear hd
  go_wp2
  refine bodyPost_end (results_none hr _ _ _) rfl ?_
  exact ⟨rfl, hs9, hk⟩
set_option maxHeartbeats 4000000 in
theorem shp15 {k : Nat} {fn : Func} (q : String) (cv a b : Int) (hf : Tryz.prog.funcs[k]? = some fn) (h3 : fn.ntmps = 10 ∧ fn.results = #[] ∧ fn.body = some (Code.region 0 #[oG (some 2) (.move (.tmp 0)) 199 q #[], oG (some 3) (.move (.tmp 0)) 199 q #[], oG (some 4) (.nilCheck (.tmp 3)) 0 q #[gD 1], oG (some 5) (.fieldAddr 203 (.tmp 4) 3) 0 q #[gD 2], oG (some 6) (.load 3 (.tmp 5)) 3 q #[gD 3], oG (some 7) (.call { callee := .value (.func 320), args := #[.const (.int .u32 cv)], argTypes := #[23] }) 291 q #[], oG (some 8) (.buildSlice 331 1 #[(0, .tmp 7)]) 331 q #[gD 5], oG (some 9) (.call { callee := .value (.func 231), args := #[.tmp 2, .const (.int .i64 a), .const (.int .i64 b), .tmp 6, .tmp 8], argTypes := #[199, 3, 3, 3, 331] }) 0 q #[gD 0, gD 4, gD 6, gC 5]] true)) : RuleOk k (fun X σ => isM X a b σ.v [pNum cv] σ) := by
  intro w X σ h
  have f3 := h.f3
  have hF := h.ltF
  have hfre := h.fresh
  have Hst : Hid (St X w σ) := h
  have Hfre : Hid (¬ X.own w.heap.size) := hfre
  clear h hfre
  have HP : Hid (∀ (W : World) (q : Nat), ¬ X.own q → W.cell? ⟨q, 0, none⟩ = some (.int .u32 cv) → ∀ p ∈ ([⟨462, #[.pointer (some ⟨q, 0, none⟩)], pNum cv⟩] : List Prt), PartOk X W p.n p.cap p.f σ.v) := by
    intro W q hq hc p hp
    simp at hp
    subst hp
    exact num_ok hq hc
  obtain ⟨hn, hr, hb⟩ := h3
  refine calls_of_wp hf hb ?_
  simp only [hn, oG, gD, gC, List.size_toArray, List.length_cons, List.length_nil, Nat.reduceAdd, Nat.reduceSub, Array.replicate_succ, Array.replicate_zero, List.push_toArray, List.append_toArray, List.nil_append, List.cons_append]
  have Hd0 : Hid (St X w.drew σ) := Hst.out.drewN 1
  have Kd0 : Hid (Kp X.own w w.drew) := (Kp.refl _ _).drewN 1
  have Hd2 : Hid (St X ((w.alloc (.cells #[.int .u32 cv] 23)).alloc (.cells #[.func (.func 462) #[] #[.pointer (some ⟨w.heap.size, 0, none⟩)]] 291)).drew σ) := ((Hst.out.alloc _).alloc _).drewN 1
  have Kd2 : Hid (Kp X.own w ((w.alloc (.cells #[.int .u32 cv] 23)).alloc (.cells #[.func (.func 462) #[] #[.pointer (some ⟨w.heap.size, 0, none⟩)]] 291)).drew) := ((Kp.alloc X.own w _).trans (Kp.alloc X.own _ _)).drewN 1
  have Hh2 : Hid (((w.alloc (.cells #[.int .u32 cv] 23)).alloc (.cells #[.func (.func 462) #[] #[.pointer (some ⟨w.heap.size, 0, none⟩)]] 291)).drew.heap[w.heap.size + 1]? = some (.cells #[.func (.func 462) #[] #[.pointer (some ⟨w.heap.size, 0, none⟩)]] 291)) := heap2 w _ _
  have Hc2 : Hid (((w.alloc (.cells #[.int .u32 cv] 23)).alloc (.cells #[.func (.func 462) #[] #[.pointer (some ⟨w.heap.size, 0, none⟩)]] 291)).drew.cell? ⟨w.heap.size, 0, none⟩ = some (.int .u32 cv)) := cell_kept (cell_new w (.int .u32 cv) 23) ((Kp.alloc X.own _ _).drewN 1) Hfre.out
  have Hf2 : Hid (¬ X.own (w.heap.size + 1)) := Hst.out.fresh1
  have KV : Hid ((isM X a b σ.v [pNum cv] σ).v = σ.v) := (isM_v X _ _ _ _ _ ((kC (vNum cv) kN))).trans rfl
  have S0 : Hid (w.drew.cell? ⟨X.F, 3, none⟩ = some (.int .i64 σ.v)) := Hd0.out.f3
  have S1 : Hid (∀ o : Obj, (w.drew.alloc o).cell? ⟨X.F, 3, none⟩ = some (.int .i64 σ.v)) := fun o => (Hd0.out.alloc o).f3
  have S2 : Hid (∀ o o2 : Obj, ((w.drew.alloc o).alloc o2).cell? ⟨X.F, 3, none⟩ = some (.int .i64 σ.v)) := fun o o2 => ((Hd0.out.alloc o).alloc o2).f3
  go_region_held3 (fun W => W.cell? ⟨X.F, 3, none⟩ = some (.int .i64 σ.v))
    (first | exact S0.out | exact S1.out _ | exact S2.out _ _ | assumption)
    (first
    | (go_at_call 320; refine (constant_ok _ _).mono ?_; rintro e w3 ⟨rfl, hw⟩; subst hw)
    | (go_at_call 231; have cI := is_gen ((w.alloc (.cells #[.int .u32 cv] 23)).alloc (.cells #[.func (.func 462) #[] #[.pointer (some ⟨w.heap.size, 0, none⟩)]] 291)).drew X σ Hd2.out a b σ.v (w.heap.size + 1) [⟨462, #[.pointer (some ⟨w.heap.size, 0, none⟩)], pNum cv⟩] (by simp) Hf2.out Hh2.out (HP.out _ _ Hfre.out Hc2.out); refine cI.mono ?_; rintro e w2 ⟨rfl, hd⟩; have s9 : w2.cell? ⟨X.F, 3, none⟩ = some (.int .i64 σ.v) := (by rw [← KV.out]; exact hd.1.f3); have hk := Kd2.out.trans hd.2))
  all_goals
    have hs9 := hd.1
    clear hd
    go_wp2
    refine bodyPost_end (results_none hr _ _ _) rfl ?_
    exact ⟨rfl, hs9, hk⟩
set_option maxHeartbeats 4000000 in
theorem shp18 {k : Nat} {fn : Func} (q : String) (cv a b s : Int) (hf : Tryz.prog.funcs[k]? = some fn) (h3 : fn.ntmps = 6 ∧ fn.results = #[] ∧ fn.body = some (Code.region 0 #[oG (some 2) (.move (.tmp 0)) 199 q #[], oG (some 3) (.call { callee := .value (.func 320), args := #[.const (.int .u32 cv)], argTypes := #[23] }) 291 q #[], oG (some 4) (.buildSlice 331 1 #[(0, .tmp 3)]) 331 q #[gD 1], oG (some 5) (.call { callee := .value (.func 231), args := #[.tmp 2, .const (.int .i64 a), .const (.int .i64 b), .const (.int .i64 s), .tmp 4], argTypes := #[199, 3, 3, 3, 331] }) 0 q #[gD 0, gD 2, gC 1]] false)) (hsz : s = 1 ∨ s = 2 ∨ s = 4) : RuleOk k (fun X σ => isM X a b s [pNum cv] σ) := by
  intro w X σ h
  have f3 := h.f3
  have hF := h.ltF
  have hfre := h.fresh
  have Hst : Hid (St X w σ) := h
  have Hfre : Hid (¬ X.own w.heap.size) := hfre
  clear h hfre
  have HP : Hid (∀ (W : World) (q : Nat), ¬ X.own q → W.cell? ⟨q, 0, none⟩ = some (.int .u32 cv) → ∀ p ∈ ([⟨462, #[.pointer (some ⟨q, 0, none⟩)], pNum cv⟩] : List Prt), PartOk X W p.n p.cap p.f s) := by
    intro W q hq hc p hp
    simp at hp
    subst hp
    exact num_ok hq hc
  obtain ⟨hn, hr, hb⟩ := h3
  refine calls_of_wp hf hb ?_
  simp only [hn, oG, gD, gC, List.size_toArray, List.length_cons, List.length_nil, Nat.reduceAdd, Nat.reduceSub, Array.replicate_succ, Array.replicate_zero, List.push_toArray, List.append_toArray, List.nil_append, List.cons_append]
  go_wp2_with fail
  refine (constant_ok _ _).mono ?_; rintro e w3 ⟨rfl, hw⟩; subst hw
  have hcap : w.alloc (.cells #[.int .u32 cv] 23) = w.alloc (.cells #[.int .u32 cv] 23) := rfl
  have g1 : St X (w.alloc (.cells #[.int .u32 cv] 23)) σ := Hst.out.alloc _
  have gc := cell_new w (.int .u32 cv) 23
  go_wp2_with fail
  have cI := is_gen ((w.alloc (.cells #[.int .u32 cv] 23)).alloc (.cells #[.func (.func 462) #[] #[.pointer (some ⟨w.heap.size, 0, none⟩)]] 291)) X σ (g1.alloc _) a b s (w.heap.size + 1) [⟨462, #[.pointer (some ⟨w.heap.size, 0, none⟩)], pNum cv⟩] (by simp) Hst.out.fresh1 (heap2 w (.cells #[.int .u32 cv] 23) (.cells #[.func (.func 462) #[] #[.pointer (some ⟨w.heap.size, 0, none⟩)]] 291)) (HP.out _ _ (Hst.out.fresh) (cell_kept gc (Kp.alloc X.own _ _) (Hst.out.fresh)))
  refine cI.mono ?_; rintro e w2 ⟨rfl, hd⟩
  have hk := (((Kp.alloc X.own _ _)).trans (Kp.alloc X.own _ _)).trans hd.2
  have hs9 := hd.1
  clear hd
  go_wp2
  refine bodyPost_end (results_none hr _ _ _) rfl ?_
  exact ⟨rfl, hs9, hk⟩
set_option maxHeartbeats 4000000 in
theorem shp21 {k : Nat} {fn : Func} (q : String) (cv a : Int) {F1 : Nat} {p1 : Cx → Int → Sg → Opd × Sg} (hf : Tryz.prog.funcs[k]? = some fn) (h3 : fn.ntmps = 13 ∧ fn.results = #[] ∧ fn.body = some (Code.region 0 #[oG (some 2) (.move (.tmp 0)) 199 q #[], oG (some 3) (.move (.tmp 0)) 199 q #[], oG (some 4) (.call { callee := .value (.func 270), args := #[.tmp 3], argTypes := #[199] }) 294 q #[gD 1], oG (some 5) (.field 294 (.tmp 4) 1) 3 q #[gD 2], oG (some 6) (.move (.tmp 0)) 199 q #[], oG (some 7) (.nilCheck (.tmp 6)) 0 q #[gD 4], oG (some 8) (.fieldAddr 203 (.tmp 7) 3) 0 q #[gD 5], oG (some 9) (.load 3 (.tmp 8)) 3 q #[gD 6], oG (some 10) (.call { callee := .value (.func 320), args := #[.const (.int .u32 cv)], argTypes := #[23] }) 291 q #[gC 2], oG (some 11) (.buildSlice 331 2 #[(0, .func F1), (1, .tmp 10)]) 331 q #[gD 8], oG (some 12) (.call { callee := .value (.func 231), args := #[.tmp 2, .const (.int .i64 a), .tmp 5, .tmp 9, .tmp 11], argTypes := #[199, 3, 3, 3, 331] }) 0 q #[gD 0, gD 3, gD 7, gD 9, gC 8]] true)) (o1 : ∀ {X : Cx} {w0 : World} {z : Int}, (z = 1 ∨ z = 2 ∨ z = 4) → PartOk X w0 F1 #[] p1 z) (v1 : KeepsV p1) : RuleOk k (fun X σ => isM X a (modrm X σ).1.2.1 σ.v [p1, pNum cv] (modrm X σ).2) := by
  intro w X σ h
  have f3 := h.f3
  have hF := h.ltF
  have hfre := h.fresh
  have cM := fun W (hW : St X W σ) => modrm_ok W X σ hW
  have hv1 := modrm_v X σ
  have hbd := modrm_bd h
  obtain ⟨⟨m, n, r⟩, hm⟩ : ∃ x, x = (modrm X σ).1 := ⟨_, rfl⟩
  obtain ⟨σ1, hσ1⟩ : ∃ σ1, σ1 = (modrm X σ).2 := ⟨_, rfl⟩
  obtain ⟨V, hV⟩ : ∃ V, V = isM X a n σ.v [p1, pNum cv] σ1 := ⟨_, rfl⟩
  show Calls _ _ _ _ fun e w' => _ ∧ Done X w (isM X a (modrm X σ).1.2.1 σ.v [p1, pNum cv] (modrm X σ).2) w'
  rw [show isM X a (modrm X σ).1.2.1 σ.v [p1, pNum cv] (modrm X σ).2 = V by rw [hV, hσ1, ← hm]]
  simp only [← hm, ← hσ1, mrV] at cM hv1 hbd
  obtain ⟨_, ⟨n0, n1⟩, _⟩ := hbd
  have fl1 := fld1
  have HV : Hid (V = isM X a n σ.v [p1, pNum cv] σ1) := hV
  have Hv1 : Hid (σ1.v = σ.v) := hv1
  have HM : Hid _ := cM
  clear hm hσ1 hV hv1 cM
  have Hst : Hid (St X w σ) := h
  have Hfre : Hid (¬ X.own w.heap.size) := hfre
  clear h hfre
  have HP : Hid (∀ (W : World) (q : Nat), ¬ X.own q → W.cell? ⟨q, 0, none⟩ = some (.int .u32 cv) → ∀ p ∈ ([⟨F1, #[], p1⟩, ⟨462, #[.pointer (some ⟨q, 0, none⟩)], pNum cv⟩] : List Prt), PartOk X W p.n p.cap p.f σ.v) := by
    intro W q hq hc p hp
    simp at hp
    rcases hp with rfl | rfl
    · exact o1 Hst.out.vs
    · exact num_ok hq hc
  obtain ⟨hn, hr, hb⟩ := h3
  refine calls_of_wp hf hb ?_
  simp only [hn, oG, gD, gC, List.size_toArray, List.length_cons, List.length_nil, Nat.reduceAdd, Nat.reduceSub, Array.replicate_succ, Array.replicate_zero, List.push_toArray, List.append_toArray, List.nil_append, List.cons_append]
  have Hd0 : Hid (St X w.drew σ) := Hst.out.drewN 1
  have Kd0 : Hid (Kp X.own w w.drew) := (Kp.refl _ _).drewN 1
  have HC : Hid (∀ w1, St X w1 σ1 → Calls Tryz.prog 231 #[.pointer (some ⟨X.F, 0, none⟩), .int .i64 a, .int .i64 n, .int .i64 σ.v, .slice (some ⟨w1.heap.size + 1, 0, none⟩) 2 2] ((w1.alloc (.cells #[.int .u32 cv] 23)).alloc (.cells #[.func (.func F1) #[] #[], .func (.func 462) #[] #[.pointer (some ⟨w1.heap.size, 0, none⟩)]] 291)) fun e w' => e = .returned (.tuple #[]) ∧ St X w' (isM X a n σ.v [p1, pNum cv] σ1) ∧ Kp X.own w1 w') := by
    intro w1 h1
    have cI := is_gen ((w1.alloc (.cells #[.int .u32 cv] 23)).alloc (.cells #[.func (.func F1) #[] #[], .func (.func 462) #[] #[.pointer (some ⟨w1.heap.size, 0, none⟩)]] 291)) X σ1 ((h1.alloc _).alloc _) a n σ.v (w1.heap.size + 1) [⟨F1, #[], p1⟩, ⟨462, #[.pointer (some ⟨w1.heap.size, 0, none⟩)], pNum cv⟩] (by simp) h1.fresh1 (heap2 w1 (.cells #[.int .u32 cv] 23) (.cells #[.func (.func F1) #[] #[], .func (.func 462) #[] #[.pointer (some ⟨w1.heap.size, 0, none⟩)]] 291)) (HP.out _ _ (h1.fresh) (cell_kept (cell_new w1 (.int .u32 cv) 23) (Kp.alloc X.own _ _) (h1.fresh)))
    exact cI.mono (by rintro e w2 ⟨rfl, hd⟩; exact ⟨rfl, hd.1, ((Kp.alloc X.own _ _).trans (Kp.alloc X.own _ _)).trans hd.2⟩)
  have KV : Hid ((isM X a n σ.v [p1, pNum cv] σ1).v = σ.v) := (isM_v X _ _ _ _ _ ((kC v1 (kC (vNum cv) kN)))).trans Hv1.out
  have S0 : Hid (w.drew.cell? ⟨X.F, 3, none⟩ = some (.int .i64 σ.v)) := Hd0.out.f3
  have S1 : Hid (∀ o : Obj, (w.drew.alloc o).cell? ⟨X.F, 3, none⟩ = some (.int .i64 σ.v)) := fun o => (Hd0.out.alloc o).f3
  have S2 : Hid (∀ o o2 : Obj, ((w.drew.alloc o).alloc o2).cell? ⟨X.F, 3, none⟩ = some (.int .i64 σ.v)) := fun o o2 => ((Hd0.out.alloc o).alloc o2).f3
  have S3 : Hid (∀ W, St X W σ1 → ∀ o : Obj, (W.alloc o).cell? ⟨X.F, 3, none⟩ = some (.int .i64 σ.v)) := fun W h o => by rw [← Hv1.out]; exact (h.alloc o).f3
  have S4 : Hid (∀ W, St X W σ1 → ∀ o o2 : Obj, ((W.alloc o).alloc o2).cell? ⟨X.F, 3, none⟩ = some (.int .i64 σ.v)) := fun W h o o2 => by rw [← Hv1.out]; exact ((h.alloc o).alloc o2).f3
  go_region_held3 (fun W => W.cell? ⟨X.F, 3, none⟩ = some (.int .i64 σ.v))
    (first | exact S0.out | exact S1.out _ | exact S2.out _ _ | exact S3.out _ h1 _ | exact S4.out _ h1 _ _ | assumption)
    (first
    | (go_at_call 270; refine Calls.mono (HM.out _ ?_) ?_; exact Hd0.out; rintro e w1 ⟨rfl, h1, k1⟩; have g3 : w1.cell? ⟨X.F, 3, none⟩ = some (.int .i64 σ.v) := (by rw [← Hv1.out]; exact h1.f3); have gF := h1.ltF)
    | (go_at_call 320; refine (constant_ok _ _).mono ?_; rintro e w3 ⟨rfl, hw⟩; subst hw)
    | (go_at_call 231; refine (HC.out _ h1).mono ?_; rintro e w2 ⟨rfl, hd⟩; have s9 : w2.cell? ⟨X.F, 3, none⟩ = some (.int .i64 σ.v) := (by rw [← KV.out]; exact hd.1.f3); have hk := (Kd0.out.trans k1).trans hd.2))
  all_goals
    have hs9 := hd.1
    clear hd
    go_wp2
    refine bodyPost_end (results_none hr _ _ _) rfl ?_
    rw [HV.out]
    exact ⟨rfl, hs9, hk⟩
set_option maxHeartbeats 4000000 in
theorem shp24 {k : Nat} {fn : Func} (q : String) (l0 l1 l2 a b s : Int) {F1 F2 : Nat} {p1 p2 : Cx → Int → Sg → Opd × Sg} (hf : Tryz.prog.funcs[k]? = some fn) (h3 : fn.ntmps = 8 ∧ fn.results = #[] ∧ fn.body = some ((Code.region 0 #[oG (some 2) (.move (.tmp 0)) 199 q #[], oG (some 3) (.buildSlice 141 3 #[(0, .const (.int .i64 l0)), (1, .const (.int .i64 l1)), (2, .const (.int .i64 l2))]) 141 q #[], oG (some 4) (.call { callee := .value (.func 285), args := #[.tmp 2, .tmp 3], argTypes := #[199, 141] }) 0 q #[gD 0, gD 1]] false).seq (Code.region 1 #[oG (some 5) (.move (.tmp 0)) 199 q #[], oG (some 6) (.buildSlice 331 2 #[(0, .func F1), (1, .func F2)]) 331 q #[], oG (some 7) (.call { callee := .value (.func 231), args := #[.tmp 5, .const (.int .i64 a), .const (.int .i64 b), .const (.int .i64 s), .tmp 6], argTypes := #[199, 3, 3, 3, 331] }) 0 q #[gD 0, gD 1]] false))) (hsz : s = 1 ∨ s = 2 ∨ s = 4) (o1 : ∀ {X : Cx} {w0 : World} {z : Int}, (z = 1 ∨ z = 2 ∨ z = 4) → PartOk X w0 F1 #[] p1 z) (o2 : ∀ {X : Cx} {w0 : World} {z : Int}, (z = 1 ∨ z = 2 ∨ z = 4) → PartOk X w0 F2 #[] p2 z) : RuleOk k (fun X σ => isM X a b s [p1, p2] (onlyM X [l0, l1, l2] σ)) := by
  intro w X σ h
  have hfre := h.fresh
  have h0 : St X (w.alloc (.cells #[.int .i64 l0, .int .i64 l1, .int .i64 l2] 3)) σ := h.alloc _
  have hn0 := (MapKept.heap_alloc w (.cells #[.int .i64 l0, .int .i64 l1, .int .i64 l2] 3)).1
  have cO := only_ok _ X σ h0 w.heap.size 3 [l0, l1, l2] rfl (by simp) hfre (fun j hj => by
    rcases (by omega : j = 0 ∨ j = 1 ∨ j = 2) with rfl | rfl | rfl <;> (unfold World.cell?; rw [hn0]; rfl))
  obtain ⟨σa, hσa⟩ : ∃ σa, σa = onlyM X [l0, l1, l2] σ := ⟨_, rfl⟩
  show Calls _ _ _ _ fun e w' => _ ∧ Done X w (isM X a b s [p1, p2] (onlyM X [l0, l1, l2] σ)) w'
  rw [← hσa] at cO ⊢
  clear hσa h h0 hn0
  obtain ⟨hn, hr, hb⟩ := h3
  refine calls_of_wp hf hb ?_
  simp only [hn, oG, gD, List.size_toArray, List.length_cons, List.length_nil, Nat.reduceAdd, Nat.reduceSub, Array.replicate_succ, Array.replicate_zero, List.push_toArray, List.append_toArray, List.nil_append, List.cons_append]
  go_wp2_with fail
  refine cO.mono ?_; rintro e wa ⟨rfl, h, ka⟩
  replace ka := (Kp.alloc X.own w _).trans ka
  clear cO hfre
  have f3 := h.f3
  have hF := h.ltF
  have hfre := h.fresh
  have Hst : Hid (St X wa σa) := h
  have Hfre : Hid (¬ X.own wa.heap.size) := hfre
  clear h hfre
  have HP : Hid (∀ W : World, ∀ p ∈ ([⟨F1, #[], p1⟩, ⟨F2, #[], p2⟩] : List Prt), PartOk X W p.n p.cap p.f s) := by
    intro W p hp
    simp at hp
    rcases hp with rfl | rfl
    · exact o1 hsz
    · exact o2 hsz
  go_wp2_with fail
  have cI := is_gen (wa.alloc (.cells #[.func (.func F1) #[] #[], .func (.func F2) #[] #[]] 291)) X σa (Hst.out.alloc _) a b s wa.heap.size [⟨F1, #[], p1⟩, ⟨F2, #[], p2⟩] (by simp) (Hst.out.fresh) (MapKept.heap_alloc wa (.cells #[.func (.func F1) #[] #[], .func (.func F2) #[] #[]] 291)).1 (HP.out _)
  refine cI.mono ?_; rintro e w2 ⟨rfl, hd⟩
  have hk := ((ka).trans (Kp.alloc X.own _ _)).trans hd.2
  have hs9 := hd.1
  clear hd
  go_wp2
  refine bodyPost_end (results_none hr _ _ _) rfl ?_
  exact ⟨rfl, hs9, hk⟩
set_option maxHeartbeats 4000000 in
theorem shp27 {k : Nat} {fn : Func} (q : String) (l0 l1 l2 l3 a : Int) {F1 F2 : Nat} {p1 p2 : Cx → Int → Sg → Opd × Sg} (hf : Tryz.prog.funcs[k]? = some fn) (h3 : fn.ntmps = 16 ∧ fn.results = #[] ∧ fn.body = some ((Code.region 0 #[oG (some 2) (.move (.tmp 0)) 199 q #[], oG (some 3) (.buildSlice 141 4 #[(0, .const (.int .i64 l0)), (1, .const (.int .i64 l1)), (2, .const (.int .i64 l2)), (3, .const (.int .i64 l3))]) 141 q #[], oG (some 4) (.call { callee := .value (.func 285), args := #[.tmp 2, .tmp 3], argTypes := #[199, 141] }) 0 q #[gD 0, gD 1]] false).seq (Code.region 1 #[oG (some 5) (.move (.tmp 0)) 199 q #[], oG (some 6) (.move (.tmp 0)) 199 q #[], oG (some 7) (.call { callee := .value (.func 270), args := #[.tmp 6], argTypes := #[199] }) 294 q #[gD 1], oG (some 8) (.field 294 (.tmp 7) 1) 3 q #[gD 2], oG (some 9) (.binOp .sub 3 (.tmp 8) (.const (.int .i64 4)) 3) 3 q #[gD 3], oG (some 10) (.move (.tmp 0)) 199 q #[], oG (some 11) (.nilCheck (.tmp 10)) 0 q #[gD 5], oG (some 12) (.fieldAddr 203 (.tmp 11) 3) 0 q #[gD 6], oG (some 13) (.load 3 (.tmp 12)) 3 q #[gD 7], oG (some 14) (.buildSlice 331 2 #[(0, .func F1), (1, .func F2)]) 331 q #[], oG (some 15) (.call { callee := .value (.func 231), args := #[.tmp 5, .const (.int .i64 a), .tmp 9, .tmp 13, .tmp 14], argTypes := #[199, 3, 3, 3, 331] }) 0 q #[gD 0, gD 4, gD 8, gD 9, gC 2]] true))) (o1 : ∀ {X : Cx} {w0 : World} {z : Int}, (z = 1 ∨ z = 2 ∨ z = 4) → PartOk X w0 F1 #[] p1 z) (o2 : ∀ {X : Cx} {w0 : World} {z : Int}, (z = 1 ∨ z = 2 ∨ z = 4) → PartOk X w0 F2 #[] p2 z) (v1 : KeepsV p1) (v2 : KeepsV p2) : RuleOk k (fun X σ => isM X a ((modrm X (onlyM X [l0, l1, l2, l3] σ)).1.2.1 - 4) (onlyM X [l0, l1, l2, l3] σ).v [p1, p2] (modrm X (onlyM X [l0, l1, l2, l3] σ)).2) := by
  intro w X σ h
  have hfre := h.fresh
  have h0 : St X (w.alloc (.cells #[.int .i64 l0, .int .i64 l1, .int .i64 l2, .int .i64 l3] 3)) σ := h.alloc _
  have hn0 := (MapKept.heap_alloc w (.cells #[.int .i64 l0, .int .i64 l1, .int .i64 l2, .int .i64 l3] 3)).1
  have cO := only_ok _ X σ h0 w.heap.size 4 [l0, l1, l2, l3] rfl (by simp) hfre (fun j hj => by
    rcases (by omega : j = 0 ∨ j = 1 ∨ j = 2 ∨ j = 3) with rfl | rfl | rfl | rfl <;> (unfold World.cell?; rw [hn0]; rfl))
  obtain ⟨σa, hσa⟩ : ∃ σa, σa = onlyM X [l0, l1, l2, l3] σ := ⟨_, rfl⟩
  show Calls _ _ _ _ fun e w' => _ ∧ Done X w (isM X a ((modrm X (onlyM X [l0, l1, l2, l3] σ)).1.2.1 - 4) (onlyM X [l0, l1, l2, l3] σ).v [p1, p2] (modrm X (onlyM X [l0, l1, l2, l3] σ)).2) w'
  rw [← hσa] at cO ⊢
  clear hσa h h0 hn0
  obtain ⟨hn, hr, hb⟩ := h3
  refine calls_of_wp hf hb ?_
  simp only [hn, oG, gD, gC, List.size_toArray, List.length_cons, List.length_nil, Nat.reduceAdd, Nat.reduceSub, Array.replicate_succ, Array.replicate_zero, List.push_toArray, List.append_toArray, List.nil_append, List.cons_append]
  go_wp2_with fail
  refine cO.mono ?_; rintro e wa ⟨rfl, h, ka⟩
  replace ka := (Kp.alloc X.own w _).trans ka
  clear cO hfre
  have f3 := h.f3
  have hF := h.ltF
  have hfre := h.fresh
  have cM := fun W (hW : St X W σa) => modrm_ok W X σa hW
  have hv1 := modrm_v X σa
  have hbd := modrm_bd h
  obtain ⟨⟨m, n, r⟩, hm⟩ : ∃ x, x = (modrm X σa).1 := ⟨_, rfl⟩
  obtain ⟨σ1, hσ1⟩ : ∃ σ1, σ1 = (modrm X σa).2 := ⟨_, rfl⟩
  obtain ⟨V, hV⟩ : ∃ V, V = isM X a (n - 4) σa.v [p1, p2] σ1 := ⟨_, rfl⟩
  have eV : isM X a ((modrm X σa).1.2.1 - 4) σa.v [p1, p2] (modrm X σa).2 = V := by rw [hV, hσ1, ← hm]
  simp only [← hm, ← hσ1, mrV] at cM hv1 hbd
  obtain ⟨_, ⟨n0, n1⟩, _⟩ := hbd
  have fl1 := fld1
  have wN : IntKind.i64.wrap (n - 4) = (n - 4) := wrapI (by omega) (by omega)
  have HV : Hid (V = isM X a (n - 4) σa.v [p1, p2] σ1) := hV
  have Hv1 : Hid (σ1.v = σa.v) := hv1
  have HM : Hid _ := cM
  clear hm hσ1 hV hv1 cM
  have Hst : Hid (St X wa σa) := h
  have Hfre : Hid (¬ X.own wa.heap.size) := hfre
  clear h hfre
  have HP : Hid (∀ W : World, ∀ p ∈ ([⟨F1, #[], p1⟩, ⟨F2, #[], p2⟩] : List Prt), PartOk X W p.n p.cap p.f σa.v) := by
    intro W p hp
    simp at hp
    rcases hp with rfl | rfl
    · exact o1 Hst.out.vs
    · exact o2 Hst.out.vs
  have Hd0 : Hid (St X wa.drew σa) := Hst.out.drewN 1
  have Kd0 : Hid (Kp X.own wa wa.drew) := (Kp.refl _ _).drewN 1
  have Hd1 : Hid (St X (wa.alloc (.cells #[.func (.func F1) #[] #[], .func (.func F2) #[] #[]] 291)).drew σa) := (Hst.out.alloc _).drewN 1
  have Kd1 : Hid (Kp X.own wa (wa.alloc (.cells #[.func (.func F1) #[] #[], .func (.func F2) #[] #[]] 291)).drew) := (Kp.alloc _ _ _).drewN 1
  have Hh1 : Hid ((wa.alloc (.cells #[.func (.func F1) #[] #[], .func (.func F2) #[] #[]] 291)).drew.heap[wa.heap.size]? = some (.cells #[.func (.func F1) #[] #[], .func (.func F2) #[] #[]] 291)) := (MapKept.heap_alloc wa _).1
  go_upto_region 1 with fail
  have KV : Hid ((isM X a (n - 4) σa.v [p1, p2] σ1).v = σa.v) := (isM_v X _ _ _ _ _ ((kC v1 (kC v2 kN)))).trans Hv1.out
  have S0 : Hid (wa.drew.cell? ⟨X.F, 3, none⟩ = some (.int .i64 σa.v)) := Hd0.out.f3
  have S1 : Hid (∀ o : Obj, (wa.drew.alloc o).cell? ⟨X.F, 3, none⟩ = some (.int .i64 σa.v)) := fun o => (Hd0.out.alloc o).f3
  have S2 : Hid (∀ o o2 : Obj, ((wa.drew.alloc o).alloc o2).cell? ⟨X.F, 3, none⟩ = some (.int .i64 σa.v)) := fun o o2 => ((Hd0.out.alloc o).alloc o2).f3
  have S3 : Hid (∀ W, St X W σ1 → ∀ o : Obj, (W.alloc o).cell? ⟨X.F, 3, none⟩ = some (.int .i64 σa.v)) := fun W h o => by rw [← Hv1.out]; exact (h.alloc o).f3
  have S4 : Hid (∀ W, St X W σ1 → ∀ o o2 : Obj, ((W.alloc o).alloc o2).cell? ⟨X.F, 3, none⟩ = some (.int .i64 σa.v)) := fun W h o o2 => by rw [← Hv1.out]; exact ((h.alloc o).alloc o2).f3
  go_region_held3 (fun W => W.cell? ⟨X.F, 3, none⟩ = some (.int .i64 σa.v))
    (first | exact S0.out | exact S1.out _ | exact S2.out _ _ | exact S3.out _ h1 _ | exact S4.out _ h1 _ _ | assumption)
    (first
    | (go_at_call 270; refine Calls.mono (HM.out _ ?_) ?_; (first | exact Hd0.out | exact Hd1.out); rintro e w1 ⟨rfl, h1, k1⟩; have g3 : w1.cell? ⟨X.F, 3, none⟩ = some (.int .i64 σa.v) := (by rw [← Hv1.out]; exact h1.f3); have gF := h1.ltF; (try have hsl := heap_kept Hh1.out k1 Hfre.out))
    | (go_at_call 231; first | (have cI := is_gen w1 X σ1 h1 a (n - 4) σa.v wa.heap.size [⟨F1, #[], p1⟩, ⟨F2, #[], p2⟩] (by simp) Hfre.out hsl (HP.out _); refine cI.mono ?_; rintro e w2 ⟨rfl, hd⟩; have s9 : w2.cell? ⟨X.F, 3, none⟩ = some (.int .i64 σa.v) := (by rw [← KV.out]; exact hd.1.f3); have hk := (Kd1.out.trans k1).trans hd.2) | (have cI := is_gen (w1.alloc (.cells #[.func (.func F1) #[] #[], .func (.func F2) #[] #[]] 291)) X σ1 (h1.alloc _) a (n - 4) σa.v w1.heap.size [⟨F1, #[], p1⟩, ⟨F2, #[], p2⟩] (by simp) h1.fresh (MapKept.heap_alloc w1 (.cells #[.func (.func F1) #[] #[], .func (.func F2) #[] #[]] 291)).1 (HP.out _); refine cI.mono ?_; rintro e w2 ⟨rfl, hd⟩; have s9 : w2.cell? ⟨X.F, 3, none⟩ = some (.int .i64 σa.v) := (by rw [← KV.out]; exact hd.1.f3); have hk := ((Kd0.out.trans k1).trans (Kp.alloc X.own w1 _)).trans hd.2)))
  all_goals
    have hs9 := hd.1
    clear hd
    go_wp2
    refine bodyPost_end (results_none hr _ _ _) rfl ?_
    rw [eV]; rw [HV.out]
    exact ⟨rfl, hs9, ka.trans hk⟩
end Go.Proofs.YtiagfmkinefidaaGreat.Dc
namespace Go.Proofs.YtiagfmkinefidaaGreat.Dc
open Go.ChangeShapes Go.WideShapes Go.ChangeAt Go.RowKit
set_option linter.unusedVariables false
set_option maxRecDepth 100000
set_option maxHeartbeats 4000000 in
theorem shp1 {k : Nat} {fn : Func} (q : String) (a : Int) {F1 F2 : Nat} {p1 p2 : Cx → Int → Sg → Opd × Sg} (hf : Tryz.prog.funcs[k]? = some fn) (h3 : fn.ntmps = 11 ∧ fn.results = #[] ∧ fn.body = some (Code.region 0 #[oG (some 2) (.move (.tmp 0)) 199 q #[], oG (some 3) (.move (.tmp 0)) 199 q #[], oG (some 4) (.call { callee := .value (.func 232), args := #[.tmp 3], argTypes := #[199] }) 3 q #[gD 1], oG (some 5) (.move (.tmp 0)) 199 q #[], oG (some 6) (.nilCheck (.tmp 5)) 0 q #[gD 3], oG (some 7) (.fieldAddr 203 (.tmp 6) 3) 0 q #[gD 4], oG (some 8) (.load 3 (.tmp 7)) 3 q #[gD 5], oG (some 9) (.buildSlice 331 2 #[(0, .func F1), (1, .func F2)]) 331 q #[], oG (some 10) (.call { callee := .value (.func 231), args := #[.tmp 2, .const (.int .i64 a), .tmp 4, .tmp 8, .tmp 9], argTypes := #[199, 3, 3, 3, 331] }) 0 q #[gD 0, gD 2, gD 6, gD 7, gC 2]] true)) (o1 : ∀ {X : Cx} {w0 : World} {z : Int}, (z = 1 ∨ z = 2 ∨ z = 4) → PartOk X w0 F1 #[] p1 z) (o2 : ∀ {X : Cx} {w0 : World} {z : Int}, (z = 1 ∨ z = 2 ∨ z = 4) → PartOk X w0 F2 #[] p2 z) (v1 : KeepsV p1) (v2 : KeepsV p2) : RuleOk k (fun X σ => isM X a (σ.op / 8 % 8) σ.v [p1, p2] σ) := by
  intro w X σ h
  have f3 := h.f3
  have hF := h.ltF
  have hfre := h.fresh
  have Hst : Hid (St X w σ) := h
  have Hfre : Hid (¬ X.own w.heap.size) := hfre
  clear h hfre
  have HP : Hid (∀ W : World, ∀ p ∈ ([⟨F1, #[], p1⟩, ⟨F2, #[], p2⟩] : List Prt), PartOk X W p.n p.cap p.f σ.v) := by
    intro W p hp
    simp at hp
    rcases hp with rfl | rfl
    · exact o1 Hst.out.vs
    · exact o2 Hst.out.vs
  obtain ⟨hn, hr, hb⟩ := h3
  refine calls_of_wp hf hb ?_
  simp only [hn, oG, gD, gC, List.size_toArray, List.length_cons, List.length_nil, Nat.reduceAdd, Nat.reduceSub, Array.replicate_succ, Array.replicate_zero, List.push_toArray, List.append_toArray, List.nil_append, List.cons_append]
  have Hd0 : Hid (St X w.drew σ) := Hst.out.drewN 1
  have Kd0 : Hid (Kp X.own w w.drew) := (Kp.refl _ _).drewN 1
  have Hd1 : Hid (St X (w.alloc (.cells #[.func (.func F1) #[] #[], .func (.func F2) #[] #[]] 291)).drew σ) := (Hst.out.alloc _).drewN 1
  have Kd1 : Hid (Kp X.own w (w.alloc (.cells #[.func (.func F1) #[] #[], .func (.func F2) #[] #[]] 291)).drew) := (Kp.alloc _ _ _).drewN 1
  have Hh1 : Hid ((w.alloc (.cells #[.func (.func F1) #[] #[], .func (.func F2) #[] #[]] 291)).drew.heap[w.heap.size]? = some (.cells #[.func (.func F1) #[] #[], .func (.func F2) #[] #[]] 291)) := (MapKept.heap_alloc w _).1
  have KV : Hid ((isM X a (σ.op / 8 % 8) σ.v [p1, p2] σ).v = σ.v) := (isM_v X _ _ _ _ _ ((kC v1 (kC v2 kN)))).trans rfl
  have S0 : Hid (w.drew.cell? ⟨X.F, 3, none⟩ = some (.int .i64 σ.v)) := Hd0.out.f3
  have S1 : Hid (∀ o : Obj, (w.drew.alloc o).cell? ⟨X.F, 3, none⟩ = some (.int .i64 σ.v)) := fun o => (Hd0.out.alloc o).f3
  have S2 : Hid (∀ o o2 : Obj, ((w.drew.alloc o).alloc o2).cell? ⟨X.F, 3, none⟩ = some (.int .i64 σ.v)) := fun o o2 => ((Hd0.out.alloc o).alloc o2).f3
  go_region_held3 (fun W => W.cell? ⟨X.F, 3, none⟩ = some (.int .i64 σ.v))
    (first | exact S0.out | exact S1.out _ | exact S2.out _ _ | assumption)
    (first
    | (go_at_call 232; refine Calls.mono (n_ok _ X σ ?_) ?_; (first | exact Hd0.out | exact Hd1.out); rintro e w0 ⟨rfl, hw⟩; subst hw)
    | (go_at_call 231; have cI := is_gen (w.alloc (.cells #[.func (.func F1) #[] #[], .func (.func F2) #[] #[]] 291)).drew X σ Hd1.out a (σ.op / 8 % 8) σ.v w.heap.size [⟨F1, #[], p1⟩, ⟨F2, #[], p2⟩] (by simp) Hfre.out Hh1.out (HP.out _); refine cI.mono ?_; rintro e w2 ⟨rfl, hd⟩; have s9 : w2.cell? ⟨X.F, 3, none⟩ = some (.int .i64 σ.v) := (by rw [← KV.out]; exact hd.1.f3); have hk := Kd1.out.trans hd.2))
  all_goals
    have hs9 := hd.1
    clear hd
    go_wp2
    refine bodyPost_end (results_none hr _ _ _) rfl ?_
    exact ⟨rfl, hs9, hk⟩
set_option maxHeartbeats 4000000 in
theorem shp4 {k : Nat} {fn : Func} (q : String) (a b : Int) {F1 : Nat} {p1 : Cx → Int → Sg → Opd × Sg} (hf : Tryz.prog.funcs[k]? = some fn) (h3 : fn.ntmps = 9 ∧ fn.results = #[] ∧ fn.body = some (Code.region 0 #[oG (some 2) (.move (.tmp 0)) 199 q #[], oG (some 3) (.move (.tmp 0)) 199 q #[], oG (some 4) (.nilCheck (.tmp 3)) 0 q #[gD 1], oG (some 5) (.fieldAddr 203 (.tmp 4) 3) 0 q #[gD 2], oG (some 6) (.load 3 (.tmp 5)) 3 q #[gD 3], oG (some 7) (.buildSlice 331 1 #[(0, .func F1)]) 331 q #[], oG (some 8) (.call { callee := .value (.func 231), args := #[.tmp 2, .const (.int .i64 a), .const (.int .i64 b), .tmp 6, .tmp 7], argTypes := #[199, 3, 3, 3, 331] }) 0 q #[gD 0, gD 4, gD 5]] false)) (o1 : ∀ {X : Cx} {w0 : World} {z : Int}, (z = 1 ∨ z = 2 ∨ z = 4) → PartOk X w0 F1 #[] p1 z) : RuleOk k (fun X σ => isM X a b σ.v [p1] σ) := by
  intro w X σ h
  have f3 := h.f3
  have hF := h.ltF
  have hfre := h.fresh
  have Hst : Hid (St X w σ) := h
  have Hfre : Hid (¬ X.own w.heap.size) := hfre
  clear h hfre
  have HP : Hid (∀ W : World, ∀ p ∈ ([⟨F1, #[], p1⟩] : List Prt), PartOk X W p.n p.cap p.f σ.v) := by
    intro W p hp
    simp at hp
    subst hp
    exact o1 Hst.out.vs
  obtain ⟨hn, hr, hb⟩ := h3
  refine calls_of_wp hf hb ?_
  simp only [hn, oG, gD, List.size_toArray, List.length_cons, List.length_nil, Nat.reduceAdd, Nat.reduceSub, Array.replicate_succ, Array.replicate_zero, List.push_toArray, List.append_toArray, List.nil_append, List.cons_append]
  go_wp2_with fail
  have cI := is_gen (w.alloc (.cells #[.func (.func F1) #[] #[]] 291)) X σ (Hst.out.alloc _) a b σ.v w.heap.size [⟨F1, #[], p1⟩] (by simp) (Hst.out.fresh) (MapKept.heap_alloc w (.cells #[.func (.func F1) #[] #[]] 291)).1 (HP.out _)
  refine cI.mono ?_; rintro e w2 ⟨rfl, hd⟩
  have hk := ((Kp.alloc X.own _ _)).trans hd.2
  have hs9 := hd.1
  clear hd
  go_wp2
  refine bodyPost_end (results_none hr _ _ _) rfl ?_
  exact ⟨rfl, hs9, hk⟩
set_option maxHeartbeats 4000000 in
theorem shp7 {k : Nat} {fn : Func} (q : String) (a : Int) {F1 : Nat} {p1 : Cx → Int → Sg → Opd × Sg} (hf : Tryz.prog.funcs[k]? = some fn) (h3 : fn.ntmps = 11 ∧ fn.results = #[] ∧ fn.body = some (Code.region 0 #[oG (some 2) (.move (.tmp 0)) 199 q #[], oG (some 3) (.move (.tmp 0)) 199 q #[], oG (some 4) (.call { callee := .value (.func 267), args := #[.tmp 3], argTypes := #[199] }) 3 q #[gD 1], oG (some 5) (.move (.tmp 0)) 199 q #[], oG (some 6) (.nilCheck (.tmp 5)) 0 q #[gD 3], oG (some 7) (.fieldAddr 203 (.tmp 6) 3) 0 q #[gD 4], oG (some 8) (.load 3 (.tmp 7)) 3 q #[gD 5], oG (some 9) (.buildSlice 331 1 #[(0, .func F1)]) 331 q #[], oG (some 10) (.call { callee := .value (.func 231), args := #[.tmp 2, .const (.int .i64 a), .tmp 4, .tmp 8, .tmp 9], argTypes := #[199, 3, 3, 3, 331] }) 0 q #[gD 0, gD 2, gD 6, gD 7, gC 2]] true)) (o1 : ∀ {X : Cx} {w0 : World} {z : Int}, (z = 1 ∨ z = 2 ∨ z = 4) → PartOk X w0 F1 #[] p1 z) (v1 : KeepsV p1) : RuleOk k (fun X σ => isM X a (σ.op % 16) σ.v [p1] σ) := by
  intro w X σ h
  have f3 := h.f3
  have hF := h.ltF
  have hfre := h.fresh
  have Hst : Hid (St X w σ) := h
  have Hfre : Hid (¬ X.own w.heap.size) := hfre
  clear h hfre
  have HP : Hid (∀ W : World, ∀ p ∈ ([⟨F1, #[], p1⟩] : List Prt), PartOk X W p.n p.cap p.f σ.v) := by
    intro W p hp
    simp at hp
    subst hp
    exact o1 Hst.out.vs
  obtain ⟨hn, hr, hb⟩ := h3
  refine calls_of_wp hf hb ?_
  simp only [hn, oG, gD, gC, List.size_toArray, List.length_cons, List.length_nil, Nat.reduceAdd, Nat.reduceSub, Array.replicate_succ, Array.replicate_zero, List.push_toArray, List.append_toArray, List.nil_append, List.cons_append]
  have Hd0 : Hid (St X w.drew σ) := Hst.out.drewN 1
  have Kd0 : Hid (Kp X.own w w.drew) := (Kp.refl _ _).drewN 1
  have Hd1 : Hid (St X (w.alloc (.cells #[.func (.func F1) #[] #[]] 291)).drew σ) := (Hst.out.alloc _).drewN 1
  have Kd1 : Hid (Kp X.own w (w.alloc (.cells #[.func (.func F1) #[] #[]] 291)).drew) := (Kp.alloc _ _ _).drewN 1
  have Hh1 : Hid ((w.alloc (.cells #[.func (.func F1) #[] #[]] 291)).drew.heap[w.heap.size]? = some (.cells #[.func (.func F1) #[] #[]] 291)) := (MapKept.heap_alloc w _).1
  have KV : Hid ((isM X a (σ.op % 16) σ.v [p1] σ).v = σ.v) := (isM_v X _ _ _ _ _ ((kC v1 kN))).trans rfl
  have S0 : Hid (w.drew.cell? ⟨X.F, 3, none⟩ = some (.int .i64 σ.v)) := Hd0.out.f3
  have S1 : Hid (∀ o : Obj, (w.drew.alloc o).cell? ⟨X.F, 3, none⟩ = some (.int .i64 σ.v)) := fun o => (Hd0.out.alloc o).f3
  have S2 : Hid (∀ o o2 : Obj, ((w.drew.alloc o).alloc o2).cell? ⟨X.F, 3, none⟩ = some (.int .i64 σ.v)) := fun o o2 => ((Hd0.out.alloc o).alloc o2).f3
  go_region_held3 (fun W => W.cell? ⟨X.F, 3, none⟩ = some (.int .i64 σ.v))
    (first | exact S0.out | exact S1.out _ | exact S2.out _ _ | assumption)
    (first
    | (go_at_call 267; refine Calls.mono (c_ok _ X σ ?_) ?_; (first | exact Hd0.out | exact Hd1.out); rintro e w0 ⟨rfl, hw⟩; subst hw)
    | (go_at_call 231; have cI := is_gen (w.alloc (.cells #[.func (.func F1) #[] #[]] 291)).drew X σ Hd1.out a (σ.op % 16) σ.v w.heap.size [⟨F1, #[], p1⟩] (by simp) Hfre.out Hh1.out (HP.out _); refine cI.mono ?_; rintro e w2 ⟨rfl, hd⟩; have s9 : w2.cell? ⟨X.F, 3, none⟩ = some (.int .i64 σ.v) := (by rw [← KV.out]; exact hd.1.f3); have hk := Kd1.out.trans hd.2))
  all_goals
    have hs9 := hd.1
    clear hd
    go_wp2
    refine bodyPost_end (results_none hr _ _ _) rfl ?_
    exact ⟨rfl, hs9, hk⟩
set_option maxHeartbeats 4000000 in
theorem shp10 {k : Nat} {fn : Func} (q : String) (a b s : Int) {F1 F2 : Nat} {p1 p2 : Cx → Int → Sg → Opd × Sg} (hf : Tryz.prog.funcs[k]? = some fn) (h3 : fn.ntmps = 5 ∧ fn.results = #[] ∧ fn.body = some (Code.region 0 #[oG (some 2) (.move (.tmp 0)) 199 q #[], oG (some 3) (.buildSlice 331 2 #[(0, .func F1), (1, .func F2)]) 331 q #[], oG (some 4) (.call { callee := .value (.func 231), args := #[.tmp 2, .const (.int .i64 a), .const (.int .i64 b), .const (.int .i64 s), .tmp 3], argTypes := #[199, 3, 3, 3, 331] }) 0 q #[gD 0, gD 1]] false)) (hsz : s = 1 ∨ s = 2 ∨ s = 4) (o1 : ∀ {X : Cx} {w0 : World} {z : Int}, (z = 1 ∨ z = 2 ∨ z = 4) → PartOk X w0 F1 #[] p1 z) (o2 : ∀ {X : Cx} {w0 : World} {z : Int}, (z = 1 ∨ z = 2 ∨ z = 4) → PartOk X w0 F2 #[] p2 z) : RuleOk k (fun X σ => isM X a b s [p1, p2] σ) := by
  intro w X σ h
  have f3 := h.f3
  have hF := h.ltF
  have hfre := h.fresh
  have Hst : Hid (St X w σ) := h
  have Hfre : Hid (¬ X.own w.heap.size) := hfre
  clear h hfre
  have HP : Hid (∀ W : World, ∀ p ∈ ([⟨F1, #[], p1⟩, ⟨F2, #[], p2⟩] : List Prt), PartOk X W p.n p.cap p.f s) := by
    intro W p hp
    simp at hp
    rcases hp with rfl | rfl
    · exact o1 hsz
    · exact o2 hsz
  obtain ⟨hn, hr, hb⟩ := h3
  refine calls_of_wp hf hb ?_
  simp only [hn, oG, gD, List.size_toArray, List.length_cons, List.length_nil, Nat.reduceAdd, Nat.reduceSub, Array.replicate_succ, Array.replicate_zero, List.push_toArray, List.append_toArray, List.nil_append, List.cons_append]
  go_wp2_with fail
  have cI := is_gen (w.alloc (.cells #[.func (.func F1) #[] #[], .func (.func F2) #[] #[]] 291)) X σ (Hst.out.alloc _) a b s w.heap.size [⟨F1, #[], p1⟩, ⟨F2, #[], p2⟩] (by simp) (Hst.out.fresh) (MapKept.heap_alloc w (.cells #[.func (.func F1) #[] #[], .func (.func F2) #[] #[]] 291)).1 (HP.out _)
  refine cI.mono ?_; rintro e w2 ⟨rfl, hd⟩
  have hk := ((Kp.alloc X.own _ _)).trans hd.2
  have hs9 := hd.1
  clear hd
  go_wp2
  refine bodyPost_end (results_none hr _ _ _) rfl ?_
  exact ⟨rfl, hs9, hk⟩
theorem shp13 {k : Nat} {fn : Func} (q : String) (a : Int) (hf : Tryz.prog.funcs[k]? = some fn) (h3 : fn.ntmps = 4 ∧ fn.results = #[] ∧ fn.body = some (Code.region 0 #[oG (some 2) (.move (.tmp 0)) 199 q #[], oG (some 3) (.call { callee := .value (.func 300), args := #[.tmp 2, .const (.int .i64 a), .const (.int .i64 1)], argTypes := #[199, 3, 3] }) 0 q #[gD 0]] false)) : RuleOk k (fun X σ => isStr X a 1 σ) := by
  intro w X σ h
  have f3 := h.f3
  have c := isString_ok w X σ h a 1 (by decide)
  clear h
  obtain ⟨hn, hr, hb⟩ := h3
  refine calls_of_wp hf hb ?_
  simp only [hn, oG, gD, List.size_toArray, List.length_cons, List.length_nil, Nat.reduceAdd, Nat.reduceSub, Array.replicate_succ, Array.replicate_zero, List.push_toArray, List.append_toArray, List.nil_append, List.cons_append]
  go_wp2_with fail
  refine c.mono ?_; rintro e w1 ⟨rfl, hd⟩
  go_wp2
  refine bodyPost_end (results_none hr _ _ _) rfl ?_
  exact ⟨rfl, hd⟩
set_option maxHeartbeats 4000000 in
theorem shp16 {k : Nat} {fn : Func} (q : String) (l0 a b s : Int) {F1 F2 : Nat} {p1 p2 : Cx → Int → Sg → Opd × Sg} (hf : Tryz.prog.funcs[k]? = some fn) (h3 : fn.ntmps = 8 ∧ fn.results = #[] ∧ fn.body = some ((Code.region 0 #[oG (some 2) (.move (.tmp 0)) 199 q #[], oG (some 3) (.buildSlice 141 1 #[(0, .const (.int .i64 l0))]) 141 q #[], oG (some 4) (.call { callee := .value (.func 285), args := #[.tmp 2, .tmp 3], argTypes := #[199, 141] }) 0 q #[gD 0, gD 1]] false).seq (Code.region 1 #[oG (some 5) (.move (.tmp 0)) 199 q #[], oG (some 6) (.buildSlice 331 2 #[(0, .func F1), (1, .func F2)]) 331 q #[], oG (some 7) (.call { callee := .value (.func 231), args := #[.tmp 5, .const (.int .i64 a), .const (.int .i64 b), .const (.int .i64 s), .tmp 6], argTypes := #[199, 3, 3, 3, 331] }) 0 q #[gD 0, gD 1]] false))) (hsz : s = 1 ∨ s = 2 ∨ s = 4) (o1 : ∀ {X : Cx} {w0 : World} {z : Int}, (z = 1 ∨ z = 2 ∨ z = 4) → PartOk X w0 F1 #[] p1 z) (o2 : ∀ {X : Cx} {w0 : World} {z : Int}, (z = 1 ∨ z = 2 ∨ z = 4) → PartOk X w0 F2 #[] p2 z) : RuleOk k (fun X σ => isM X a b s [p1, p2] (onlyM X [l0] σ)) := by
  intro w X σ h
  have hfre := h.fresh
  have h0 : St X (w.alloc (.cells #[.int .i64 l0] 3)) σ := h.alloc _
  have hn0 := (MapKept.heap_alloc w (.cells #[.int .i64 l0] 3)).1
  have cO := only_ok _ X σ h0 w.heap.size 1 [l0] rfl (by simp) hfre (fun j hj => by
    rcases (by omega : j = 0) with rfl <;> (unfold World.cell?; rw [hn0]; rfl))
  obtain ⟨σa, hσa⟩ : ∃ σa, σa = onlyM X [l0] σ := ⟨_, rfl⟩
  show Calls _ _ _ _ fun e w' => _ ∧ Done X w (isM X a b s [p1, p2] (onlyM X [l0] σ)) w'
  rw [← hσa] at cO ⊢
  clear hσa h h0 hn0
  obtain ⟨hn, hr, hb⟩ := h3
  refine calls_of_wp hf hb ?_
  simp only [hn, oG, gD, List.size_toArray, List.length_cons, List.length_nil, Nat.reduceAdd, Nat.reduceSub, Array.replicate_succ, Array.replicate_zero, List.push_toArray, List.append_toArray, List.nil_append, List.cons_append]
  go_wp2_with fail
  refine cO.mono ?_; rintro e wa ⟨rfl, h, ka⟩
  replace ka := (Kp.alloc X.own w _).trans ka
  clear cO hfre
  have f3 := h.f3
  have hF := h.ltF
  have hfre := h.fresh
  have Hst : Hid (St X wa σa) := h
  have Hfre : Hid (¬ X.own wa.heap.size) := hfre
  clear h hfre
  have HP : Hid (∀ W : World, ∀ p ∈ ([⟨F1, #[], p1⟩, ⟨F2, #[], p2⟩] : List Prt), PartOk X W p.n p.cap p.f s) := by
    intro W p hp
    simp at hp
    rcases hp with rfl | rfl
    · exact o1 hsz
    · exact o2 hsz
  go_wp2_with fail
  have cI := is_gen (wa.alloc (.cells #[.func (.func F1) #[] #[], .func (.func F2) #[] #[]] 291)) X σa (Hst.out.alloc _) a b s wa.heap.size [⟨F1, #[], p1⟩, ⟨F2, #[], p2⟩] (by simp) (Hst.out.fresh) (MapKept.heap_alloc wa (.cells #[.func (.func F1) #[] #[], .func (.func F2) #[] #[]] 291)).1 (HP.out _)
  refine cI.mono ?_; rintro e w2 ⟨rfl, hd⟩
  have hk := ((ka).trans (Kp.alloc X.own _ _)).trans hd.2
  have hs9 := hd.1
  clear hd
  go_wp2
  refine bodyPost_end (results_none hr _ _ _) rfl ?_
  exact ⟨rfl, hs9, hk⟩
set_option maxHeartbeats 4000000 in
theorem shp19 {k : Nat} {fn : Func} (q : String) (a b s : Int) {F1 : Nat} {p1 : Cx → Int → Sg → Opd × Sg} (hf : Tryz.prog.funcs[k]? = some fn) (h3 : fn.ntmps = 5 ∧ fn.results = #[] ∧ fn.body = some (Code.region 0 #[oG (some 2) (.move (.tmp 0)) 199 q #[], oG (some 3) (.buildSlice 331 1 #[(0, .func F1)]) 331 q #[], oG (some 4) (.call { callee := .value (.func 231), args := #[.tmp 2, .const (.int .i64 a), .const (.int .i64 b), .const (.int .i64 s), .tmp 3], argTypes := #[199, 3, 3, 3, 331] }) 0 q #[gD 0, gD 1]] false)) (hsz : s = 1 ∨ s = 2 ∨ s = 4) (o1 : ∀ {X : Cx} {w0 : World} {z : Int}, (z = 1 ∨ z = 2 ∨ z = 4) → PartOk X w0 F1 #[] p1 z) : RuleOk k (fun X σ => isM X a b s [p1] σ) := by
  intro w X σ h
  have f3 := h.f3
  have hF := h.ltF
  have hfre := h.fresh
  have Hst : Hid (St X w σ) := h
  have Hfre : Hid (¬ X.own w.heap.size) := hfre
  clear h hfre
  have HP : Hid (∀ W : World, ∀ p ∈ ([⟨F1, #[], p1⟩] : List Prt), PartOk X W p.n p.cap p.f s) := by
    intro W p hp
    simp at hp
    subst hp
    exact o1 hsz
  obtain ⟨hn, hr, hb⟩ := h3
  refine calls_of_wp hf hb ?_
  simp only [hn, oG, gD, List.size_toArray, List.length_cons, List.length_nil, Nat.reduceAdd, Nat.reduceSub, Array.replicate_succ, Array.replicate_zero, List.push_toArray, List.append_toArray, List.nil_append, List.cons_append]
  go_wp2_with fail
  have cI := is_gen (w.alloc (.cells #[.func (.func F1) #[] #[]] 291)) X σ (Hst.out.alloc _) a b s w.heap.size [⟨F1, #[], p1⟩] (by simp) (Hst.out.fresh) (MapKept.heap_alloc w (.cells #[.func (.func F1) #[] #[]] 291)).1 (HP.out _)
  refine cI.mono ?_; rintro e w2 ⟨rfl, hd⟩
  have hk := ((Kp.alloc X.own _ _)).trans hd.2
  have hs9 := hd.1
  clear hd
  go_wp2
  refine bodyPost_end (results_none hr _ _ _) rfl ?_
  exact ⟨rfl, hs9, hk⟩
set_option maxHeartbeats 4000000 in
theorem shp22 {k : Nat} {fn : Func} (q : String) (l0 l1 a s : Int) {F1 : Nat} {p1 : Cx → Int → Sg → Opd × Sg} (hf : Tryz.prog.funcs[k]? = some fn) (h3 : fn.ntmps = 12 ∧ fn.results = #[] ∧ fn.body = some ((Code.region 0 #[oG (some 2) (.move (.tmp 0)) 199 q #[], oG (some 3) (.buildSlice 141 2 #[(0, .const (.int .i64 l0)), (1, .const (.int .i64 l1))]) 141 q #[], oG (some 4) (.call { callee := .value (.func 285), args := #[.tmp 2, .tmp 3], argTypes := #[199, 141] }) 0 q #[gD 0, gD 1]] false).seq (Code.region 1 #[oG (some 5) (.move (.tmp 0)) 199 q #[], oG (some 6) (.move (.tmp 0)) 199 q #[], oG (some 7) (.call { callee := .value (.func 270), args := #[.tmp 6], argTypes := #[199] }) 294 q #[gD 1], oG (some 8) (.field 294 (.tmp 7) 1) 3 q #[gD 2], oG (some 9) (.binOp .add 3 (.const (.int .i64 9)) (.tmp 8) 3) 3 q #[gD 3], oG (some 10) (.buildSlice 331 1 #[(0, .func F1)]) 331 q #[], oG (some 11) (.call { callee := .value (.func 231), args := #[.tmp 5, .const (.int .i64 a), .tmp 9, .const (.int .i64 s), .tmp 10], argTypes := #[199, 3, 3, 3, 331] }) 0 q #[gD 0, gD 4, gD 5, gC 2]] false))) (hsz : s = 1 ∨ s = 2 ∨ s = 4) (o1 : ∀ {X : Cx} {w0 : World} {z : Int}, (z = 1 ∨ z = 2 ∨ z = 4) → PartOk X w0 F1 #[] p1 z) : RuleOk k (fun X σ => isM X a (9 + (modrm X (onlyM X [l0, l1] σ)).1.2.1) s [p1] (modrm X (onlyM X [l0, l1] σ)).2) := by
  intro w X σ h
  have hfre := h.fresh
  have h0 : St X (w.alloc (.cells #[.int .i64 l0, .int .i64 l1] 3)) σ := h.alloc _
  have hn0 := (MapKept.heap_alloc w (.cells #[.int .i64 l0, .int .i64 l1] 3)).1
  have cO := only_ok _ X σ h0 w.heap.size 2 [l0, l1] rfl (by simp) hfre (fun j hj => by
    rcases (by omega : j = 0 ∨ j = 1) with rfl | rfl <;> (unfold World.cell?; rw [hn0]; rfl))
  obtain ⟨σa, hσa⟩ : ∃ σa, σa = onlyM X [l0, l1] σ := ⟨_, rfl⟩
  show Calls _ _ _ _ fun e w' => _ ∧ Done X w (isM X a (9 + (modrm X (onlyM X [l0, l1] σ)).1.2.1) s [p1] (modrm X (onlyM X [l0, l1] σ)).2) w'
  rw [← hσa] at cO ⊢
  clear hσa h h0 hn0
  obtain ⟨hn, hr, hb⟩ := h3
  refine calls_of_wp hf hb ?_
  simp only [hn, oG, gD, gC, List.size_toArray, List.length_cons, List.length_nil, Nat.reduceAdd, Nat.reduceSub, Array.replicate_succ, Array.replicate_zero, List.push_toArray, List.append_toArray, List.nil_append, List.cons_append]
  go_wp2_with fail
  refine cO.mono ?_; rintro e wa ⟨rfl, h, ka⟩
  replace ka := (Kp.alloc X.own w _).trans ka
  clear cO hfre
  have f3 := h.f3
  have hF := h.ltF
  have hfre := h.fresh
  have cM := fun W (hW : St X W σa) => modrm_ok W X σa hW
  have hv1 := modrm_v X σa
  have hbd := modrm_bd h
  obtain ⟨⟨m, n, r⟩, hm⟩ : ∃ x, x = (modrm X σa).1 := ⟨_, rfl⟩
  obtain ⟨σ1, hσ1⟩ : ∃ σ1, σ1 = (modrm X σa).2 := ⟨_, rfl⟩
  obtain ⟨V, hV⟩ : ∃ V, V = isM X a (9 + n) s [p1] σ1 := ⟨_, rfl⟩
  have eV : isM X a (9 + (modrm X σa).1.2.1) s [p1] (modrm X σa).2 = V := by rw [hV, hσ1, ← hm]
  simp only [← hm, ← hσ1, mrV] at cM hv1 hbd
  obtain ⟨_, ⟨n0, n1⟩, _⟩ := hbd
  have fl1 := fld1
  have wN : IntKind.i64.wrap (9 + n) = (9 + n) := wrapI (by omega) (by omega)
  have HV : Hid (V = isM X a (9 + n) s [p1] σ1) := hV
  have Hv1 : Hid (σ1.v = σa.v) := hv1
  have HM : Hid _ := cM
  clear hm hσ1 hV hv1 cM
  have Hst : Hid (St X wa σa) := h
  have Hfre : Hid (¬ X.own wa.heap.size) := hfre
  clear h hfre
  have HP : Hid (∀ W : World, ∀ p ∈ ([⟨F1, #[], p1⟩] : List Prt), PartOk X W p.n p.cap p.f s) := by
    intro W p hp
    simp at hp
    subst hp
    exact o1 hsz
  go_wp2_with fail
  refine (HM.out _ Hst.out).mono ?_; rintro e w1 ⟨rfl, h1, k1⟩
  go_wp2_with fail
  have cI := is_gen (w1.alloc (.cells #[.func (.func F1) #[] #[]] 291)) X σ1 (h1.alloc _) a (9 + n) s w1.heap.size [⟨F1, #[], p1⟩] (by simp) (h1.fresh) (MapKept.heap_alloc w1 (.cells #[.func (.func F1) #[] #[]] 291)).1 (HP.out _)
  refine cI.mono ?_; rintro e w2 ⟨rfl, hd⟩
  have hk := (((ka).trans k1).trans (Kp.alloc X.own _ _)).trans hd.2
  have hs9 := hd.1
  clear hd
  go_wp2
  refine bodyPost_end (results_none hr _ _ _) rfl ?_
  rw [eV]; rw [HV.out]
  exact ⟨rfl, hs9, hk⟩
set_option maxHeartbeats 4000000 in
theorem shp25 {k : Nat} {fn : Func} (q : String) (a : Int) {F1 F2 : Nat} {p1 p2 : Cx → Int → Sg → Opd × Sg} (hf : Tryz.prog.funcs[k]? = some fn) (h3 : fn.ntmps = 11 ∧ fn.results = #[] ∧ fn.body = some (Code.region 0 #[oG (some 2) (.move (.tmp 0)) 199 q #[], oG (some 3) (.move (.tmp 0)) 199 q #[], oG (some 4) (.call { callee := .value (.func 267), args := #[.tmp 3], argTypes := #[199] }) 3 q #[gD 1], oG (some 5) (.move (.tmp 0)) 199 q #[], oG (some 6) (.nilCheck (.tmp 5)) 0 q #[gD 3], oG (some 7) (.fieldAddr 203 (.tmp 6) 3) 0 q #[gD 4], oG (some 8) (.load 3 (.tmp 7)) 3 q #[gD 5], oG (some 9) (.buildSlice 331 2 #[(0, .func F1), (1, .func F2)]) 331 q #[], oG (some 10) (.call { callee := .value (.func 231), args := #[.tmp 2, .const (.int .i64 a), .tmp 4, .tmp 8, .tmp 9], argTypes := #[199, 3, 3, 3, 331] }) 0 q #[gD 0, gD 2, gD 6, gD 7, gC 2]] true)) (o1 : ∀ {X : Cx} {w0 : World} {z : Int}, (z = 1 ∨ z = 2 ∨ z = 4) → PartOk X w0 F1 #[] p1 z) (o2 : ∀ {X : Cx} {w0 : World} {z : Int}, (z = 1 ∨ z = 2 ∨ z = 4) → PartOk X w0 F2 #[] p2 z) (v1 : KeepsV p1) (v2 : KeepsV p2) : RuleOk k (fun X σ => isM X a (σ.op % 16) σ.v [p1, p2] σ) := by
  intro w X σ h
  have f3 := h.f3
  have hF := h.ltF
  have hfre := h.fresh
  have Hst : Hid (St X w σ) := h
  have Hfre : Hid (¬ X.own w.heap.size) := hfre
  clear h hfre
  have HP : Hid (∀ W : World, ∀ p ∈ ([⟨F1, #[], p1⟩, ⟨F2, #[], p2⟩] : List Prt), PartOk X W p.n p.cap p.f σ.v) := by
    intro W p hp
    simp at hp
    rcases hp with rfl | rfl
    · exact o1 Hst.out.vs
    · exact o2 Hst.out.vs
  obtain ⟨hn, hr, hb⟩ := h3
  refine calls_of_wp hf hb ?_
  simp only [hn, oG, gD, gC, List.size_toArray, List.length_cons, List.length_nil, Nat.reduceAdd, Nat.reduceSub, Array.replicate_succ, Array.replicate_zero, List.push_toArray, List.append_toArray, List.nil_append, List.cons_append]
  have Hd0 : Hid (St X w.drew σ) := Hst.out.drewN 1
  have Kd0 : Hid (Kp X.own w w.drew) := (Kp.refl _ _).drewN 1
  have Hd1 : Hid (St X (w.alloc (.cells #[.func (.func F1) #[] #[], .func (.func F2) #[] #[]] 291)).drew σ) := (Hst.out.alloc _).drewN 1
  have Kd1 : Hid (Kp X.own w (w.alloc (.cells #[.func (.func F1) #[] #[], .func (.func F2) #[] #[]] 291)).drew) := (Kp.alloc _ _ _).drewN 1
  have Hh1 : Hid ((w.alloc (.cells #[.func (.func F1) #[] #[], .func (.func F2) #[] #[]] 291)).drew.heap[w.heap.size]? = some (.cells #[.func (.func F1) #[] #[], .func (.func F2) #[] #[]] 291)) := (MapKept.heap_alloc w _).1
  have KV : Hid ((isM X a (σ.op % 16) σ.v [p1, p2] σ).v = σ.v) := (isM_v X _ _ _ _ _ ((kC v1 (kC v2 kN)))).trans rfl
  have S0 : Hid (w.drew.cell? ⟨X.F, 3, none⟩ = some (.int .i64 σ.v)) := Hd0.out.f3
  have S1 : Hid (∀ o : Obj, (w.drew.alloc o).cell? ⟨X.F, 3, none⟩ = some (.int .i64 σ.v)) := fun o => (Hd0.out.alloc o).f3
  have S2 : Hid (∀ o o2 : Obj, ((w.drew.alloc o).alloc o2).cell? ⟨X.F, 3, none⟩ = some (.int .i64 σ.v)) := fun o o2 => ((Hd0.out.alloc o).alloc o2).f3
  go_region_held3 (fun W => W.cell? ⟨X.F, 3, none⟩ = some (.int .i64 σ.v))
    (first | exact S0.out | exact S1.out _ | exact S2.out _ _ | assumption)
    (first
    | (go_at_call 267; refine Calls.mono (c_ok _ X σ ?_) ?_; (first | exact Hd0.out | exact Hd1.out); rintro e w0 ⟨rfl, hw⟩; subst hw)
    | (go_at_call 231; have cI := is_gen (w.alloc (.cells #[.func (.func F1) #[] #[], .func (.func F2) #[] #[]] 291)).drew X σ Hd1.out a (σ.op % 16) σ.v w.heap.size [⟨F1, #[], p1⟩, ⟨F2, #[], p2⟩] (by simp) Hfre.out Hh1.out (HP.out _); refine cI.mono ?_; rintro e w2 ⟨rfl, hd⟩; have s9 : w2.cell? ⟨X.F, 3, none⟩ = some (.int .i64 σ.v) := (by rw [← KV.out]; exact hd.1.f3); have hk := Kd1.out.trans hd.2))
  all_goals
    have hs9 := hd.1
    clear hd
    go_wp2
    refine bodyPost_end (results_none hr _ _ _) rfl ?_
    exact ⟨rfl, hs9, hk⟩
end Go.Proofs.YtiagfmkinefidaaGreat.Dc
