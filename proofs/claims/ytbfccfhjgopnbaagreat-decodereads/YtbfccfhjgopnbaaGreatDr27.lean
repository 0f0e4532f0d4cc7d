/- The document's reader, and the code's (RfUpper). -/
import Derived.Test.YtbfccfhjgopnbaaGreatDr13
set_option linter.unusedSimpArgs false
namespace Go.Proofs.YtbfccfhjgopnbaaGreat
open Go.ChangeShapes Go.WideShapes Go.ChangeAt Go.RowKit
set_option linter.unusedVariables false
set_option linter.unusedSimpArgs false
set_option maxHeartbeats 4000000
set_option maxRecDepth 20000
theorem upper_144 (w : World) (X : Cx) (σ : Sg) (f : Int × Int × Int) (h : RSt X w σ f 144) :
    Calls Tryz.prog 26 #[.pointer (some ⟨X.S, 0, none⟩)] w fun e w' => e = .returned (.agg (insV { Ins.zero with op := 41, size := 4 })) ∧ RDn X w σ f 144 w' := by
  obtain ⟨T, nI, fsI, psI, hv, Hv, ⟨vl, vs, vb, va, vx⟩, v1, v2, v3, v4, v5, v6, p0, p1, p2, p3, p4, p5, p6, p7, sz, ne⟩ := vlP
  have hr := RsQ.start (T := T) h
  have pt := hr.put Hv.out
  have hS := h.ltS
  have c4 := h.c4
  have c9 := h.c9
  have Hvs : Hid (σ.v = 1 ∨ σ.v = 2 ∨ σ.v = 4) := Or.inr h.vv
  have Hsg : Hid _ := sgn_bd h
  have Hc0 : Hid (0 ≤ (144 : Int)) := by show (0 : Int) ≤ _; decide
  have Hsz : Hid (szM 144 σ = 1 ∨ szM 144 σ = 2 ∨ szM 144 σ = 4) := szM_or h.vv
  clear h hv
  go_enter Tryz.func26, Tryz.ntmps26
  try simp only [vl, vs, va, vb, vx]
  clear vl vs va vb vx
  have u0 := insUp0
  have u2 := insUp2
  go_wp2_with (first
    | (go_at_call 209; refine (rsize_ok _ X _ _ _ (RsQ.st (by first | assumption | exact hrD _ | exact hrA _)) Hc0.out).mono ?_; rintro e wn ⟨rfl, rfl⟩; skip)
    | (go_at_call 207; refine (reg_lit _ _ _).mono ?_; rintro e wn ⟨rfl, kn⟩; have hrn := RsQ.no (by first | assumption | exact hrD _ | exact hrA _) kn; have c4n := hrn.st.c4; (try rw [bytesM_v] at c4n); have c9n := hrn.st.c9; have ptn := hrn.put Hv.out; have hSn := hrn.st.ltS; have hrA := fun o => RsQ.no hrn (Kp.alloc noB wn o); have hrD := fun o => (hrA o).drew; have ptA := fun o => (hrA o).put Hv.out; have ptD := fun o => (hrD o).put Hv.out))
  exact bodyPost_ret (v := _) (res1 rfl _ _ w.heap.size _ rfl (RsQ.got Hv.out (by first | assumption | exact hrD _ | exact hrA _) _)) rfl ⟨rfl, RsQ.fin (by first | assumption | exact hrD _ | exact hrA _) _⟩
theorem upper_152 (w : World) (X : Cx) (σ : Sg) (f : Int × Int × Int) (h : RSt X w σ f 152) :
    Calls Tryz.prog 26 #[.pointer (some ⟨X.S, 0, none⟩)] w fun e w' => e = .returned (.agg (insV { Ins.zero with op := 20, size := σ.v })) ∧ RDn X w σ f 152 w' := by
  obtain ⟨T, nI, fsI, psI, hv, Hv, ⟨vl, vs, vb, va, vx⟩, v1, v2, v3, v4, v5, v6, p0, p1, p2, p3, p4, p5, p6, p7, sz, ne⟩ := vlP
  have hr := RsQ.start (T := T) h
  have pt := hr.put Hv.out
  have hS := h.ltS
  have c4 := h.c4
  have c9 := h.c9
  have Hvs : Hid (σ.v = 1 ∨ σ.v = 2 ∨ σ.v = 4) := Or.inr h.vv
  have Hsg : Hid _ := sgn_bd h
  have Hc0 : Hid (0 ≤ (152 : Int)) := by show (0 : Int) ≤ _; decide
  have Hsz : Hid (szM 152 σ = 1 ∨ szM 152 σ = 2 ∨ szM 152 σ = 4) := szM_or h.vv
  clear h hv
  go_enter Tryz.func26, Tryz.ntmps26
  try simp only [vl, vs, va, vb, vx]
  clear vl vs va vb vx
  have u0 := insUp0
  have u2 := insUp2
  go_wp2_with (first
    | (go_at_call 209; refine (rsize_ok _ X _ _ _ (RsQ.st (by first | assumption | exact hrD _ | exact hrA _)) Hc0.out).mono ?_; rintro e wn ⟨rfl, rfl⟩; skip)
    | (go_at_call 207; refine (reg_lit _ _ _).mono ?_; rintro e wn ⟨rfl, kn⟩; have hrn := RsQ.no (by first | assumption | exact hrD _ | exact hrA _) kn; have c4n := hrn.st.c4; (try rw [bytesM_v] at c4n); have c9n := hrn.st.c9; have ptn := hrn.put Hv.out; have hSn := hrn.st.ltS; have hrA := fun o => RsQ.no hrn (Kp.alloc noB wn o); have hrD := fun o => (hrA o).drew; have ptA := fun o => (hrA o).put Hv.out; have ptD := fun o => (hrD o).put Hv.out))
  exact bodyPost_ret (v := _) (res1 rfl _ _ w.heap.size _ rfl (RsQ.got Hv.out (by first | assumption | exact hrD _ | exact hrA _) _)) rfl ⟨rfl, RsQ.fin (by first | assumption | exact hrD _ | exact hrA _) _⟩
theorem upper_153 (w : World) (X : Cx) (σ : Sg) (f : Int × Int × Int) (h : RSt X w σ f 153) :
    Calls Tryz.prog 26 #[.pointer (some ⟨X.S, 0, none⟩)] w fun e w' => e = .returned (.agg (insV { Ins.zero with op := 21, size := σ.v })) ∧ RDn X w σ f 153 w' := by
  obtain ⟨T, nI, fsI, psI, hv, Hv, ⟨vl, vs, vb, va, vx⟩, v1, v2, v3, v4, v5, v6, p0, p1, p2, p3, p4, p5, p6, p7, sz, ne⟩ := vlP
  have hr := RsQ.start (T := T) h
  have pt := hr.put Hv.out
  have hS := h.ltS
  have c4 := h.c4
  have c9 := h.c9
  have Hvs : Hid (σ.v = 1 ∨ σ.v = 2 ∨ σ.v = 4) := Or.inr h.vv
  have Hsg : Hid _ := sgn_bd h
  have Hc0 : Hid (0 ≤ (153 : Int)) := by show (0 : Int) ≤ _; decide
  have Hsz : Hid (szM 153 σ = 1 ∨ szM 153 σ = 2 ∨ szM 153 σ = 4) := szM_or h.vv
  clear h hv
  go_enter Tryz.func26, Tryz.ntmps26
  try simp only [vl, vs, va, vb, vx]
  clear vl vs va vb vx
  have u0 := insUp0
  have u2 := insUp2
  go_wp2_with (first
    | (go_at_call 209; refine (rsize_ok _ X _ _ _ (RsQ.st (by first | assumption | exact hrD _ | exact hrA _)) Hc0.out).mono ?_; rintro e wn ⟨rfl, rfl⟩; skip)
    | (go_at_call 207; refine (reg_lit _ _ _).mono ?_; rintro e wn ⟨rfl, kn⟩; have hrn := RsQ.no (by first | assumption | exact hrD _ | exact hrA _) kn; have c4n := hrn.st.c4; (try rw [bytesM_v] at c4n); have c9n := hrn.st.c9; have ptn := hrn.put Hv.out; have hSn := hrn.st.ltS; have hrA := fun o => RsQ.no hrn (Kp.alloc noB wn o); have hrD := fun o => (hrA o).drew; have ptA := fun o => (hrA o).put Hv.out; have ptD := fun o => (hrD o).put Hv.out))
  exact bodyPost_ret (v := _) (res1 rfl _ _ w.heap.size _ rfl (RsQ.got Hv.out (by first | assumption | exact hrD _ | exact hrA _) _)) rfl ⟨rfl, RsQ.fin (by first | assumption | exact hrD _ | exact hrA _) _⟩
theorem upper_156 (w : World) (X : Cx) (σ : Sg) (f : Int × Int × Int) (h : RSt X w σ f 156) :
    Calls Tryz.prog 26 #[.pointer (some ⟨X.S, 0, none⟩)] w fun e w' => e = .returned (.agg (insV { Ins.zero with op := 16, size := σ.v })) ∧ RDn X w σ f 156 w' := by
  obtain ⟨T, nI, fsI, psI, hv, Hv, ⟨vl, vs, vb, va, vx⟩, v1, v2, v3, v4, v5, v6, p0, p1, p2, p3, p4, p5, p6, p7, sz, ne⟩ := vlP
  have hr := RsQ.start (T := T) h
  have pt := hr.put Hv.out
  have hS := h.ltS
  have c4 := h.c4
  have c9 := h.c9
  have Hvs : Hid (σ.v = 1 ∨ σ.v = 2 ∨ σ.v = 4) := Or.inr h.vv
  have Hsg : Hid _ := sgn_bd h
  have Hc0 : Hid (0 ≤ (156 : Int)) := by show (0 : Int) ≤ _; decide
  have Hsz : Hid (szM 156 σ = 1 ∨ szM 156 σ = 2 ∨ szM 156 σ = 4) := szM_or h.vv
  clear h hv
  go_enter Tryz.func26, Tryz.ntmps26
  try simp only [vl, vs, va, vb, vx]
  clear vl vs va vb vx
  have u0 := insUp0
  have u2 := insUp2
  go_wp2_with (first
    | (go_at_call 209; refine (rsize_ok _ X _ _ _ (RsQ.st (by first | assumption | exact hrD _ | exact hrA _)) Hc0.out).mono ?_; rintro e wn ⟨rfl, rfl⟩; skip)
    | (go_at_call 207; refine (reg_lit _ _ _).mono ?_; rintro e wn ⟨rfl, kn⟩; have hrn := RsQ.no (by first | assumption | exact hrD _ | exact hrA _) kn; have c4n := hrn.st.c4; (try rw [bytesM_v] at c4n); have c9n := hrn.st.c9; have ptn := hrn.put Hv.out; have hSn := hrn.st.ltS; have hrA := fun o => RsQ.no hrn (Kp.alloc noB wn o); have hrD := fun o => (hrA o).drew; have ptA := fun o => (hrA o).put Hv.out; have ptD := fun o => (hrD o).put Hv.out))
  exact bodyPost_ret (v := _) (res1 rfl _ _ w.heap.size _ rfl (RsQ.got Hv.out (by first | assumption | exact hrD _ | exact hrA _) _)) rfl ⟨rfl, RsQ.fin (by first | assumption | exact hrD _ | exact hrA _) _⟩
theorem upper_157 (w : World) (X : Cx) (σ : Sg) (f : Int × Int × Int) (h : RSt X w σ f 157) :
    Calls Tryz.prog 26 #[.pointer (some ⟨X.S, 0, none⟩)] w fun e w' => e = .returned (.agg (insV { Ins.zero with op := 17, size := σ.v })) ∧ RDn X w σ f 157 w' := by
  obtain ⟨T, nI, fsI, psI, hv, Hv, ⟨vl, vs, vb, va, vx⟩, v1, v2, v3, v4, v5, v6, p0, p1, p2, p3, p4, p5, p6, p7, sz, ne⟩ := vlP
  have hr := RsQ.start (T := T) h
  have pt := hr.put Hv.out
  have hS := h.ltS
  have c4 := h.c4
  have c9 := h.c9
  have Hvs : Hid (σ.v = 1 ∨ σ.v = 2 ∨ σ.v = 4) := Or.inr h.vv
  have Hsg : Hid _ := sgn_bd h
  have Hc0 : Hid (0 ≤ (157 : Int)) := by show (0 : Int) ≤ _; decide
  have Hsz : Hid (szM 157 σ = 1 ∨ szM 157 σ = 2 ∨ szM 157 σ = 4) := szM_or h.vv
  clear h hv
  go_enter Tryz.func26, Tryz.ntmps26
  try simp only [vl, vs, va, vb, vx]
  clear vl vs va vb vx
  have u0 := insUp0
  have u2 := insUp2
  go_wp2_with (first
    | (go_at_call 209; refine (rsize_ok _ X _ _ _ (RsQ.st (by first | assumption | exact hrD _ | exact hrA _)) Hc0.out).mono ?_; rintro e wn ⟨rfl, rfl⟩; skip)
    | (go_at_call 207; refine (reg_lit _ _ _).mono ?_; rintro e wn ⟨rfl, kn⟩; have hrn := RsQ.no (by first | assumption | exact hrD _ | exact hrA _) kn; have c4n := hrn.st.c4; (try rw [bytesM_v] at c4n); have c9n := hrn.st.c9; have ptn := hrn.put Hv.out; have hSn := hrn.st.ltS; have hrA := fun o => RsQ.no hrn (Kp.alloc noB wn o); have hrD := fun o => (hrA o).drew; have ptA := fun o => (hrA o).put Hv.out; have ptD := fun o => (hrD o).put Hv.out))
  exact bodyPost_ret (v := _) (res1 rfl _ _ w.heap.size _ rfl (RsQ.got Hv.out (by first | assumption | exact hrD _ | exact hrA _) _)) rfl ⟨rfl, RsQ.fin (by first | assumption | exact hrD _ | exact hrA _) _⟩
theorem upper_158 (w : World) (X : Cx) (σ : Sg) (f : Int × Int × Int) (h : RSt X w σ f 158) :
    Calls Tryz.prog 26 #[.pointer (some ⟨X.S, 0, none⟩)] w fun e w' => e = .returned (.agg (insV { Ins.zero with op := 18, size := 1 })) ∧ RDn X w σ f 158 w' := by
  obtain ⟨T, nI, fsI, psI, hv, Hv, ⟨vl, vs, vb, va, vx⟩, v1, v2, v3, v4, v5, v6, p0, p1, p2, p3, p4, p5, p6, p7, sz, ne⟩ := vlP
  have hr := RsQ.start (T := T) h
  have pt := hr.put Hv.out
  have hS := h.ltS
  have c4 := h.c4
  have c9 := h.c9
  have Hvs : Hid (σ.v = 1 ∨ σ.v = 2 ∨ σ.v = 4) := Or.inr h.vv
  have Hsg : Hid _ := sgn_bd h
  have Hc0 : Hid (0 ≤ (158 : Int)) := by show (0 : Int) ≤ _; decide
  have Hsz : Hid (szM 158 σ = 1 ∨ szM 158 σ = 2 ∨ szM 158 σ = 4) := szM_or h.vv
  clear h hv
  go_enter Tryz.func26, Tryz.ntmps26
  try simp only [vl, vs, va, vb, vx]
  clear vl vs va vb vx
  have u0 := insUp0
  have u2 := insUp2
  go_wp2_with (first
    | (go_at_call 209; refine (rsize_ok _ X _ _ _ (RsQ.st (by first | assumption | exact hrD _ | exact hrA _)) Hc0.out).mono ?_; rintro e wn ⟨rfl, rfl⟩; skip)
    | (go_at_call 207; refine (reg_lit _ _ _).mono ?_; rintro e wn ⟨rfl, kn⟩; have hrn := RsQ.no (by first | assumption | exact hrD _ | exact hrA _) kn; have c4n := hrn.st.c4; (try rw [bytesM_v] at c4n); have c9n := hrn.st.c9; have ptn := hrn.put Hv.out; have hSn := hrn.st.ltS; have hrA := fun o => RsQ.no hrn (Kp.alloc noB wn o); have hrD := fun o => (hrA o).drew; have ptA := fun o => (hrA o).put Hv.out; have ptD := fun o => (hrD o).put Hv.out))
  exact bodyPost_ret (v := _) (res1 rfl _ _ w.heap.size _ rfl (RsQ.got Hv.out (by first | assumption | exact hrD _ | exact hrA _) _)) rfl ⟨rfl, RsQ.fin (by first | assumption | exact hrD _ | exact hrA _) _⟩
theorem upper_159 (w : World) (X : Cx) (σ : Sg) (f : Int × Int × Int) (h : RSt X w σ f 159) :
    Calls Tryz.prog 26 #[.pointer (some ⟨X.S, 0, none⟩)] w fun e w' => e = .returned (.agg (insV { Ins.zero with op := 19, size := 1 })) ∧ RDn X w σ f 159 w' := by
  obtain ⟨T, nI, fsI, psI, hv, Hv, ⟨vl, vs, vb, va, vx⟩, v1, v2, v3, v4, v5, v6, p0, p1, p2, p3, p4, p5, p6, p7, sz, ne⟩ := vlP
  have hr := RsQ.start (T := T) h
  have pt := hr.put Hv.out
  have hS := h.ltS
  have c4 := h.c4
  have c9 := h.c9
  have Hvs : Hid (σ.v = 1 ∨ σ.v = 2 ∨ σ.v = 4) := Or.inr h.vv
  have Hsg : Hid _ := sgn_bd h
  have Hc0 : Hid (0 ≤ (159 : Int)) := by show (0 : Int) ≤ _; decide
  have Hsz : Hid (szM 159 σ = 1 ∨ szM 159 σ = 2 ∨ szM 159 σ = 4) := szM_or h.vv
  clear h hv
  go_enter Tryz.func26, Tryz.ntmps26
  try simp only [vl, vs, va, vb, vx]
  clear vl vs va vb vx
  have u0 := insUp0
  have u2 := insUp2
  go_wp2_with (first
    | (go_at_call 209; refine (rsize_ok _ X _ _ _ (RsQ.st (by first | assumption | exact hrD _ | exact hrA _)) Hc0.out).mono ?_; rintro e wn ⟨rfl, rfl⟩; skip)
    | (go_at_call 207; refine (reg_lit _ _ _).mono ?_; rintro e wn ⟨rfl, kn⟩; have hrn := RsQ.no (by first | assumption | exact hrD _ | exact hrA _) kn; have c4n := hrn.st.c4; (try rw [bytesM_v] at c4n); have c9n := hrn.st.c9; have ptn := hrn.put Hv.out; have hSn := hrn.st.ltS; have hrA := fun o => RsQ.no hrn (Kp.alloc noB wn o); have hrD := fun o => (hrA o).drew; have ptA := fun o => (hrA o).put Hv.out; have ptD := fun o => (hrD o).put Hv.out))
  exact bodyPost_ret (v := _) (res1 rfl _ _ w.heap.size _ rfl (RsQ.got Hv.out (by first | assumption | exact hrD _ | exact hrA _) _)) rfl ⟨rfl, RsQ.fin (by first | assumption | exact hrD _ | exact hrA _) _⟩
theorem upper_160 (w : World) (X : Cx) (σ : Sg) (f : Int × Int × Int) (h : RSt X w σ f 160) :
    Calls Tryz.prog 26 #[.pointer (some ⟨X.S, 0, none⟩)] w fun e w' => e = .returned (.agg (insV { Ins.zero with op := 8, size := szM 160 σ, a := regO 0 (szM 160 σ), b := (pO X (szM 160 σ) σ).1 })) ∧ RDn X w (pO X (szM 160 σ) σ).2 f 160 w' := by
  obtain ⟨T, nI, fsI, psI, hv, Hv, ⟨vl, vs, vb, va, vx⟩, v1, v2, v3, v4, v5, v6, p0, p1, p2, p3, p4, p5, p6, p7, sz, ne⟩ := vlP
  have hr := RsQ.start (T := T) h
  have pt := hr.put Hv.out
  have hS := h.ltS
  have c4 := h.c4
  have c9 := h.c9
  have Hvs : Hid (σ.v = 1 ∨ σ.v = 2 ∨ σ.v = 4) := Or.inr h.vv
  have Hsg : Hid _ := sgn_bd h
  have Hc0 : Hid (0 ≤ (160 : Int)) := by show (0 : Int) ≤ _; decide
  have Hsz : Hid (szM 160 σ = 1 ∨ szM 160 σ = 2 ∨ szM 160 σ = 4) := szM_or h.vv
  clear h hv
  go_enter Tryz.func26, Tryz.ntmps26
  try simp only [vl, vs, va, vb, vx]
  clear vl vs va vb vx
  obtain ⟨u0, u1, u2, u3, u4, u5, u6, u7, u8, u9, u10, u11, u12, u13, u14, u15, u16, u17, u18, u19, u20⟩ := ups21
  go_wp2_with (first
    | (go_at_call 209; refine (rsize_ok _ X _ _ _ (RsQ.st (by first | assumption | exact hrD _ | exact hrA _)) Hc0.out).mono ?_; rintro e wn ⟨rfl, rfl⟩; skip)
    | (go_at_call 207; refine (reg_lit _ _ _).mono ?_; rintro e wn ⟨rfl, kn⟩; have hbA : (wn.alloc (.cells (regO 0 (szM 160 σ)).vals 26)).drew.heap[wn.heap.size]? = some (.cells (regO 0 (szM 160 σ)).vals 26 (0, 0)) := heap_kept (MapKept.heap_alloc wn (.cells (regO 0 (szM 160 σ)).vals 26)).1 ((Kp.refl noB _).drewN 1) id; have hrn := RsQ.no (by first | assumption | exact hrD _ | exact hrA _) kn; have c4n := hrn.st.c4; (try rw [bytesM_v] at c4n); have c9n := hrn.st.c9; have ptn := hrn.put Hv.out; have hSn := hrn.st.ltS; have hrA := fun o => RsQ.no hrn (Kp.alloc noB wn o); have hrD := fun o => (hrA o).drew; have ptA := fun o => (hrA o).put Hv.out; have ptD := fun o => (hrD o).put Hv.out))
  go_region_with (first
    | (go_at_call 213; refine (o_lit _ X _ _ _ (RsQ.st (by first | assumption | exact hrD _ | exact hrA _)) _).mono ?_; rintro e wn ⟨rfl, hd⟩; have hrn := RsQ.call (by first | assumption | exact hrD _ | exact hrA _) hd; have bk := heap_kept hbA hd.2 (by show ¬ _ = X.S; omega); obtain ⟨y0, y1, y2, y3, y4, y5, y6, y7, y8⟩ := res_cells bk; simp only [regO, Opd.zero] at y0 y1 y2 y3 y4 y5 y6 y7 y8; have c4n := hrn.st.c4; (try rw [bytesM_v] at c4n); have c9n := hrn.st.c9; have ptn := hrn.put Hv.out; have hSn := hrn.st.ltS; have hrA := fun o => RsQ.no hrn (Kp.alloc noB wn o); have hrD := fun o => (hrA o).drew; have ptA := fun o => (hrA o).put Hv.out; have ptD := fun o => (hrD o).put Hv.out))
  all_goals
    go_wp2
    exact bodyPost_ret (v := _) (res1 rfl _ _ w.heap.size _ rfl (RsQ.got Hv.out (by first | assumption | exact hrD _ | exact hrA _) _)) rfl ⟨rfl, RsQ.fin (by first | assumption | exact hrD _ | exact hrA _) _⟩
theorem upper_161 (w : World) (X : Cx) (σ : Sg) (f : Int × Int × Int) (h : RSt X w σ f 161) :
    Calls Tryz.prog 26 #[.pointer (some ⟨X.S, 0, none⟩)] w fun e w' => e = .returned (.agg (insV { Ins.zero with op := 8, size := szM 161 σ, a := regO 0 (szM 161 σ), b := (pO X (szM 161 σ) σ).1 })) ∧ RDn X w (pO X (szM 161 σ) σ).2 f 161 w' := by
  obtain ⟨T, nI, fsI, psI, hv, Hv, ⟨vl, vs, vb, va, vx⟩, v1, v2, v3, v4, v5, v6, p0, p1, p2, p3, p4, p5, p6, p7, sz, ne⟩ := vlP
  have hr := RsQ.start (T := T) h
  have pt := hr.put Hv.out
  have hS := h.ltS
  have c4 := h.c4
  have c9 := h.c9
  have Hvs : Hid (σ.v = 1 ∨ σ.v = 2 ∨ σ.v = 4) := Or.inr h.vv
  have Hsg : Hid _ := sgn_bd h
  have Hc0 : Hid (0 ≤ (161 : Int)) := by show (0 : Int) ≤ _; decide
  have Hsz : Hid (szM 161 σ = 1 ∨ szM 161 σ = 2 ∨ szM 161 σ = 4) := szM_or h.vv
  clear h hv
  go_enter Tryz.func26, Tryz.ntmps26
  try simp only [vl, vs, va, vb, vx]
  clear vl vs va vb vx
  obtain ⟨u0, u1, u2, u3, u4, u5, u6, u7, u8, u9, u10, u11, u12, u13, u14, u15, u16, u17, u18, u19, u20⟩ := ups21
  go_wp2_with (first
    | (go_at_call 209; refine (rsize_ok _ X _ _ _ (RsQ.st (by first | assumption | exact hrD _ | exact hrA _)) Hc0.out).mono ?_; rintro e wn ⟨rfl, rfl⟩; skip)
    | (go_at_call 207; refine (reg_lit _ _ _).mono ?_; rintro e wn ⟨rfl, kn⟩; have hbA : (wn.alloc (.cells (regO 0 (szM 161 σ)).vals 26)).drew.heap[wn.heap.size]? = some (.cells (regO 0 (szM 161 σ)).vals 26 (0, 0)) := heap_kept (MapKept.heap_alloc wn (.cells (regO 0 (szM 161 σ)).vals 26)).1 ((Kp.refl noB _).drewN 1) id; have hrn := RsQ.no (by first | assumption | exact hrD _ | exact hrA _) kn; have c4n := hrn.st.c4; (try rw [bytesM_v] at c4n); have c9n := hrn.st.c9; have ptn := hrn.put Hv.out; have hSn := hrn.st.ltS; have hrA := fun o => RsQ.no hrn (Kp.alloc noB wn o); have hrD := fun o => (hrA o).drew; have ptA := fun o => (hrA o).put Hv.out; have ptD := fun o => (hrD o).put Hv.out))
  go_region_with (first
    | (go_at_call 213; refine (o_lit _ X _ _ _ (RsQ.st (by first | assumption | exact hrD _ | exact hrA _)) _).mono ?_; rintro e wn ⟨rfl, hd⟩; have hrn := RsQ.call (by first | assumption | exact hrD _ | exact hrA _) hd; have bk := heap_kept hbA hd.2 (by show ¬ _ = X.S; omega); obtain ⟨y0, y1, y2, y3, y4, y5, y6, y7, y8⟩ := res_cells bk; simp only [regO, Opd.zero] at y0 y1 y2 y3 y4 y5 y6 y7 y8; have c4n := hrn.st.c4; (try rw [bytesM_v] at c4n); have c9n := hrn.st.c9; have ptn := hrn.put Hv.out; have hSn := hrn.st.ltS; have hrA := fun o => RsQ.no hrn (Kp.alloc noB wn o); have hrD := fun o => (hrA o).drew; have ptA := fun o => (hrA o).put Hv.out; have ptD := fun o => (hrD o).put Hv.out))
  all_goals
    go_wp2
    exact bodyPost_ret (v := _) (res1 rfl _ _ w.heap.size _ rfl (RsQ.got Hv.out (by first | assumption | exact hrD _ | exact hrA _) _)) rfl ⟨rfl, RsQ.fin (by first | assumption | exact hrD _ | exact hrA _) _⟩
theorem upper_162 (w : World) (X : Cx) (σ : Sg) (f : Int × Int × Int) (h : RSt X w σ f 162) :
    Calls Tryz.prog 26 #[.pointer (some ⟨X.S, 0, none⟩)] w fun e w' => e = .returned (.agg (insV { Ins.zero with op := 8, size := szM 162 σ, a := (pO X (szM 162 σ) σ).1, b := regO 0 (szM 162 σ) })) ∧ RDn X w (pO X (szM 162 σ) σ).2 f 162 w' := by
  obtain ⟨T, nI, fsI, psI, hv, Hv, ⟨vl, vs, vb, va, vx⟩, v1, v2, v3, v4, v5, v6, p0, p1, p2, p3, p4, p5, p6, p7, sz, ne⟩ := vlP
  have hr := RsQ.start (T := T) h
  have pt := hr.put Hv.out
  have hS := h.ltS
  have c4 := h.c4
  have c9 := h.c9
  have Hvs : Hid (σ.v = 1 ∨ σ.v = 2 ∨ σ.v = 4) := Or.inr h.vv
  have Hsg : Hid _ := sgn_bd h
  have Hc0 : Hid (0 ≤ (162 : Int)) := by show (0 : Int) ≤ _; decide
  have Hsz : Hid (szM 162 σ = 1 ∨ szM 162 σ = 2 ∨ szM 162 σ = 4) := szM_or h.vv
  clear h hv
  go_enter Tryz.func26, Tryz.ntmps26
  try simp only [vl, vs, va, vb, vx]
  clear vl vs va vb vx
  obtain ⟨u0, u1, u2, u3, u4, u5, u6, u7, u8, u9, u10, u11, u12, u13, u14, u15, u16, u17, u18, u19, u20⟩ := ups21
  go_wp2_with (first
    | (go_at_call 209; refine (rsize_ok _ X _ _ _ (RsQ.st (by first | assumption | exact hrD _ | exact hrA _)) Hc0.out).mono ?_; rintro e wn ⟨rfl, rfl⟩; skip)
    | (go_at_call 207; refine (reg_lit _ _ _).mono ?_; rintro e wn ⟨rfl, kn⟩; have hbA : (wn.alloc (.cells (regO 0 (szM 162 σ)).vals 26)).drew.heap[wn.heap.size]? = some (.cells (regO 0 (szM 162 σ)).vals 26 (0, 0)) := heap_kept (MapKept.heap_alloc wn (.cells (regO 0 (szM 162 σ)).vals 26)).1 ((Kp.refl noB _).drewN 1) id; have hrn := RsQ.no (by first | assumption | exact hrD _ | exact hrA _) kn; have c4n := hrn.st.c4; (try rw [bytesM_v] at c4n); have c9n := hrn.st.c9; have ptn := hrn.put Hv.out; have hSn := hrn.st.ltS; have hrA := fun o => RsQ.no hrn (Kp.alloc noB wn o); have hrD := fun o => (hrA o).drew; have ptA := fun o => (hrA o).put Hv.out; have ptD := fun o => (hrD o).put Hv.out))
  go_region_with (first
    | (go_at_call 213; refine (o_lit _ X _ _ _ (RsQ.st (by first | assumption | exact hrD _ | exact hrA _)) _).mono ?_; rintro e wn ⟨rfl, hd⟩; have hrn := RsQ.call (by first | assumption | exact hrD _ | exact hrA _) hd; have bk := heap_kept hbA hd.2 (by show ¬ _ = X.S; omega); obtain ⟨y0, y1, y2, y3, y4, y5, y6, y7, y8⟩ := res_cells bk; simp only [regO, Opd.zero] at y0 y1 y2 y3 y4 y5 y6 y7 y8; have c4n := hrn.st.c4; (try rw [bytesM_v] at c4n); have c9n := hrn.st.c9; have ptn := hrn.put Hv.out; have hSn := hrn.st.ltS; have hrA := fun o => RsQ.no hrn (Kp.alloc noB wn o); have hrD := fun o => (hrA o).drew; have ptA := fun o => (hrA o).put Hv.out; have ptD := fun o => (hrD o).put Hv.out))
  all_goals
    go_wp2
    exact bodyPost_ret (v := _) (res1 rfl _ _ w.heap.size _ rfl (RsQ.got Hv.out (by first | assumption | exact hrD _ | exact hrA _) _)) rfl ⟨rfl, RsQ.fin (by first | assumption | exact hrD _ | exact hrA _) _⟩
theorem upper_163 (w : World) (X : Cx) (σ : Sg) (f : Int × Int × Int) (h : RSt X w σ f 163) :
    Calls Tryz.prog 26 #[.pointer (some ⟨X.S, 0, none⟩)] w fun e w' => e = .returned (.agg (insV { Ins.zero with op := 8, size := szM 163 σ, a := (pO X (szM 163 σ) σ).1, b := regO 0 (szM 163 σ) })) ∧ RDn X w (pO X (szM 163 σ) σ).2 f 163 w' := by
  obtain ⟨T, nI, fsI, psI, hv, Hv, ⟨vl, vs, vb, va, vx⟩, v1, v2, v3, v4, v5, v6, p0, p1, p2, p3, p4, p5, p6, p7, sz, ne⟩ := vlP
  have hr := RsQ.start (T := T) h
  have pt := hr.put Hv.out
  have hS := h.ltS
  have c4 := h.c4
  have c9 := h.c9
  have Hvs : Hid (σ.v = 1 ∨ σ.v = 2 ∨ σ.v = 4) := Or.inr h.vv
  have Hsg : Hid _ := sgn_bd h
  have Hc0 : Hid (0 ≤ (163 : Int)) := by show (0 : Int) ≤ _; decide
  have Hsz : Hid (szM 163 σ = 1 ∨ szM 163 σ = 2 ∨ szM 163 σ = 4) := szM_or h.vv
  clear h hv
  go_enter Tryz.func26, Tryz.ntmps26
  try simp only [vl, vs, va, vb, vx]
  clear vl vs va vb vx
  obtain ⟨u0, u1, u2, u3, u4, u5, u6, u7, u8, u9, u10, u11, u12, u13, u14, u15, u16, u17, u18, u19, u20⟩ := ups21
  go_wp2_with (first
    | (go_at_call 209; refine (rsize_ok _ X _ _ _ (RsQ.st (by first | assumption | exact hrD _ | exact hrA _)) Hc0.out).mono ?_; rintro e wn ⟨rfl, rfl⟩; skip)
    | (go_at_call 207; refine (reg_lit _ _ _).mono ?_; rintro e wn ⟨rfl, kn⟩; have hbA : (wn.alloc (.cells (regO 0 (szM 163 σ)).vals 26)).drew.heap[wn.heap.size]? = some (.cells (regO 0 (szM 163 σ)).vals 26 (0, 0)) := heap_kept (MapKept.heap_alloc wn (.cells (regO 0 (szM 163 σ)).vals 26)).1 ((Kp.refl noB _).drewN 1) id; have hrn := RsQ.no (by first | assumption | exact hrD _ | exact hrA _) kn; have c4n := hrn.st.c4; (try rw [bytesM_v] at c4n); have c9n := hrn.st.c9; have ptn := hrn.put Hv.out; have hSn := hrn.st.ltS; have hrA := fun o => RsQ.no hrn (Kp.alloc noB wn o); have hrD := fun o => (hrA o).drew; have ptA := fun o => (hrA o).put Hv.out; have ptD := fun o => (hrD o).put Hv.out))
  go_region_with (first
    | (go_at_call 213; refine (o_lit _ X _ _ _ (RsQ.st (by first | assumption | exact hrD _ | exact hrA _)) _).mono ?_; rintro e wn ⟨rfl, hd⟩; have hrn := RsQ.call (by first | assumption | exact hrD _ | exact hrA _) hd; have bk := heap_kept hbA hd.2 (by show ¬ _ = X.S; omega); obtain ⟨y0, y1, y2, y3, y4, y5, y6, y7, y8⟩ := res_cells bk; simp only [regO, Opd.zero] at y0 y1 y2 y3 y4 y5 y6 y7 y8; have c4n := hrn.st.c4; (try rw [bytesM_v] at c4n); have c9n := hrn.st.c9; have ptn := hrn.put Hv.out; have hSn := hrn.st.ltS; have hrA := fun o => RsQ.no hrn (Kp.alloc noB wn o); have hrD := fun o => (hrA o).drew; have ptA := fun o => (hrA o).put Hv.out; have ptD := fun o => (hrD o).put Hv.out))
  all_goals
    go_wp2
    exact bodyPost_ret (v := _) (res1 rfl _ _ w.heap.size _ rfl (RsQ.got Hv.out (by first | assumption | exact hrD _ | exact hrA _) _)) rfl ⟨rfl, RsQ.fin (by first | assumption | exact hrD _ | exact hrA _) _⟩
theorem upper_168 (w : World) (X : Cx) (σ : Sg) (f : Int × Int × Int) (h : RSt X w σ f 168) :
    Calls Tryz.prog 26 #[.pointer (some ⟨X.S, 0, none⟩)] w fun e w' => e = .returned (.agg (insV { Ins.zero with op := 1, sub := 8, size := szM 168 σ, a := regO 0 (szM 168 σ), b := numO (bytesM X (szM 168 σ) σ).1 })) ∧ RDn X w (bytesM X (szM 168 σ) σ).2 f 168 w' := by
  obtain ⟨T, nI, fsI, psI, hv, Hv, ⟨vl, vs, vb, va, vx⟩, v1, v2, v3, v4, v5, v6, p0, p1, p2, p3, p4, p5, p6, p7, sz, ne⟩ := vlP
  have hr := RsQ.start (T := T) h
  have pt := hr.put Hv.out
  have hS := h.ltS
  have c4 := h.c4
  have c9 := h.c9
  have Hvs : Hid (σ.v = 1 ∨ σ.v = 2 ∨ σ.v = 4) := Or.inr h.vv
  have Hsg : Hid _ := sgn_bd h
  have Hc0 : Hid (0 ≤ (168 : Int)) := by show (0 : Int) ≤ _; decide
  have Hsz : Hid (szM 168 σ = 1 ∨ szM 168 σ = 2 ∨ szM 168 σ = 4) := szM_or h.vv
  clear h hv
  go_enter Tryz.func26, Tryz.ntmps26
  try simp only [vl, vs, va, vb, vx]
  clear vl vs va vb vx
  obtain ⟨u0, u1, u2, u3, u4, u5, u6, u7, u8, u9, u10, u11, u12, u13, u14, u15, u16, u17, u18, u19, u20⟩ := ups21
  go_wp2_with (first
    | (go_at_call 209; refine (rsize_ok _ X _ _ _ (RsQ.st (by first | assumption | exact hrD _ | exact hrA _)) Hc0.out).mono ?_; rintro e wn ⟨rfl, rfl⟩; skip)
    | (go_at_call 207; refine (reg_lit _ _ _).mono ?_; rintro e wn ⟨rfl, kn⟩; have hbA : (wn.alloc (.cells (regO 0 (szM 168 σ)).vals 26)).drew.heap[wn.heap.size]? = some (.cells (regO 0 (szM 168 σ)).vals 26 (0, 0)) := heap_kept (MapKept.heap_alloc wn (.cells (regO 0 (szM 168 σ)).vals 26)).1 ((Kp.refl noB _).drewN 1) id; have hrn := RsQ.no (by first | assumption | exact hrD _ | exact hrA _) kn; have c4n := hrn.st.c4; (try rw [bytesM_v] at c4n); have c9n := hrn.st.c9; have ptn := hrn.put Hv.out; have hSn := hrn.st.ltS; have hrA := fun o => RsQ.no hrn (Kp.alloc noB wn o); have hrD := fun o => (hrA o).drew; have ptA := fun o => (hrA o).put Hv.out; have ptD := fun o => (hrD o).put Hv.out))
  go_region_with (first
    | (go_at_call 211; refine (num_okR _ X _ _ _ (RsQ.st (by first | assumption | exact hrD _ | exact hrA _)) _ (by first | decide | exact Hvs.out | exact Hsz.out)).mono ?_; rintro e wn ⟨rfl, hd⟩; have hrn := RsQ.call (by first | assumption | exact hrD _ | exact hrA _) hd; have bk := heap_kept hbA hd.2 (by show ¬ _ = X.S; omega); obtain ⟨y0, y1, y2, y3, y4, y5, y6, y7, y8⟩ := res_cells bk; simp only [regO, Opd.zero] at y0 y1 y2 y3 y4 y5 y6 y7 y8; have c4n := hrn.st.c4; (try rw [bytesM_v] at c4n); have c9n := hrn.st.c9; have ptn := hrn.put Hv.out; have hSn := hrn.st.ltS; have hrA := fun o => RsQ.no hrn (Kp.alloc noB wn o); have hrD := fun o => (hrA o).drew; have ptA := fun o => (hrA o).put Hv.out; have ptD := fun o => (hrD o).put Hv.out)
    | (go_at_call 210; refine (imm_lit _ _).mono ?_; rintro e wn ⟨rfl, kn⟩; have bk := heap_kept bk kn id; obtain ⟨y0, y1, y2, y3, y4, y5, y6, y7, y8⟩ := res_cells bk; simp only [regO, Opd.zero] at y0 y1 y2 y3 y4 y5 y6 y7 y8; have hrn := RsQ.no (by first | assumption | exact hrD _ | exact hrA _) kn; have c4n := hrn.st.c4; (try rw [bytesM_v] at c4n); have c9n := hrn.st.c9; have ptn := hrn.put Hv.out; have hSn := hrn.st.ltS; have hrA := fun o => RsQ.no hrn (Kp.alloc noB wn o); have hrD := fun o => (hrA o).drew; have ptA := fun o => (hrA o).put Hv.out; have ptD := fun o => (hrD o).put Hv.out))
  all_goals
    go_wp2
    exact bodyPost_ret (v := _) (res1 rfl _ _ w.heap.size _ rfl (RsQ.got Hv.out (by first | assumption | exact hrD _ | exact hrA _) _)) rfl ⟨rfl, RsQ.fin (by first | assumption | exact hrD _ | exact hrA _) _⟩
theorem upper_169 (w : World) (X : Cx) (σ : Sg) (f : Int × Int × Int) (h : RSt X w σ f 169) :
    Calls Tryz.prog 26 #[.pointer (some ⟨X.S, 0, none⟩)] w fun e w' => e = .returned (.agg (insV { Ins.zero with op := 1, sub := 8, size := szM 169 σ, a := regO 0 (szM 169 σ), b := numO (bytesM X (szM 169 σ) σ).1 })) ∧ RDn X w (bytesM X (szM 169 σ) σ).2 f 169 w' := by
  obtain ⟨T, nI, fsI, psI, hv, Hv, ⟨vl, vs, vb, va, vx⟩, v1, v2, v3, v4, v5, v6, p0, p1, p2, p3, p4, p5, p6, p7, sz, ne⟩ := vlP
  have hr := RsQ.start (T := T) h
  have pt := hr.put Hv.out
  have hS := h.ltS
  have c4 := h.c4
  have c9 := h.c9
  have Hvs : Hid (σ.v = 1 ∨ σ.v = 2 ∨ σ.v = 4) := Or.inr h.vv
  have Hsg : Hid _ := sgn_bd h
  have Hc0 : Hid (0 ≤ (169 : Int)) := by show (0 : Int) ≤ _; decide
  have Hsz : Hid (szM 169 σ = 1 ∨ szM 169 σ = 2 ∨ szM 169 σ = 4) := szM_or h.vv
  clear h hv
  go_enter Tryz.func26, Tryz.ntmps26
  try simp only [vl, vs, va, vb, vx]
  clear vl vs va vb vx
  obtain ⟨u0, u1, u2, u3, u4, u5, u6, u7, u8, u9, u10, u11, u12, u13, u14, u15, u16, u17, u18, u19, u20⟩ := ups21
  go_wp2_with (first
    | (go_at_call 209; refine (rsize_ok _ X _ _ _ (RsQ.st (by first | assumption | exact hrD _ | exact hrA _)) Hc0.out).mono ?_; rintro e wn ⟨rfl, rfl⟩; skip)
    | (go_at_call 207; refine (reg_lit _ _ _).mono ?_; rintro e wn ⟨rfl, kn⟩; have hbA : (wn.alloc (.cells (regO 0 (szM 169 σ)).vals 26)).drew.heap[wn.heap.size]? = some (.cells (regO 0 (szM 169 σ)).vals 26 (0, 0)) := heap_kept (MapKept.heap_alloc wn (.cells (regO 0 (szM 169 σ)).vals 26)).1 ((Kp.refl noB _).drewN 1) id; have hrn := RsQ.no (by first | assumption | exact hrD _ | exact hrA _) kn; have c4n := hrn.st.c4; (try rw [bytesM_v] at c4n); have c9n := hrn.st.c9; have ptn := hrn.put Hv.out; have hSn := hrn.st.ltS; have hrA := fun o => RsQ.no hrn (Kp.alloc noB wn o); have hrD := fun o => (hrA o).drew; have ptA := fun o => (hrA o).put Hv.out; have ptD := fun o => (hrD o).put Hv.out))
  go_region_with (first
    | (go_at_call 211; refine (num_okR _ X _ _ _ (RsQ.st (by first | assumption | exact hrD _ | exact hrA _)) _ (by first | decide | exact Hvs.out | exact Hsz.out)).mono ?_; rintro e wn ⟨rfl, hd⟩; have hrn := RsQ.call (by first | assumption | exact hrD _ | exact hrA _) hd; have bk := heap_kept hbA hd.2 (by show ¬ _ = X.S; omega); obtain ⟨y0, y1, y2, y3, y4, y5, y6, y7, y8⟩ := res_cells bk; simp only [regO, Opd.zero] at y0 y1 y2 y3 y4 y5 y6 y7 y8; have c4n := hrn.st.c4; (try rw [bytesM_v] at c4n); have c9n := hrn.st.c9; have ptn := hrn.put Hv.out; have hSn := hrn.st.ltS; have hrA := fun o => RsQ.no hrn (Kp.alloc noB wn o); have hrD := fun o => (hrA o).drew; have ptA := fun o => (hrA o).put Hv.out; have ptD := fun o => (hrD o).put Hv.out)
    | (go_at_call 210; refine (imm_lit _ _).mono ?_; rintro e wn ⟨rfl, kn⟩; have bk := heap_kept bk kn id; obtain ⟨y0, y1, y2, y3, y4, y5, y6, y7, y8⟩ := res_cells bk; simp only [regO, Opd.zero] at y0 y1 y2 y3 y4 y5 y6 y7 y8; have hrn := RsQ.no (by first | assumption | exact hrD _ | exact hrA _) kn; have c4n := hrn.st.c4; (try rw [bytesM_v] at c4n); have c9n := hrn.st.c9; have ptn := hrn.put Hv.out; have hSn := hrn.st.ltS; have hrA := fun o => RsQ.no hrn (Kp.alloc noB wn o); have hrD := fun o => (hrA o).drew; have ptA := fun o => (hrA o).put Hv.out; have ptD := fun o => (hrD o).put Hv.out))
  all_goals
    go_wp2
    exact bodyPost_ret (v := _) (res1 rfl _ _ w.heap.size _ rfl (RsQ.got Hv.out (by first | assumption | exact hrD _ | exact hrA _) _)) rfl ⟨rfl, RsQ.fin (by first | assumption | exact hrD _ | exact hrA _) _⟩
theorem upper_B0 (w : World) (X : Cx) (σ : Sg) (f : Int × Int × Int) (c : Int) (h : RSt X w σ f c) (h0 : 0 ≤ c) (g0 : 176 ≤ c) (g1 : c < 184) :
    Calls Tryz.prog 26 #[.pointer (some ⟨X.S, 0, none⟩)] w fun e w' => e = .returned (.agg (insV { Ins.zero with op := 8, size := 1, a := regO (c % 8) 1, b := numO (bytesM X 1 σ).1 })) ∧ RDn X w (bytesM X 1 σ).2 f c w' := by
  obtain ⟨T, nI, fsI, psI, hv, Hv, ⟨vl, vs, vb, va, vx⟩, v1, v2, v3, v4, v5, v6, p0, p1, p2, p3, p4, p5, p6, p7, sz, ne⟩ := vlP
  have hr := RsQ.start (T := T) h
  have pt := hr.put Hv.out
  have hS := h.ltS
  have c4 := h.c4
  have c9 := h.c9
  have Hvs : Hid (σ.v = 1 ∨ σ.v = 2 ∨ σ.v = 4) := Or.inr h.vv
  have Hsg : Hid _ := sgn_bd h
  have Hc0 : Hid (0 ≤ (c : Int)) := by exact h0
  have Hsz : Hid (szM c σ = 1 ∨ szM c σ = 2 ∨ szM c σ = 4) := szM_or h.vv
  have ht : c.tmod 8 = c % 8 := Int.tmod_eq_emod_of_nonneg h0
  clear h hv
  go_enter Tryz.func26, Tryz.ntmps26
  try simp only [vl, vs, va, vb, vx]
  clear vl vs va vb vx
  obtain ⟨u0, u1, u2, u3, u4, u5, u6, u7, u8, u9, u10, u11, u12, u13, u14, u15, u16, u17, u18, u19, u20⟩ := ups21
  go_wp2_with (first
    | (go_at_call 211; refine (num_okR _ X _ _ _ (RsQ.st (by first | assumption | exact hrD _ | exact hrA _)) _ (by first | decide | exact Hvs.out | exact Hsz.out)).mono ?_; rintro e wn ⟨rfl, hd⟩; have hrn := RsQ.call (by first | assumption | exact hrD _ | exact hrA _) hd; have c4n := hrn.st.c4; (try rw [bytesM_v] at c4n); have c9n := hrn.st.c9; have ptn := hrn.put Hv.out; have hSn := hrn.st.ltS; have hrA := fun o => RsQ.no hrn (Kp.alloc noB wn o); have hrD := fun o => (hrA o).drew; have ptA := fun o => (hrA o).put Hv.out; have ptD := fun o => (hrD o).put Hv.out)
    | (go_at_call 209; refine (rsize_ok _ X _ _ _ (RsQ.st (by first | assumption | exact hrD _ | exact hrA _)) Hc0.out).mono ?_; rintro e wn ⟨rfl, rfl⟩; skip)
    | (go_at_call 210; refine (imm_lit _ _).mono ?_; rintro e wn ⟨rfl, kn⟩; have hrn := RsQ.no (by first | assumption | exact hrD _ | exact hrA _) kn; have c4n := hrn.st.c4; (try rw [bytesM_v] at c4n); have c9n := hrn.st.c9; have ptn := hrn.put Hv.out; have hSn := hrn.st.ltS; have hrA := fun o => RsQ.no hrn (Kp.alloc noB wn o); have hrD := fun o => (hrA o).drew; have ptA := fun o => (hrA o).put Hv.out; have ptD := fun o => (hrD o).put Hv.out)
    | (go_at_call 207; refine (reg_lit _ _ _).mono ?_; rintro e wn ⟨rfl, kn⟩; have hrn := RsQ.no (by first | assumption | exact hrD _ | exact hrA _) kn; have c4n := hrn.st.c4; (try rw [bytesM_v] at c4n); have c9n := hrn.st.c9; have ptn := hrn.put Hv.out; have hSn := hrn.st.ltS; have hrA := fun o => RsQ.no hrn (Kp.alloc noB wn o); have hrD := fun o => (hrA o).drew; have ptA := fun o => (hrA o).put Hv.out; have ptD := fun o => (hrD o).put Hv.out))
  exact bodyPost_ret (v := _) (res1 rfl _ _ w.heap.size _ rfl (RsQ.got Hv.out (by first | assumption | exact hrD _ | exact hrA _) _)) rfl ⟨rfl, RsQ.fin (by first | assumption | exact hrD _ | exact hrA _) _⟩
end Go.Proofs.YtbfccfhjgopnbaaGreat
