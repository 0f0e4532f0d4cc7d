/- The document's reader, and the code's (RfMiddle). -/
import Derived.Test.YtbfccfhjgopnbaaGreatDr09
set_option linter.unusedSimpArgs false
namespace Go.Proofs.YtbfccfhjgopnbaaGreat
open Go.ChangeShapes Go.WideShapes Go.ChangeAt Go.RowKit
set_option linter.unusedVariables false
set_option linter.unusedSimpArgs false
set_option maxHeartbeats 4000000
set_option maxRecDepth 20000
theorem middle_r8 (w : World) (X : Cx) (σ : Sg) (f : Int × Int × Int) (c : Int) (h : RSt X w σ f c) (h0 : 0 ≤ c) (hc : c / 8 = 8) :
    Calls Tryz.prog 24 #[.pointer (some ⟨X.S, 0, none⟩)] w fun e w' => e = .returned (.agg (insV { Ins.zero with op := 1, sub := 9, size := σ.v, a := regO (c % 8) σ.v })) ∧ RDn X w σ f c w' := by
  obtain ⟨T, nI, fsI, psI, hv, Hv, ⟨vl, vs, vb, va, vx⟩, v1, v2, v3, v4, v5, v6, p0, p1, p2, p3, p4, p5, p6, p7, sz, ne⟩ := vlP
  have hr := RsQ.start (T := T) h
  have pt := hr.put Hv.out
  have hS := h.ltS
  have c4 := h.c4
  have c9 := h.c9
  have Hvs : Hid (σ.v = 1 ∨ σ.v = 2 ∨ σ.v = 4) := Or.inr h.vv
  have Hsg : Hid _ := sgn_bd h
  have Hc0 : Hid (0 ≤ (c : Int)) := by exact h0
  have Hsz : Hid (szM c σ = 1 ∨ szM c σ = 2 ∨ szM c σ = 4) := szM_or h.vv
  clear h hv
  go_enter Tryz.func24, Tryz.ntmps24
  try simp only [vl, vs, va, vb, vx]
  clear vl vs va vb vx
  obtain ⟨u0, u1, u2, u3, u4, u5, u6, u7, u8, u9, u10, u11⟩ := ups12
  go_wp2_with (first
    | (go_at_call 207; refine (reg_lit _ _ _).mono ?_; rintro e wn ⟨rfl, kn⟩; have hrn := RsQ.no (by first | assumption | exact hrD _ | exact hrA _) kn; have c4n := hrn.st.c4; (try rw [bytesM_v] at c4n); have c9n := hrn.st.c9; have ptn := hrn.put Hv.out; have hSn := hrn.st.ltS; have hrA := fun o => RsQ.no hrn (Kp.alloc noB wn o); have hrD := fun o => (hrA o).drew; have ptA := fun o => (hrA o).put Hv.out; have ptD := fun o => (hrD o).put Hv.out))
  go_region_with (first
    | (go_at_call 211; refine (num_okR _ X _ _ _ (RsQ.st (by first | assumption | exact hrD _ | exact hrA _)) _ (by first | decide | exact Hvs.out | exact Hsz.out)).mono ?_; rintro e wn ⟨rfl, hd⟩; have hrn := RsQ.call (by first | assumption | exact hrD _ | exact hrA _) hd; have c4n := hrn.st.c4; (try rw [bytesM_v] at c4n); have c9n := hrn.st.c9; have ptn := hrn.put Hv.out; have hSn := hrn.st.ltS; have hrA := fun o => RsQ.no hrn (Kp.alloc noB wn o); have hrD := fun o => (hrA o).drew; have ptA := fun o => (hrA o).put Hv.out; have ptD := fun o => (hrD o).put Hv.out))
  all_goals
    go_wp2
    exact bodyPost_ret (v := _) (res1 rfl _ _ w.heap.size _ rfl (RsQ.got Hv.out (by first | assumption | exact hrD _ | exact hrA _) _)) rfl ⟨rfl, RsQ.fin (by first | assumption | exact hrD _ | exact hrA _) _⟩
theorem middle_r9 (w : World) (X : Cx) (σ : Sg) (f : Int × Int × Int) (c : Int) (h : RSt X w σ f c) (h0 : 0 ≤ c) (hc : c / 8 = 9) :
    Calls Tryz.prog 24 #[.pointer (some ⟨X.S, 0, none⟩)] w fun e w' => e = .returned (.agg (insV { Ins.zero with op := 1, sub := 10, size := σ.v, a := regO (c % 8) σ.v })) ∧ RDn X w σ f c w' := by
  obtain ⟨T, nI, fsI, psI, hv, Hv, ⟨vl, vs, vb, va, vx⟩, v1, v2, v3, v4, v5, v6, p0, p1, p2, p3, p4, p5, p6, p7, sz, ne⟩ := vlP
  have hr := RsQ.start (T := T) h
  have pt := hr.put Hv.out
  have hS := h.ltS
  have c4 := h.c4
  have c9 := h.c9
  have Hvs : Hid (σ.v = 1 ∨ σ.v = 2 ∨ σ.v = 4) := Or.inr h.vv
  have Hsg : Hid _ := sgn_bd h
  have Hc0 : Hid (0 ≤ (c : Int)) := by exact h0
  have Hsz : Hid (szM c σ = 1 ∨ szM c σ = 2 ∨ szM c σ = 4) := szM_or h.vv
  clear h hv
  go_enter Tryz.func24, Tryz.ntmps24
  try simp only [vl, vs, va, vb, vx]
  clear vl vs va vb vx
  obtain ⟨u0, u1, u2, u3, u4, u5, u6, u7, u8, u9, u10, u11⟩ := ups12
  go_wp2_with (first
    | (go_at_call 207; refine (reg_lit _ _ _).mono ?_; rintro e wn ⟨rfl, kn⟩; have hrn := RsQ.no (by first | assumption | exact hrD _ | exact hrA _) kn; have c4n := hrn.st.c4; (try rw [bytesM_v] at c4n); have c9n := hrn.st.c9; have ptn := hrn.put Hv.out; have hSn := hrn.st.ltS; have hrA := fun o => RsQ.no hrn (Kp.alloc noB wn o); have hrD := fun o => (hrA o).drew; have ptA := fun o => (hrA o).put Hv.out; have ptD := fun o => (hrD o).put Hv.out))
  go_region_with (first
    | (go_at_call 211; refine (num_okR _ X _ _ _ (RsQ.st (by first | assumption | exact hrD _ | exact hrA _)) _ (by first | decide | exact Hvs.out | exact Hsz.out)).mono ?_; rintro e wn ⟨rfl, hd⟩; have hrn := RsQ.call (by first | assumption | exact hrD _ | exact hrA _) hd; have c4n := hrn.st.c4; (try rw [bytesM_v] at c4n); have c9n := hrn.st.c9; have ptn := hrn.put Hv.out; have hSn := hrn.st.ltS; have hrA := fun o => RsQ.no hrn (Kp.alloc noB wn o); have hrD := fun o => (hrA o).drew; have ptA := fun o => (hrA o).put Hv.out; have ptD := fun o => (hrD o).put Hv.out))
  all_goals
    go_wp2
    exact bodyPost_ret (v := _) (res1 rfl _ _ w.heap.size _ rfl (RsQ.got Hv.out (by first | assumption | exact hrD _ | exact hrA _) _)) rfl ⟨rfl, RsQ.fin (by first | assumption | exact hrD _ | exact hrA _) _⟩
theorem middle_r10 (w : World) (X : Cx) (σ : Sg) (f : Int × Int × Int) (c : Int) (h : RSt X w σ f c) (h0 : 0 ≤ c) (hc : c / 8 = 10) :
    Calls Tryz.prog 24 #[.pointer (some ⟨X.S, 0, none⟩)] w fun e w' => e = .returned (.agg (insV { Ins.zero with op := 12, size := σ.v, a := regO (c % 8) σ.v })) ∧ RDn X w σ f c w' := by
  obtain ⟨T, nI, fsI, psI, hv, Hv, ⟨vl, vs, vb, va, vx⟩, v1, v2, v3, v4, v5, v6, p0, p1, p2, p3, p4, p5, p6, p7, sz, ne⟩ := vlP
  have hr := RsQ.start (T := T) h
  have pt := hr.put Hv.out
  have hS := h.ltS
  have c4 := h.c4
  have c9 := h.c9
  have Hvs : Hid (σ.v = 1 ∨ σ.v = 2 ∨ σ.v = 4) := Or.inr h.vv
  have Hsg : Hid _ := sgn_bd h
  have Hc0 : Hid (0 ≤ (c : Int)) := by exact h0
  have Hsz : Hid (szM c σ = 1 ∨ szM c σ = 2 ∨ szM c σ = 4) := szM_or h.vv
  clear h hv
  go_enter Tryz.func24, Tryz.ntmps24
  try simp only [vl, vs, va, vb, vx]
  clear vl vs va vb vx
  obtain ⟨u0, u1, u2, u3, u4, u5, u6, u7, u8, u9, u10, u11⟩ := ups12
  go_wp2_with (first
    | (go_at_call 207; refine (reg_lit _ _ _).mono ?_; rintro e wn ⟨rfl, kn⟩; have hrn := RsQ.no (by first | assumption | exact hrD _ | exact hrA _) kn; have c4n := hrn.st.c4; (try rw [bytesM_v] at c4n); have c9n := hrn.st.c9; have ptn := hrn.put Hv.out; have hSn := hrn.st.ltS; have hrA := fun o => RsQ.no hrn (Kp.alloc noB wn o); have hrD := fun o => (hrA o).drew; have ptA := fun o => (hrA o).put Hv.out; have ptD := fun o => (hrD o).put Hv.out))
  go_region_with (first
    | (go_at_call 211; refine (num_okR _ X _ _ _ (RsQ.st (by first | assumption | exact hrD _ | exact hrA _)) _ (by first | decide | exact Hvs.out | exact Hsz.out)).mono ?_; rintro e wn ⟨rfl, hd⟩; have hrn := RsQ.call (by first | assumption | exact hrD _ | exact hrA _) hd; have c4n := hrn.st.c4; (try rw [bytesM_v] at c4n); have c9n := hrn.st.c9; have ptn := hrn.put Hv.out; have hSn := hrn.st.ltS; have hrA := fun o => RsQ.no hrn (Kp.alloc noB wn o); have hrD := fun o => (hrA o).drew; have ptA := fun o => (hrA o).put Hv.out; have ptD := fun o => (hrD o).put Hv.out))
  all_goals
    go_wp2
    exact bodyPost_ret (v := _) (res1 rfl _ _ w.heap.size _ rfl (RsQ.got Hv.out (by first | assumption | exact hrD _ | exact hrA _) _)) rfl ⟨rfl, RsQ.fin (by first | assumption | exact hrD _ | exact hrA _) _⟩
theorem middle_r11 (w : World) (X : Cx) (σ : Sg) (f : Int × Int × Int) (c : Int) (h : RSt X w σ f c) (h0 : 0 ≤ c) (hc : c / 8 = 11) :
    Calls Tryz.prog 24 #[.pointer (some ⟨X.S, 0, none⟩)] w fun e w' => e = .returned (.agg (insV { Ins.zero with op := 13, size := σ.v, a := regO (c % 8) σ.v })) ∧ RDn X w σ f c w' := by
  obtain ⟨T, nI, fsI, psI, hv, Hv, ⟨vl, vs, vb, va, vx⟩, v1, v2, v3, v4, v5, v6, p0, p1, p2, p3, p4, p5, p6, p7, sz, ne⟩ := vlP
  have hr := RsQ.start (T := T) h
  have pt := hr.put Hv.out
  have hS := h.ltS
  have c4 := h.c4
  have c9 := h.c9
  have Hvs : Hid (σ.v = 1 ∨ σ.v = 2 ∨ σ.v = 4) := Or.inr h.vv
  have Hsg : Hid _ := sgn_bd h
  have Hc0 : Hid (0 ≤ (c : Int)) := by exact h0
  have Hsz : Hid (szM c σ = 1 ∨ szM c σ = 2 ∨ szM c σ = 4) := szM_or h.vv
  clear h hv
  go_enter Tryz.func24, Tryz.ntmps24
  try simp only [vl, vs, va, vb, vx]
  clear vl vs va vb vx
  obtain ⟨u0, u1, u2, u3, u4, u5, u6, u7, u8, u9, u10, u11⟩ := ups12
  go_wp2_with (first
    | (go_at_call 207; refine (reg_lit _ _ _).mono ?_; rintro e wn ⟨rfl, kn⟩; have hrn := RsQ.no (by first | assumption | exact hrD _ | exact hrA _) kn; have c4n := hrn.st.c4; (try rw [bytesM_v] at c4n); have c9n := hrn.st.c9; have ptn := hrn.put Hv.out; have hSn := hrn.st.ltS; have hrA := fun o => RsQ.no hrn (Kp.alloc noB wn o); have hrD := fun o => (hrA o).drew; have ptA := fun o => (hrA o).put Hv.out; have ptD := fun o => (hrD o).put Hv.out))
  go_region_with (first
    | (go_at_call 211; refine (num_okR _ X _ _ _ (RsQ.st (by first | assumption | exact hrD _ | exact hrA _)) _ (by first | decide | exact Hvs.out | exact Hsz.out)).mono ?_; rintro e wn ⟨rfl, hd⟩; have hrn := RsQ.call (by first | assumption | exact hrD _ | exact hrA _) hd; have c4n := hrn.st.c4; (try rw [bytesM_v] at c4n); have c9n := hrn.st.c9; have ptn := hrn.put Hv.out; have hSn := hrn.st.ltS; have hrA := fun o => RsQ.no hrn (Kp.alloc noB wn o); have hrD := fun o => (hrA o).drew; have ptA := fun o => (hrA o).put Hv.out; have ptD := fun o => (hrD o).put Hv.out))
  all_goals
    go_wp2
    exact bodyPost_ret (v := _) (res1 rfl _ _ w.heap.size _ rfl (RsQ.got Hv.out (by first | assumption | exact hrD _ | exact hrA _) _)) rfl ⟨rfl, RsQ.fin (by first | assumption | exact hrD _ | exact hrA _) _⟩
theorem middle_r14 (w : World) (X : Cx) (σ : Sg) (f : Int × Int × Int) (c : Int) (h : RSt X w σ f c) (h0 : 0 ≤ c) (hc : c / 8 = 14) :
    Calls Tryz.prog 24 #[.pointer (some ⟨X.S, 0, none⟩)] w fun e w' => e = .returned (.agg (insV { Ins.zero with op := 28, sub := c % 16, size := σ.v, a := relO (sgnM 1 (bytesM X 1 σ).1) })) ∧ RDn X w (bytesM X 1 σ).2 f c w' := by
  obtain ⟨T, nI, fsI, psI, hv, Hv, ⟨vl, vs, vb, va, vx⟩, v1, v2, v3, v4, v5, v6, p0, p1, p2, p3, p4, p5, p6, p7, sz, ne⟩ := vlP
  have hr := RsQ.start (T := T) h
  have pt := hr.put Hv.out
  have hS := h.ltS
  have c4 := h.c4
  have c9 := h.c9
  have Hvs : Hid (σ.v = 1 ∨ σ.v = 2 ∨ σ.v = 4) := Or.inr h.vv
  have Hsg : Hid _ := sgn_bd h
  have Hc0 : Hid (0 ≤ (c : Int)) := by exact h0
  have Hsz : Hid (szM c σ = 1 ∨ szM c σ = 2 ∨ szM c σ = 4) := szM_or h.vv
  have ht : c.tmod 16 = c % 16 := Int.tmod_eq_emod_of_nonneg h0
  clear h hv
  go_enter Tryz.func24, Tryz.ntmps24
  try simp only [vl, vs, va, vb, vx]
  clear vl vs va vb vx
  obtain ⟨u0, u1, u2, u3, u4, u5, u6, u7, u8, u9, u10, u11⟩ := ups12
  go_wp2_with (first
    | (go_at_call 207; refine (reg_lit _ _ _).mono ?_; rintro e wn ⟨rfl, kn⟩; have hrn := RsQ.no (by first | assumption | exact hrD _ | exact hrA _) kn; have c4n := hrn.st.c4; (try rw [bytesM_v] at c4n); have c9n := hrn.st.c9; have ptn := hrn.put Hv.out; have hSn := hrn.st.ltS; have hrA := fun o => RsQ.no hrn (Kp.alloc noB wn o); have hrD := fun o => (hrA o).drew; have ptA := fun o => (hrA o).put Hv.out; have ptD := fun o => (hrD o).put Hv.out))
  go_region_with (first
    | (go_at_call 204; refine (signed_okR _ X _ _ _ (RsQ.st (by first | assumption | exact hrD _ | exact hrA _)) _ (by first | decide | exact Hvs.out)).mono ?_; rintro e wn ⟨rfl, hd⟩; have hrn := RsQ.call (by first | assumption | exact hrD _ | exact hrA _) hd; have c4n := hrn.st.c4; (try rw [bytesM_v] at c4n); have c9n := hrn.st.c9; have ptn := hrn.put Hv.out; have hSn := hrn.st.ltS; have hrA := fun o => RsQ.no hrn (Kp.alloc noB wn o); have hrD := fun o => (hrA o).drew; have ptA := fun o => (hrA o).put Hv.out; have ptD := fun o => (hrD o).put Hv.out))
  all_goals
    go_wp2
    exact bodyPost_ret (v := _) (res1 rfl _ _ w.heap.size _ rfl (RsQ.got Hv.out (by first | assumption | exact hrD _ | exact hrA _) _)) rfl ⟨rfl, RsQ.fin (by first | assumption | exact hrD _ | exact hrA _) _⟩
theorem middle_r15 (w : World) (X : Cx) (σ : Sg) (f : Int × Int × Int) (c : Int) (h : RSt X w σ f c) (h0 : 0 ≤ c) (hc : c / 8 = 15) :
    Calls Tryz.prog 24 #[.pointer (some ⟨X.S, 0, none⟩)] w fun e w' => e = .returned (.agg (insV { Ins.zero with op := 28, sub := c % 16, size := σ.v, a := relO (sgnM 1 (bytesM X 1 σ).1) })) ∧ RDn X w (bytesM X 1 σ).2 f c w' := by
  obtain ⟨T, nI, fsI, psI, hv, Hv, ⟨vl, vs, vb, va, vx⟩, v1, v2, v3, v4, v5, v6, p0, p1, p2, p3, p4, p5, p6, p7, sz, ne⟩ := vlP
  have hr := RsQ.start (T := T) h
  have pt := hr.put Hv.out
  have hS := h.ltS
  have c4 := h.c4
  have c9 := h.c9
  have Hvs : Hid (σ.v = 1 ∨ σ.v = 2 ∨ σ.v = 4) := Or.inr h.vv
  have Hsg : Hid _ := sgn_bd h
  have Hc0 : Hid (0 ≤ (c : Int)) := by exact h0
  have Hsz : Hid (szM c σ = 1 ∨ szM c σ = 2 ∨ szM c σ = 4) := szM_or h.vv
  have ht : c.tmod 16 = c % 16 := Int.tmod_eq_emod_of_nonneg h0
  clear h hv
  go_enter Tryz.func24, Tryz.ntmps24
  try simp only [vl, vs, va, vb, vx]
  clear vl vs va vb vx
  obtain ⟨u0, u1, u2, u3, u4, u5, u6, u7, u8, u9, u10, u11⟩ := ups12
  go_wp2_with (first
    | (go_at_call 207; refine (reg_lit _ _ _).mono ?_; rintro e wn ⟨rfl, kn⟩; have hrn := RsQ.no (by first | assumption | exact hrD _ | exact hrA _) kn; have c4n := hrn.st.c4; (try rw [bytesM_v] at c4n); have c9n := hrn.st.c9; have ptn := hrn.put Hv.out; have hSn := hrn.st.ltS; have hrA := fun o => RsQ.no hrn (Kp.alloc noB wn o); have hrD := fun o => (hrA o).drew; have ptA := fun o => (hrA o).put Hv.out; have ptD := fun o => (hrD o).put Hv.out))
  go_region_with (first
    | (go_at_call 204; refine (signed_okR _ X _ _ _ (RsQ.st (by first | assumption | exact hrD _ | exact hrA _)) _ (by first | decide | exact Hvs.out)).mono ?_; rintro e wn ⟨rfl, hd⟩; have hrn := RsQ.call (by first | assumption | exact hrD _ | exact hrA _) hd; have c4n := hrn.st.c4; (try rw [bytesM_v] at c4n); have c9n := hrn.st.c9; have ptn := hrn.put Hv.out; have hSn := hrn.st.ltS; have hrA := fun o => RsQ.no hrn (Kp.alloc noB wn o); have hrD := fun o => (hrA o).drew; have ptA := fun o => (hrA o).put Hv.out; have ptD := fun o => (hrD o).put Hv.out))
  all_goals
    go_wp2
    exact bodyPost_ret (v := _) (res1 rfl _ _ w.heap.size _ rfl (RsQ.got Hv.out (by first | assumption | exact hrD _ | exact hrA _) _)) rfl ⟨rfl, RsQ.fin (by first | assumption | exact hrD _ | exact hrA _) _⟩
theorem middle_96 (w : World) (X : Cx) (σ : Sg) (f : Int × Int × Int) (h : RSt X w σ f 96) :
    Calls Tryz.prog 24 #[.pointer (some ⟨X.S, 0, none⟩)] w fun e w' => e = .returned (.agg (insV { Ins.zero with op := 14, size := σ.v })) ∧ RDn X w σ f 96 w' := by
  obtain ⟨T, nI, fsI, psI, hv, Hv, ⟨vl, vs, vb, va, vx⟩, v1, v2, v3, v4, v5, v6, p0, p1, p2, p3, p4, p5, p6, p7, sz, ne⟩ := vlP
  have hr := RsQ.start (T := T) h
  have pt := hr.put Hv.out
  have hS := h.ltS
  have c4 := h.c4
  have c9 := h.c9
  have Hvs : Hid (σ.v = 1 ∨ σ.v = 2 ∨ σ.v = 4) := Or.inr h.vv
  have Hsg : Hid _ := sgn_bd h
  have Hc0 : Hid (0 ≤ (96 : Int)) := by show (0 : Int) ≤ _; decide
  have Hsz : Hid (szM 96 σ = 1 ∨ szM 96 σ = 2 ∨ szM 96 σ = 4) := szM_or h.vv
  clear h hv
  go_enter Tryz.func24, Tryz.ntmps24
  try simp only [vl, vs, va, vb, vx]
  clear vl vs va vb vx
  have u0 := insUp0
  have u2 := insUp2
  go_wp2_with (first
    | (go_at_call 207; refine (reg_lit _ _ _).mono ?_; rintro e wn ⟨rfl, kn⟩; have hrn := RsQ.no (by first | assumption | exact hrD _ | exact hrA _) kn; have c4n := hrn.st.c4; (try rw [bytesM_v] at c4n); have c9n := hrn.st.c9; have ptn := hrn.put Hv.out; have hSn := hrn.st.ltS; have hrA := fun o => RsQ.no hrn (Kp.alloc noB wn o); have hrD := fun o => (hrA o).drew; have ptA := fun o => (hrA o).put Hv.out; have ptD := fun o => (hrD o).put Hv.out))
  exact bodyPost_ret (v := _) (res1 rfl _ _ w.heap.size _ rfl (RsQ.got Hv.out (by first | assumption | exact hrD _ | exact hrA _) _)) rfl ⟨rfl, RsQ.fin (by first | assumption | exact hrD _ | exact hrA _) _⟩
theorem middle_97 (w : World) (X : Cx) (σ : Sg) (f : Int × Int × Int) (h : RSt X w σ f 97) :
    Calls Tryz.prog 24 #[.pointer (some ⟨X.S, 0, none⟩)] w fun e w' => e = .returned (.agg (insV { Ins.zero with op := 15, size := σ.v })) ∧ RDn X w σ f 97 w' := by
  obtain ⟨T, nI, fsI, psI, hv, Hv, ⟨vl, vs, vb, va, vx⟩, v1, v2, v3, v4, v5, v6, p0, p1, p2, p3, p4, p5, p6, p7, sz, ne⟩ := vlP
  have hr := RsQ.start (T := T) h
  have pt := hr.put Hv.out
  have hS := h.ltS
  have c4 := h.c4
  have c9 := h.c9
  have Hvs : Hid (σ.v = 1 ∨ σ.v = 2 ∨ σ.v = 4) := Or.inr h.vv
  have Hsg : Hid _ := sgn_bd h
  have Hc0 : Hid (0 ≤ (97 : Int)) := by show (0 : Int) ≤ _; decide
  have Hsz : Hid (szM 97 σ = 1 ∨ szM 97 σ = 2 ∨ szM 97 σ = 4) := szM_or h.vv
  clear h hv
  go_enter Tryz.func24, Tryz.ntmps24
  try simp only [vl, vs, va, vb, vx]
  clear vl vs va vb vx
  have u0 := insUp0
  have u2 := insUp2
  go_wp2_with (first
    | (go_at_call 207; refine (reg_lit _ _ _).mono ?_; rintro e wn ⟨rfl, kn⟩; have hrn := RsQ.no (by first | assumption | exact hrD _ | exact hrA _) kn; have c4n := hrn.st.c4; (try rw [bytesM_v] at c4n); have c9n := hrn.st.c9; have ptn := hrn.put Hv.out; have hSn := hrn.st.ltS; have hrA := fun o => RsQ.no hrn (Kp.alloc noB wn o); have hrD := fun o => (hrA o).drew; have ptA := fun o => (hrA o).put Hv.out; have ptD := fun o => (hrD o).put Hv.out))
  exact bodyPost_ret (v := _) (res1 rfl _ _ w.heap.size _ rfl (RsQ.got Hv.out (by first | assumption | exact hrD _ | exact hrA _) _)) rfl ⟨rfl, RsQ.fin (by first | assumption | exact hrD _ | exact hrA _) _⟩
theorem middle_104 (w : World) (X : Cx) (σ : Sg) (f : Int × Int × Int) (h : RSt X w σ f 104) :
    Calls Tryz.prog 24 #[.pointer (some ⟨X.S, 0, none⟩)] w fun e w' => e = .returned (.agg (insV { Ins.zero with op := 12, size := σ.v, a := numO (bytesM X σ.v σ).1 })) ∧ RDn X w (bytesM X σ.v σ).2 f 104 w' := by
  obtain ⟨T, nI, fsI, psI, hv, Hv, ⟨vl, vs, vb, va, vx⟩, v1, v2, v3, v4, v5, v6, p0, p1, p2, p3, p4, p5, p6, p7, sz, ne⟩ := vlP
  have hr := RsQ.start (T := T) h
  have pt := hr.put Hv.out
  have hS := h.ltS
  have c4 := h.c4
  have c9 := h.c9
  have Hvs : Hid (σ.v = 1 ∨ σ.v = 2 ∨ σ.v = 4) := Or.inr h.vv
  have Hsg : Hid _ := sgn_bd h
  have Hc0 : Hid (0 ≤ (104 : Int)) := by show (0 : Int) ≤ _; decide
  have Hsz : Hid (szM 104 σ = 1 ∨ szM 104 σ = 2 ∨ szM 104 σ = 4) := szM_or h.vv
  clear h hv
  go_enter Tryz.func24, Tryz.ntmps24
  try simp only [vl, vs, va, vb, vx]
  clear vl vs va vb vx
  obtain ⟨u0, u1, u2, u3, u4, u5, u6, u7, u8, u9, u10, u11⟩ := ups12
  go_wp2_with (first
    | (go_at_call 207; refine (reg_lit _ _ _).mono ?_; rintro e wn ⟨rfl, kn⟩; have hrn := RsQ.no (by first | assumption | exact hrD _ | exact hrA _) kn; have c4n := hrn.st.c4; (try rw [bytesM_v] at c4n); have c9n := hrn.st.c9; have ptn := hrn.put Hv.out; have hSn := hrn.st.ltS; have hrA := fun o => RsQ.no hrn (Kp.alloc noB wn o); have hrD := fun o => (hrA o).drew; have ptA := fun o => (hrA o).put Hv.out; have ptD := fun o => (hrD o).put Hv.out))
  go_region_with (first
    | (go_at_call 211; refine (num_okR _ X _ _ _ (RsQ.st (by first | assumption | exact hrD _ | exact hrA _)) _ (by first | decide | exact Hvs.out | exact Hsz.out)).mono ?_; rintro e wn ⟨rfl, hd⟩; have hrn := RsQ.call (by first | assumption | exact hrD _ | exact hrA _) hd; have c4n := hrn.st.c4; (try rw [bytesM_v] at c4n); have c9n := hrn.st.c9; have ptn := hrn.put Hv.out; have hSn := hrn.st.ltS; have hrA := fun o => RsQ.no hrn (Kp.alloc noB wn o); have hrD := fun o => (hrA o).drew; have ptA := fun o => (hrA o).put Hv.out; have ptD := fun o => (hrD o).put Hv.out)
    | (go_at_call 210; refine (imm_lit _ _).mono ?_; rintro e wn ⟨rfl, kn⟩; have hrn := RsQ.no (by first | assumption | exact hrD _ | exact hrA _) kn; have c4n := hrn.st.c4; (try rw [bytesM_v] at c4n); have c9n := hrn.st.c9; have ptn := hrn.put Hv.out; have hSn := hrn.st.ltS; have hrA := fun o => RsQ.no hrn (Kp.alloc noB wn o); have hrD := fun o => (hrA o).drew; have ptA := fun o => (hrA o).put Hv.out; have ptD := fun o => (hrD o).put Hv.out))
  all_goals
    go_wp2
    exact bodyPost_ret (v := _) (res1 rfl _ _ w.heap.size _ rfl (RsQ.got Hv.out (by first | assumption | exact hrD _ | exact hrA _) _)) rfl ⟨rfl, RsQ.fin (by first | assumption | exact hrD _ | exact hrA _) _⟩
theorem middle_106 (w : World) (X : Cx) (σ : Sg) (f : Int × Int × Int) (h : RSt X w σ f 106) :
    Calls Tryz.prog 24 #[.pointer (some ⟨X.S, 0, none⟩)] w fun e w' => e = .returned (.agg (insV { Ins.zero with op := 12, size := σ.v, a := numO (cutM σ.v (sgnM 1 (bytesM X 1 σ).1)) })) ∧ RDn X w (bytesM X 1 σ).2 f 106 w' := by
  obtain ⟨T, nI, fsI, psI, hv, Hv, ⟨vl, vs, vb, va, vx⟩, v1, v2, v3, v4, v5, v6, p0, p1, p2, p3, p4, p5, p6, p7, sz, ne⟩ := vlP
  have hr := RsQ.start (T := T) h
  have pt := hr.put Hv.out
  have hS := h.ltS
  have c4 := h.c4
  have c9 := h.c9
  have Hvs : Hid (σ.v = 1 ∨ σ.v = 2 ∨ σ.v = 4) := Or.inr h.vv
  have Hsg : Hid _ := sgn_bd h
  have Hc0 : Hid (0 ≤ (106 : Int)) := by show (0 : Int) ≤ _; decide
  have Hsz : Hid (szM 106 σ = 1 ∨ szM 106 σ = 2 ∨ szM 106 σ = 4) := szM_or h.vv
  clear h hv
  go_enter Tryz.func24, Tryz.ntmps24
  try simp only [vl, vs, va, vb, vx]
  clear vl vs va vb vx
  obtain ⟨u0, u1, u2, u3, u4, u5, u6, u7, u8, u9, u10, u11⟩ := ups12
  go_wp2_with (first
    | (go_at_call 207; refine (reg_lit _ _ _).mono ?_; rintro e wn ⟨rfl, kn⟩; have hrn := RsQ.no (by first | assumption | exact hrD _ | exact hrA _) kn; have c4n := hrn.st.c4; (try rw [bytesM_v] at c4n); have c9n := hrn.st.c9; have ptn := hrn.put Hv.out; have hSn := hrn.st.ltS; have hrA := fun o => RsQ.no hrn (Kp.alloc noB wn o); have hrD := fun o => (hrA o).drew; have ptA := fun o => (hrA o).put Hv.out; have ptD := fun o => (hrD o).put Hv.out))
  go_region_with (first
    | (go_at_call 204; refine (signed_okR _ X _ _ _ (RsQ.st (by first | assumption | exact hrD _ | exact hrA _)) _ (by first | decide | exact Hvs.out)).mono ?_; rintro e wn ⟨rfl, hd⟩; have hrn := RsQ.call (by first | assumption | exact hrD _ | exact hrA _) hd; have c4n := hrn.st.c4; (try rw [bytesM_v] at c4n); have c9n := hrn.st.c9; have ptn := hrn.put Hv.out; have hSn := hrn.st.ltS; have hrA := fun o => RsQ.no hrn (Kp.alloc noB wn o); have hrD := fun o => (hrA o).drew; have ptA := fun o => (hrA o).put Hv.out; have ptD := fun o => (hrD o).put Hv.out)
    | (go_at_call 212; refine (rcut_v _ X _ _ _ (RsQ.st (by first | assumption | exact hrD _ | exact hrA _)) Hsg.out).mono ?_; rintro e wn ⟨rfl, rfl⟩; skip)
    | (go_at_call 210; refine (imm_lit _ _).mono ?_; rintro e wn ⟨rfl, kn⟩; have hrn := RsQ.no (by first | assumption | exact hrD _ | exact hrA _) kn; have c4n := hrn.st.c4; (try rw [bytesM_v] at c4n); have c9n := hrn.st.c9; have ptn := hrn.put Hv.out; have hSn := hrn.st.ltS; have hrA := fun o => RsQ.no hrn (Kp.alloc noB wn o); have hrD := fun o => (hrA o).drew; have ptA := fun o => (hrA o).put Hv.out; have ptD := fun o => (hrD o).put Hv.out))
  all_goals
    go_wp2
    exact bodyPost_ret (v := _) (res1 rfl _ _ w.heap.size _ rfl (RsQ.got Hv.out (by first | assumption | exact hrD _ | exact hrA _) _)) rfl ⟨rfl, RsQ.fin (by first | assumption | exact hrD _ | exact hrA _) _⟩
end Go.Proofs.YtbfccfhjgopnbaaGreat
