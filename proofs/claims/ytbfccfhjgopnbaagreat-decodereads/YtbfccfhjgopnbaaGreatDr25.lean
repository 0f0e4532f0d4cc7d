/- The document's reader, and the code's (RfUds2). -/
import Derived.Test.YtbfccfhjgopnbaaGreatDr09
set_option linter.unusedSimpArgs false
namespace Go.Proofs.YtbfccfhjgopnbaaGreat
open Go.ChangeShapes Go.WideShapes Go.ChangeAt Go.RowKit
set_option linter.unusedVariables false
set_option linter.unusedSimpArgs false
set_option maxHeartbeats 4000000
set_option maxRecDepth 20000
theorem middle_u (w : World) (X : Cx) (σ : Sg) (f : Int × Int × Int) {c : Int} (h : RSt X w σ f c) (hc : c = 98 ∨ c = 99 ∨ c = 103 ∨ c = 108 ∨ c = 109 ∨ c = 110 ∨ c = 111) :
    Calls Tryz.prog 24 #[.pointer (some ⟨X.S, 0, none⟩)] w fun e w' => e = .returned (.agg (insV Ins.zero)) ∧ RDn X w (refuse σ) f c w' := by
  obtain ⟨T, nI, fsI, psI, hv, Hv, ⟨vl, vs, vb, va, vx⟩, v1, v2, v3, v4, v5, v6, p0, p1, p2, p3, p4, p5, p6, p7, sz, ne⟩ := vlP
  have hr := RsQ.start (T := T) h
  have pt := hr.put Hv.out
  have hS := h.ltS
  have c4 := h.c4
  have c9 := h.c9
  have hrA := fun o => RsQ.no hr (Kp.alloc noB _ o)
  have hrD := fun o => (hrA o).drew
  have ptA := fun o => (hrA o).put Hv.out
  have Hvs : Hid (σ.v = 1 ∨ σ.v = 2 ∨ σ.v = 4) := Or.inr h.vv
  have Hsg : Hid _ := sgn_bd h
  have Hc0 : Hid (0 ≤ c) := by show (0 : Int) ≤ _; omega
  have Hsz : Hid (szM c σ = 1 ∨ szM c σ = 2 ∨ szM c σ = 4) := szM_or h.vv
  clear h hv
  rcases hc with rfl | rfl | rfl | rfl | rfl | rfl | rfl
  all_goals
    go_enter Tryz.func24, Tryz.ntmps24
    try simp only [vl, vs, va, vb, vx]
    clear vl vs va vb vx
    go_wp2_with (first
      | (go_at_call 207; refine (reg_lit _ _ _).mono ?_; rintro e wn ⟨rfl, kn⟩; have hrn := RsQ.no (by first | assumption | exact hrD _ | exact hrA _) kn; have c4n := hrn.st.c4; (try rw [bytesM_v] at c4n); have c9n := hrn.st.c9; have ptn := hrn.put Hv.out; have hSn := hrn.st.ltS; have hrA := fun o => RsQ.no hrn (Kp.alloc noB wn o); have hrD := fun o => (hrA o).drew; have ptA := fun o => (hrA o).put Hv.out; have ptD := fun o => (hrD o).put Hv.out)
      | (go_at_call 31; refine (ud_ok _ X _ _ _ (RsQ.st (by first | assumption | exact hrD _ | exact hrA _))).mono ?_; rintro e wn ⟨rfl, hd⟩; have hrn := RsQ.call (by first | assumption | exact hrD _ | exact hrA _) hd; have c4n := hrn.st.c4; (try rw [bytesM_v] at c4n); have c9n := hrn.st.c9; have ptn := hrn.put Hv.out; have hSn := hrn.st.ltS; have hrA := fun o => RsQ.no hrn (Kp.alloc noB wn o); have hrD := fun o => (hrA o).drew; have ptA := fun o => (hrA o).put Hv.out; have ptD := fun o => (hrD o).put Hv.out))
    all_goals
      exact bodyPost_ret (v := _) (res1 rfl _ _ w.heap.size _ rfl (RsQ.got Hv.out (by first | assumption | exact hrD _ | exact hrA _) _)) rfl ⟨rfl, RsQ.fin (by first | assumption | exact hrD _ | exact hrA _) _⟩
theorem upper_u (w : World) (X : Cx) (σ : Sg) (f : Int × Int × Int) {c : Int} (h : RSt X w σ f c) (hc : c = 154 ∨ c = 155) :
    Calls Tryz.prog 26 #[.pointer (some ⟨X.S, 0, none⟩)] w fun e w' => e = .returned (.agg (insV Ins.zero)) ∧ RDn X w (refuse σ) f c w' := by
  obtain ⟨T, nI, fsI, psI, hv, Hv, ⟨vl, vs, vb, va, vx⟩, v1, v2, v3, v4, v5, v6, p0, p1, p2, p3, p4, p5, p6, p7, sz, ne⟩ := vlP
  have hr := RsQ.start (T := T) h
  have pt := hr.put Hv.out
  have hS := h.ltS
  have c4 := h.c4
  have c9 := h.c9
  have hrA := fun o => RsQ.no hr (Kp.alloc noB _ o)
  have hrD := fun o => (hrA o).drew
  have ptA := fun o => (hrA o).put Hv.out
  have Hvs : Hid (σ.v = 1 ∨ σ.v = 2 ∨ σ.v = 4) := Or.inr h.vv
  have Hsg : Hid _ := sgn_bd h
  have Hc0 : Hid (0 ≤ c) := by show (0 : Int) ≤ _; omega
  have Hsz : Hid (szM c σ = 1 ∨ szM c σ = 2 ∨ szM c σ = 4) := szM_or h.vv
  clear h hv
  rcases hc with rfl | rfl
  all_goals
    go_enter Tryz.func26, Tryz.ntmps26
    try simp only [vl, vs, va, vb, vx]
    clear vl vs va vb vx
    go_wp2_with (first
      | (go_at_call 209; refine (rsize_ok _ X _ _ _ (RsQ.st (by first | assumption | exact hrD _ | exact hrA _)) Hc0.out).mono ?_; rintro e wn ⟨rfl, rfl⟩; skip)
      | (go_at_call 207; refine (reg_lit _ _ _).mono ?_; rintro e wn ⟨rfl, kn⟩; have hrn := RsQ.no (by first | assumption | exact hrD _ | exact hrA _) kn; have c4n := hrn.st.c4; (try rw [bytesM_v] at c4n); have c9n := hrn.st.c9; have ptn := hrn.put Hv.out; have hSn := hrn.st.ltS; have hrA := fun o => RsQ.no hrn (Kp.alloc noB wn o); have hrD := fun o => (hrA o).drew; have ptA := fun o => (hrA o).put Hv.out; have ptD := fun o => (hrD o).put Hv.out)
      | (go_at_call 31; refine (ud_ok _ X _ _ _ (RsQ.st (by first | assumption | exact hrD _ | exact hrA _))).mono ?_; rintro e wn ⟨rfl, hd⟩; have hrn := RsQ.call (by first | assumption | exact hrD _ | exact hrA _) hd; have c4n := hrn.st.c4; (try rw [bytesM_v] at c4n); have c9n := hrn.st.c9; have ptn := hrn.put Hv.out; have hSn := hrn.st.ltS; have hrA := fun o => RsQ.no hrn (Kp.alloc noB wn o); have hrD := fun o => (hrA o).drew; have ptA := fun o => (hrA o).put Hv.out; have ptD := fun o => (hrD o).put Hv.out))
    all_goals
      exact bodyPost_ret (v := _) (res1 rfl _ _ w.heap.size _ rfl (RsQ.got Hv.out (by first | assumption | exact hrD _ | exact hrA _) _)) rfl ⟨rfl, RsQ.fin (by first | assumption | exact hrD _ | exact hrA _) _⟩
end Go.Proofs.YtbfccfhjgopnbaaGreat
