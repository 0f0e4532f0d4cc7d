/- The document's reader, and the code's (RfUpB8). -/
import Derived.Test.YtbfccfhjgopnbaaGreatDr13
set_option linter.unusedSimpArgs false
namespace Go.Proofs.YtbfccfhjgopnbaaGreat
open Go.ChangeShapes Go.WideShapes Go.ChangeAt Go.RowKit
set_option linter.unusedVariables false
set_option linter.unusedSimpArgs false
set_option maxRecDepth 20000
set_option maxHeartbeats 4000000 in
theorem upper_B8 (w : World) (X : Cx) (σ : Sg) (f : Int × Int × Int) (c : Int) (h : RSt X w σ f c) (h0 : 0 ≤ c) (g0 : 184 ≤ c) :
    Calls Tryz.prog 26 #[.pointer (some ⟨X.S, 0, none⟩)] w fun e w' => e = .returned (.agg (insV { Ins.zero with op := 8, size := σ.v, a := regO (c % 8) σ.v, b := numO (bytesM X σ.v σ).1 })) ∧ RDn X w (bytesM X σ.v σ).2 f c w' := by
  obtain ⟨T, nI, fsI, psI, hv, Hv, ⟨vl, vs, vb, va, vx⟩, v1, v2, v3, v4, v5, v6, p0, p1, p2, p3, p4, p5, p6, p7, sz, ne⟩ := vlP
  have hr := RsQ.start (T := T) h
  have pt := hr.put Hv.out
  have hS := h.ltS
  have c4 := h.c4
  have c9 := h.c9
  have Hvs : Hid (σ.v = 1 ∨ σ.v = 2 ∨ σ.v = 4) := Or.inr h.vv
  have Hsg : Hid _ := sgn_bd h
  have Hc0 : Hid (0 ≤ (c : Int)) := by exact h0
  have Hsz : Hid (szM c σ = 1 ∨ szM c σ = 2 ∨ szM c σ = 4) := szM_or h.vv
  have ht : c.tmod 8 = c % 8 := Int.tmod_eq_emod_of_nonneg h0
  have g1 : 176 ≤ c := by omega
  have g2 : ¬ c < 184 := by omega
  clear h hv
  go_enter Tryz.func26, Tryz.ntmps26
  try simp only [vl, vs, va, vb, vx]
  clear vl vs va vb vx
  obtain ⟨u0, u1, u2, u3, u4, u5, u6, u7, u8, u9, u10, u11, u12, u13, u14, u15, u16, u17, u18, u19, u20⟩ := ups21
  go_wp2_with (first
    | (go_at_call 211; refine (num_okR _ X _ _ _ (RsQ.st (by first | assumption | exact hrD _ | exact hrA _)) _ (by first | decide | exact Hvs.out | exact Hsz.out)).mono ?_; rintro e wn ⟨rfl, hd⟩; have hrn := RsQ.call (by first | assumption | exact hrD _ | exact hrA _) hd; have c4n := hrn.st.c4; (try rw [bytesM_v] at c4n); have c9n := hrn.st.c9; have ptn := hrn.put Hv.out; have hSn := hrn.st.ltS; have hrA := fun o => RsQ.no hrn (Kp.alloc noB wn o); have hrD := fun o => (hrA o).drew; have ptA := fun o => (hrA o).put Hv.out; have ptD := fun o => (hrD o).put Hv.out)
    | (go_at_call 204; refine (signed_okR _ X _ _ _ (RsQ.st (by first | assumption | exact hrD _ | exact hrA _)) _ (by first | decide | exact Hvs.out)).mono ?_; rintro e wn ⟨rfl, hd⟩; have hrn := RsQ.call (by first | assumption | exact hrD _ | exact hrA _) hd; have c4n := hrn.st.c4; (try rw [bytesM_v] at c4n); have c9n := hrn.st.c9; have ptn := hrn.put Hv.out; have hSn := hrn.st.ltS; have hrA := fun o => RsQ.no hrn (Kp.alloc noB wn o); have hrD := fun o => (hrA o).drew; have ptA := fun o => (hrA o).put Hv.out; have ptD := fun o => (hrD o).put Hv.out)
    | (go_at_call 212; refine (rcut_v _ X _ _ _ (RsQ.st (by first | assumption | exact hrD _ | exact hrA _)) Hsg.out).mono ?_; rintro e wn ⟨rfl, rfl⟩; skip)
    | (go_at_call 209; refine (rsize_ok _ X _ _ _ (RsQ.st (by first | assumption | exact hrD _ | exact hrA _)) Hc0.out).mono ?_; rintro e wn ⟨rfl, rfl⟩; skip)
    | (go_at_call 213; refine (o_lit _ X _ _ _ (RsQ.st (by first | assumption | exact hrD _ | exact hrA _)) _).mono ?_; rintro e wn ⟨rfl, hd⟩; have hrn := RsQ.call (by first | assumption | exact hrD _ | exact hrA _) hd; have c4n := hrn.st.c4; (try rw [bytesM_v] at c4n); have c9n := hrn.st.c9; have ptn := hrn.put Hv.out; have hSn := hrn.st.ltS; have hrA := fun o => RsQ.no hrn (Kp.alloc noB wn o); have hrD := fun o => (hrA o).drew; have ptA := fun o => (hrA o).put Hv.out; have ptD := fun o => (hrD o).put Hv.out)
    | (go_at_call 210; refine (imm_lit _ _).mono ?_; rintro e wn ⟨rfl, kn⟩; have hrn := RsQ.no (by first | assumption | exact hrD _ | exact hrA _) kn; have c4n := hrn.st.c4; (try rw [bytesM_v] at c4n); have c9n := hrn.st.c9; have ptn := hrn.put Hv.out; have hSn := hrn.st.ltS; have hrA := fun o => RsQ.no hrn (Kp.alloc noB wn o); have hrD := fun o => (hrA o).drew; have ptA := fun o => (hrA o).put Hv.out; have ptD := fun o => (hrD o).put Hv.out)
    | (go_at_call 207; refine (reg_lit _ _ _).mono ?_; rintro e wn ⟨rfl, kn⟩; have hrn := RsQ.no (by first | assumption | exact hrD _ | exact hrA _) kn; have c4n := hrn.st.c4; (try rw [bytesM_v] at c4n); have c9n := hrn.st.c9; have ptn := hrn.put Hv.out; have hSn := hrn.st.ltS; have hrA := fun o => RsQ.no hrn (Kp.alloc noB wn o); have hrD := fun o => (hrA o).drew; have ptA := fun o => (hrA o).put Hv.out; have ptD := fun o => (hrD o).put Hv.out))
  go_region_with (first
    | (go_at_call 211; refine (num_okR _ X _ _ _ (RsQ.st (by first | assumption | exact hrD _ | exact hrA _)) _ (by first | decide | exact Hvs.out | exact Hsz.out)).mono ?_; rintro e wn ⟨rfl, hd⟩; have hrn := RsQ.call (by first | assumption | exact hrD _ | exact hrA _) hd; have c4n := hrn.st.c4; (try rw [bytesM_v] at c4n); have c9n := hrn.st.c9; have ptn := hrn.put Hv.out; have hSn := hrn.st.ltS; have hrA := fun o => RsQ.no hrn (Kp.alloc noB wn o); have hrD := fun o => (hrA o).drew; have ptA := fun o => (hrA o).put Hv.out; have ptD := fun o => (hrD o).put Hv.out)
    | (go_at_call 204; refine (signed_okR _ X _ _ _ (RsQ.st (by first | assumption | exact hrD _ | exact hrA _)) _ (by first | decide | exact Hvs.out)).mono ?_; rintro e wn ⟨rfl, hd⟩; have hrn := RsQ.call (by first | assumption | exact hrD _ | exact hrA _) hd; have c4n := hrn.st.c4; (try rw [bytesM_v] at c4n); have c9n := hrn.st.c9; have ptn := hrn.put Hv.out; have hSn := hrn.st.ltS; have hrA := fun o => RsQ.no hrn (Kp.alloc noB wn o); have hrD := fun o => (hrA o).drew; have ptA := fun o => (hrA o).put Hv.out; have ptD := fun o => (hrD o).put Hv.out)
    | (go_at_call 212; refine (rcut_v _ X _ _ _ (RsQ.st (by first | assumption | exact hrD _ | exact hrA _)) Hsg.out).mono ?_; rintro e wn ⟨rfl, rfl⟩; skip)
    | (go_at_call 209; refine (rsize_ok _ X _ _ _ (RsQ.st (by first | assumption | exact hrD _ | exact hrA _)) Hc0.out).mono ?_; rintro e wn ⟨rfl, rfl⟩; skip)
    | (go_at_call 213; refine (o_lit _ X _ _ _ (RsQ.st (by first | assumption | exact hrD _ | exact hrA _)) _).mono ?_; rintro e wn ⟨rfl, hd⟩; have hrn := RsQ.call (by first | assumption | exact hrD _ | exact hrA _) hd; have c4n := hrn.st.c4; (try rw [bytesM_v] at c4n); have c9n := hrn.st.c9; have ptn := hrn.put Hv.out; have hSn := hrn.st.ltS; have hrA := fun o => RsQ.no hrn (Kp.alloc noB wn o); have hrD := fun o => (hrA o).drew; have ptA := fun o => (hrA o).put Hv.out; have ptD := fun o => (hrD o).put Hv.out)
    | (go_at_call 210; refine (imm_lit _ _).mono ?_; rintro e wn ⟨rfl, kn⟩; have hrn := RsQ.no (by first | assumption | exact hrD _ | exact hrA _) kn; have c4n := hrn.st.c4; (try rw [bytesM_v] at c4n); have c9n := hrn.st.c9; have ptn := hrn.put Hv.out; have hSn := hrn.st.ltS; have hrA := fun o => RsQ.no hrn (Kp.alloc noB wn o); have hrD := fun o => (hrA o).drew; have ptA := fun o => (hrA o).put Hv.out; have ptD := fun o => (hrD o).put Hv.out)
    | (go_at_call 207; refine (reg_lit _ _ _).mono ?_; rintro e wn ⟨rfl, kn⟩; have hrn := RsQ.no (by first | assumption | exact hrD _ | exact hrA _) kn; have c4n := hrn.st.c4; (try rw [bytesM_v] at c4n); have c9n := hrn.st.c9; have ptn := hrn.put Hv.out; have hSn := hrn.st.ltS; have hrA := fun o => RsQ.no hrn (Kp.alloc noB wn o); have hrD := fun o => (hrA o).drew; have ptA := fun o => (hrA o).put Hv.out; have ptD := fun o => (hrD o).put Hv.out))
  all_goals
    go_wp2
    exact bodyPost_ret (v := _) (res1 rfl _ _ w.heap.size _ rfl (RsQ.got Hv.out (by first | assumption | exact hrD _ | exact hrA _) _)) rfl ⟨rfl, RsQ.fin (by first | assumption | exact hrD _ | exact hrA _) _⟩
end Go.Proofs.YtbfccfhjgopnbaaGreat
