/- The document's reader, and the code's (RfStr, RfStrs). -/
import Derived.Test.YtbfccfhjgopnbaaGreatDr09
set_option linter.unusedSimpArgs false
namespace Go.Proofs.YtbfccfhjgopnbaaGreat
open Go.ChangeShapes Go.WideShapes Go.ChangeAt Go.RowKit
set_option linter.unusedVariables false
set_option linter.unusedSimpArgs false
set_option maxRecDepth 20000
def strI (c sub : Int) (σ : Sg) : Ins := { Ins.zero with op := 36, sub := sub, size := szM c σ, a := mem9 (szM c σ) (rsegD σ.seg) (-1) (-1) 1 0, rep := σ.rep }
set_option maxHeartbeats 4000000 in
theorem str_ok (w : World) (X : Cx) (σ : Sg) (f : Int × Int × Int) (c : Int) (h : RSt X w σ f c) (h0 : 0 ≤ c) (sub : Int) :
    Calls Tryz.prog 214 #[.pointer (some ⟨X.S, 0, none⟩), .int .i64 sub] w fun e w' => e = .returned (.agg (insV (strI c sub σ))) ∧ RDn X w σ f c w' := by
  obtain ⟨T, nI, fsI, psI, hv, Hv, ⟨vl, vs, vb, va, vx⟩, v1, v2, v3, v4, v5, v6, p0, p1, p2, p3, p4, p5, p6, p7, sz, ne⟩ := vlP
  have hr := RsQ.start (T := T) h
  have hrA := fun o => RsQ.no hr (Kp.alloc noB _ o)
  have hrD := fun o => (hrA o).drew
  have ptD := fun o => (hrD o).put Hv.out
  have hS := h.ltS
  have c3 := h.c3
  have c5 := h.c5
  have cS := rsize_ok _ X _ _ _ hr.st h0
  have HrD : Hid _ := hrD
  obtain ⟨g, hg⟩ : ∃ g, g = σ.seg := ⟨_, rfl⟩
  rw [← hg] at c3
  have eI : strI c sub σ = { Ins.zero with op := 36, sub := sub, size := szM c σ, a := mem9 (szM c σ) (rsegD g) (-1) (-1) 1 0, rep := σ.rep } := by rw [hg]; rfl
  rw [eI]
  clear eI hg h hv hr hrA hrD
  by_cases hge : 0 ≤ g
  all_goals
    first | rw [show rsegD g = g from if_pos hge] | rw [show rsegD g = 3 from if_neg hge]
    go_enter Tryz.func214, Tryz.ntmps214
    try simp only [vl, vs, va, vb, vx]
    clear vl vs va vb vx
    obtain ⟨u0, u1, u2, u3, u4, u5, u6, u7, u8, u9, u10, u11⟩ := ups12
    have u30 := insUp30
    go_wp2_with fail
    refine cS.mono ?_; rintro e wn ⟨rfl, rfl⟩
    go_wp2
    go_region
    all_goals
      go_wp2
      exact bodyPost_ret (v := _) (res1 rfl _ _ w.heap.size _ rfl (RsQ.got Hv.out (HrD.out _) _)) rfl ⟨rfl, RsQ.fin (HrD.out _) _⟩
end Go.Proofs.YtbfccfhjgopnbaaGreat
namespace Go.Proofs.YtbfccfhjgopnbaaGreat
open Go.ChangeShapes Go.WideShapes Go.ChangeAt Go.RowKit
set_option linter.unusedVariables false
set_option linter.unusedSimpArgs false
set_option maxHeartbeats 1000000
set_option maxRecDepth 20000
theorem upper_164 (w : World) (X : Cx) (σ : Sg) (f : Int × Int × Int) (h : RSt X w σ f 164) :
    Calls Tryz.prog 26 #[.pointer (some ⟨X.S, 0, none⟩)] w fun e w' => e = .returned (.agg (insV (strI 164 0 σ))) ∧ RDn X w σ f 164 w' := by
  obtain ⟨T, nI, fsI, psI, hv, Hv, ⟨vl, vs, vb, va, vx⟩, v1, v2, v3, v4, v5, v6, p0, p1, p2, p3, p4, p5, p6, p7, sz, ne⟩ := vlP
  have hr := RsQ.start (T := T) h
  have hS := h.ltS
  have c4 := h.c4
  have c9 := h.c9
  have hrA := fun o => RsQ.no hr (Kp.alloc noB _ o)
  have hrD := hrA
  clear h hv
  go_enter Tryz.func26, Tryz.ntmps26
  try simp only [vl, vs, va, vb, vx]
  clear vl vs va vb vx
  go_wp2_with (first
    | (go_at_call 209; refine (rsize_ok _ X _ _ _ (RsQ.st (by first | assumption | exact hrD _ | exact hrA _)) (by decide)).mono ?_; rintro e wn ⟨rfl, rfl⟩)
    | (go_at_call 207; refine (reg_lit _ _ _).mono ?_; rintro e wn ⟨rfl, kn⟩; have hrn := RsQ.no (by first | assumption | exact hrD _ | exact hrA _) kn; have c4n := hrn.st.c4; have c9n := hrn.st.c9; have hSn := hrn.st.ltS; have hrA := fun o => RsQ.no hrn (Kp.alloc noB wn o); have hrD := hrA)
    | (go_at_call 214; refine (str_ok _ X σ f 164 (RsQ.st (by first | assumption | exact hrD _ | exact hrA _)) (by decide) _).mono ?_; rintro e wn ⟨rfl, hd⟩; have hrn := RsQ.call (by first | assumption | exact hrD _ | exact hrA _) hd; have ptn := hrn.put Hv.out))
  exact bodyPost_ret (v := _) (res1 rfl _ _ w.heap.size _ rfl (RsQ.got Hv.out (by assumption) _)) rfl ⟨rfl, RsQ.fin (by assumption) _⟩
theorem upper_165 (w : World) (X : Cx) (σ : Sg) (f : Int × Int × Int) (h : RSt X w σ f 165) :
    Calls Tryz.prog 26 #[.pointer (some ⟨X.S, 0, none⟩)] w fun e w' => e = .returned (.agg (insV (strI 165 0 σ))) ∧ RDn X w σ f 165 w' := by
  obtain ⟨T, nI, fsI, psI, hv, Hv, ⟨vl, vs, vb, va, vx⟩, v1, v2, v3, v4, v5, v6, p0, p1, p2, p3, p4, p5, p6, p7, sz, ne⟩ := vlP
  have hr := RsQ.start (T := T) h
  have hS := h.ltS
  have c4 := h.c4
  have c9 := h.c9
  have hrA := fun o => RsQ.no hr (Kp.alloc noB _ o)
  have hrD := hrA
  clear h hv
  go_enter Tryz.func26, Tryz.ntmps26
  try simp only [vl, vs, va, vb, vx]
  clear vl vs va vb vx
  go_wp2_with (first
    | (go_at_call 209; refine (rsize_ok _ X _ _ _ (RsQ.st (by first | assumption | exact hrD _ | exact hrA _)) (by decide)).mono ?_; rintro e wn ⟨rfl, rfl⟩)
    | (go_at_call 207; refine (reg_lit _ _ _).mono ?_; rintro e wn ⟨rfl, kn⟩; have hrn := RsQ.no (by first | assumption | exact hrD _ | exact hrA _) kn; have c4n := hrn.st.c4; have c9n := hrn.st.c9; have hSn := hrn.st.ltS; have hrA := fun o => RsQ.no hrn (Kp.alloc noB wn o); have hrD := hrA)
    | (go_at_call 214; refine (str_ok _ X σ f 165 (RsQ.st (by first | assumption | exact hrD _ | exact hrA _)) (by decide) _).mono ?_; rintro e wn ⟨rfl, hd⟩; have hrn := RsQ.call (by first | assumption | exact hrD _ | exact hrA _) hd; have ptn := hrn.put Hv.out))
  exact bodyPost_ret (v := _) (res1 rfl _ _ w.heap.size _ rfl (RsQ.got Hv.out (by assumption) _)) rfl ⟨rfl, RsQ.fin (by assumption) _⟩
theorem upper_166 (w : World) (X : Cx) (σ : Sg) (f : Int × Int × Int) (h : RSt X w σ f 166) :
    Calls Tryz.prog 26 #[.pointer (some ⟨X.S, 0, none⟩)] w fun e w' => e = .returned (.agg (insV (strI 166 1 σ))) ∧ RDn X w σ f 166 w' := by
  obtain ⟨T, nI, fsI, psI, hv, Hv, ⟨vl, vs, vb, va, vx⟩, v1, v2, v3, v4, v5, v6, p0, p1, p2, p3, p4, p5, p6, p7, sz, ne⟩ := vlP
  have hr := RsQ.start (T := T) h
  have hS := h.ltS
  have c4 := h.c4
  have c9 := h.c9
  have hrA := fun o => RsQ.no hr (Kp.alloc noB _ o)
  have hrD := hrA
  clear h hv
  go_enter Tryz.func26, Tryz.ntmps26
  try simp only [vl, vs, va, vb, vx]
  clear vl vs va vb vx
  go_wp2_with (first
    | (go_at_call 209; refine (rsize_ok _ X _ _ _ (RsQ.st (by first | assumption | exact hrD _ | exact hrA _)) (by decide)).mono ?_; rintro e wn ⟨rfl, rfl⟩)
    | (go_at_call 207; refine (reg_lit _ _ _).mono ?_; rintro e wn ⟨rfl, kn⟩; have hrn := RsQ.no (by first | assumption | exact hrD _ | exact hrA _) kn; have c4n := hrn.st.c4; have c9n := hrn.st.c9; have hSn := hrn.st.ltS; have hrA := fun o => RsQ.no hrn (Kp.alloc noB wn o); have hrD := hrA)
    | (go_at_call 214; refine (str_ok _ X σ f 166 (RsQ.st (by first | assumption | exact hrD _ | exact hrA _)) (by decide) _).mono ?_; rintro e wn ⟨rfl, hd⟩; have hrn := RsQ.call (by first | assumption | exact hrD _ | exact hrA _) hd; have ptn := hrn.put Hv.out))
  exact bodyPost_ret (v := _) (res1 rfl _ _ w.heap.size _ rfl (RsQ.got Hv.out (by assumption) _)) rfl ⟨rfl, RsQ.fin (by assumption) _⟩
theorem upper_167 (w : World) (X : Cx) (σ : Sg) (f : Int × Int × Int) (h : RSt X w σ f 167) :
    Calls Tryz.prog 26 #[.pointer (some ⟨X.S, 0, none⟩)] w fun e w' => e = .returned (.agg (insV (strI 167 1 σ))) ∧ RDn X w σ f 167 w' := by
  obtain ⟨T, nI, fsI, psI, hv, Hv, ⟨vl, vs, vb, va, vx⟩, v1, v2, v3, v4, v5, v6, p0, p1, p2, p3, p4, p5, p6, p7, sz, ne⟩ := vlP
  have hr := RsQ.start (T := T) h
  have hS := h.ltS
  have c4 := h.c4
  have c9 := h.c9
  have hrA := fun o => RsQ.no hr (Kp.alloc noB _ o)
  have hrD := hrA
  clear h hv
  go_enter Tryz.func26, Tryz.ntmps26
  try simp only [vl, vs, va, vb, vx]
  clear vl vs va vb vx
  go_wp2_with (first
    | (go_at_call 209; refine (rsize_ok _ X _ _ _ (RsQ.st (by first | assumption | exact hrD _ | exact hrA _)) (by decide)).mono ?_; rintro e wn ⟨rfl, rfl⟩)
    | (go_at_call 207; refine (reg_lit _ _ _).mono ?_; rintro e wn ⟨rfl, kn⟩; have hrn := RsQ.no (by first | assumption | exact hrD _ | exact hrA _) kn; have c4n := hrn.st.c4; have c9n := hrn.st.c9; have hSn := hrn.st.ltS; have hrA := fun o => RsQ.no hrn (Kp.alloc noB wn o); have hrD := hrA)
    | (go_at_call 214; refine (str_ok _ X σ f 167 (RsQ.st (by first | assumption | exact hrD _ | exact hrA _)) (by decide) _).mono ?_; rintro e wn ⟨rfl, hd⟩; have hrn := RsQ.call (by first | assumption | exact hrD _ | exact hrA _) hd; have ptn := hrn.put Hv.out))
  exact bodyPost_ret (v := _) (res1 rfl _ _ w.heap.size _ rfl (RsQ.got Hv.out (by assumption) _)) rfl ⟨rfl, RsQ.fin (by assumption) _⟩
theorem upper_170 (w : World) (X : Cx) (σ : Sg) (f : Int × Int × Int) (h : RSt X w σ f 170) :
    Calls Tryz.prog 26 #[.pointer (some ⟨X.S, 0, none⟩)] w fun e w' => e = .returned (.agg (insV (strI 170 2 σ))) ∧ RDn X w σ f 170 w' := by
  obtain ⟨T, nI, fsI, psI, hv, Hv, ⟨vl, vs, vb, va, vx⟩, v1, v2, v3, v4, v5, v6, p0, p1, p2, p3, p4, p5, p6, p7, sz, ne⟩ := vlP
  have hr := RsQ.start (T := T) h
  have hS := h.ltS
  have c4 := h.c4
  have c9 := h.c9
  have hrA := fun o => RsQ.no hr (Kp.alloc noB _ o)
  have hrD := hrA
  clear h hv
  go_enter Tryz.func26, Tryz.ntmps26
  try simp only [vl, vs, va, vb, vx]
  clear vl vs va vb vx
  go_wp2_with (first
    | (go_at_call 209; refine (rsize_ok _ X _ _ _ (RsQ.st (by first | assumption | exact hrD _ | exact hrA _)) (by decide)).mono ?_; rintro e wn ⟨rfl, rfl⟩)
    | (go_at_call 207; refine (reg_lit _ _ _).mono ?_; rintro e wn ⟨rfl, kn⟩; have hrn := RsQ.no (by first | assumption | exact hrD _ | exact hrA _) kn; have c4n := hrn.st.c4; have c9n := hrn.st.c9; have hSn := hrn.st.ltS; have hrA := fun o => RsQ.no hrn (Kp.alloc noB wn o); have hrD := hrA)
    | (go_at_call 214; refine (str_ok _ X σ f 170 (RsQ.st (by first | assumption | exact hrD _ | exact hrA _)) (by decide) _).mono ?_; rintro e wn ⟨rfl, hd⟩; have hrn := RsQ.call (by first | assumption | exact hrD _ | exact hrA _) hd; have ptn := hrn.put Hv.out))
  exact bodyPost_ret (v := _) (res1 rfl _ _ w.heap.size _ rfl (RsQ.got Hv.out (by assumption) _)) rfl ⟨rfl, RsQ.fin (by assumption) _⟩
theorem upper_171 (w : World) (X : Cx) (σ : Sg) (f : Int × Int × Int) (h : RSt X w σ f 171) :
    Calls Tryz.prog 26 #[.pointer (some ⟨X.S, 0, none⟩)] w fun e w' => e = .returned (.agg (insV (strI 171 2 σ))) ∧ RDn X w σ f 171 w' := by
  obtain ⟨T, nI, fsI, psI, hv, Hv, ⟨vl, vs, vb, va, vx⟩, v1, v2, v3, v4, v5, v6, p0, p1, p2, p3, p4, p5, p6, p7, sz, ne⟩ := vlP
  have hr := RsQ.start (T := T) h
  have hS := h.ltS
  have c4 := h.c4
  have c9 := h.c9
  have hrA := fun o => RsQ.no hr (Kp.alloc noB _ o)
  have hrD := hrA
  clear h hv
  go_enter Tryz.func26, Tryz.ntmps26
  try simp only [vl, vs, va, vb, vx]
  clear vl vs va vb vx
  go_wp2_with (first
    | (go_at_call 209; refine (rsize_ok _ X _ _ _ (RsQ.st (by first | assumption | exact hrD _ | exact hrA _)) (by decide)).mono ?_; rintro e wn ⟨rfl, rfl⟩)
    | (go_at_call 207; refine (reg_lit _ _ _).mono ?_; rintro e wn ⟨rfl, kn⟩; have hrn := RsQ.no (by first | assumption | exact hrD _ | exact hrA _) kn; have c4n := hrn.st.c4; have c9n := hrn.st.c9; have hSn := hrn.st.ltS; have hrA := fun o => RsQ.no hrn (Kp.alloc noB wn o); have hrD := hrA)
    | (go_at_call 214; refine (str_ok _ X σ f 171 (RsQ.st (by first | assumption | exact hrD _ | exact hrA _)) (by decide) _).mono ?_; rintro e wn ⟨rfl, hd⟩; have hrn := RsQ.call (by first | assumption | exact hrD _ | exact hrA _) hd; have ptn := hrn.put Hv.out))
  exact bodyPost_ret (v := _) (res1 rfl _ _ w.heap.size _ rfl (RsQ.got Hv.out (by assumption) _)) rfl ⟨rfl, RsQ.fin (by assumption) _⟩
theorem upper_172 (w : World) (X : Cx) (σ : Sg) (f : Int × Int × Int) (h : RSt X w σ f 172) :
    Calls Tryz.prog 26 #[.pointer (some ⟨X.S, 0, none⟩)] w fun e w' => e = .returned (.agg (insV (strI 172 3 σ))) ∧ RDn X w σ f 172 w' := by
  obtain ⟨T, nI, fsI, psI, hv, Hv, ⟨vl, vs, vb, va, vx⟩, v1, v2, v3, v4, v5, v6, p0, p1, p2, p3, p4, p5, p6, p7, sz, ne⟩ := vlP
  have hr := RsQ.start (T := T) h
  have hS := h.ltS
  have c4 := h.c4
  have c9 := h.c9
  have hrA := fun o => RsQ.no hr (Kp.alloc noB _ o)
  have hrD := hrA
  clear h hv
  go_enter Tryz.func26, Tryz.ntmps26
  try simp only [vl, vs, va, vb, vx]
  clear vl vs va vb vx
  go_wp2_with (first
    | (go_at_call 209; refine (rsize_ok _ X _ _ _ (RsQ.st (by first | assumption | exact hrD _ | exact hrA _)) (by decide)).mono ?_; rintro e wn ⟨rfl, rfl⟩)
    | (go_at_call 207; refine (reg_lit _ _ _).mono ?_; rintro e wn ⟨rfl, kn⟩; have hrn := RsQ.no (by first | assumption | exact hrD _ | exact hrA _) kn; have c4n := hrn.st.c4; have c9n := hrn.st.c9; have hSn := hrn.st.ltS; have hrA := fun o => RsQ.no hrn (Kp.alloc noB wn o); have hrD := hrA)
    | (go_at_call 214; refine (str_ok _ X σ f 172 (RsQ.st (by first | assumption | exact hrD _ | exact hrA _)) (by decide) _).mono ?_; rintro e wn ⟨rfl, hd⟩; have hrn := RsQ.call (by first | assumption | exact hrD _ | exact hrA _) hd; have ptn := hrn.put Hv.out))
  exact bodyPost_ret (v := _) (res1 rfl _ _ w.heap.size _ rfl (RsQ.got Hv.out (by assumption) _)) rfl ⟨rfl, RsQ.fin (by assumption) _⟩
theorem upper_173 (w : World) (X : Cx) (σ : Sg) (f : Int × Int × Int) (h : RSt X w σ f 173) :
    Calls Tryz.prog 26 #[.pointer (some ⟨X.S, 0, none⟩)] w fun e w' => e = .returned (.agg (insV (strI 173 3 σ))) ∧ RDn X w σ f 173 w' := by
  obtain ⟨T, nI, fsI, psI, hv, Hv, ⟨vl, vs, vb, va, vx⟩, v1, v2, v3, v4, v5, v6, p0, p1, p2, p3, p4, p5, p6, p7, sz, ne⟩ := vlP
  have hr := RsQ.start (T := T) h
  have hS := h.ltS
  have c4 := h.c4
  have c9 := h.c9
  have hrA := fun o => RsQ.no hr (Kp.alloc noB _ o)
  have hrD := hrA
  clear h hv
  go_enter Tryz.func26, Tryz.ntmps26
  try simp only [vl, vs, va, vb, vx]
  clear vl vs va vb vx
  go_wp2_with (first
    | (go_at_call 209; refine (rsize_ok _ X _ _ _ (RsQ.st (by first | assumption | exact hrD _ | exact hrA _)) (by decide)).mono ?_; rintro e wn ⟨rfl, rfl⟩)
    | (go_at_call 207; refine (reg_lit _ _ _).mono ?_; rintro e wn ⟨rfl, kn⟩; have hrn := RsQ.no (by first | assumption | exact hrD _ | exact hrA _) kn; have c4n := hrn.st.c4; have c9n := hrn.st.c9; have hSn := hrn.st.ltS; have hrA := fun o => RsQ.no hrn (Kp.alloc noB wn o); have hrD := hrA)
    | (go_at_call 214; refine (str_ok _ X σ f 173 (RsQ.st (by first | assumption | exact hrD _ | exact hrA _)) (by decide) _).mono ?_; rintro e wn ⟨rfl, hd⟩; have hrn := RsQ.call (by first | assumption | exact hrD _ | exact hrA _) hd; have ptn := hrn.put Hv.out))
  exact bodyPost_ret (v := _) (res1 rfl _ _ w.heap.size _ rfl (RsQ.got Hv.out (by assumption) _)) rfl ⟨rfl, RsQ.fin (by assumption) _⟩
theorem upper_174 (w : World) (X : Cx) (σ : Sg) (f : Int × Int × Int) (h : RSt X w σ f 174) :
    Calls Tryz.prog 26 #[.pointer (some ⟨X.S, 0, none⟩)] w fun e w' => e = .returned (.agg (insV (strI 174 4 σ))) ∧ RDn X w σ f 174 w' := by
  obtain ⟨T, nI, fsI, psI, hv, Hv, ⟨vl, vs, vb, va, vx⟩, v1, v2, v3, v4, v5, v6, p0, p1, p2, p3, p4, p5, p6, p7, sz, ne⟩ := vlP
  have hr := RsQ.start (T := T) h
  have hS := h.ltS
  have c4 := h.c4
  have c9 := h.c9
  have hrA := fun o => RsQ.no hr (Kp.alloc noB _ o)
  have hrD := hrA
  clear h hv
  go_enter Tryz.func26, Tryz.ntmps26
  try simp only [vl, vs, va, vb, vx]
  clear vl vs va vb vx
  go_wp2_with (first
    | (go_at_call 209; refine (rsize_ok _ X _ _ _ (RsQ.st (by first | assumption | exact hrD _ | exact hrA _)) (by decide)).mono ?_; rintro e wn ⟨rfl, rfl⟩)
    | (go_at_call 207; refine (reg_lit _ _ _).mono ?_; rintro e wn ⟨rfl, kn⟩; have hrn := RsQ.no (by first | assumption | exact hrD _ | exact hrA _) kn; have c4n := hrn.st.c4; have c9n := hrn.st.c9; have hSn := hrn.st.ltS; have hrA := fun o => RsQ.no hrn (Kp.alloc noB wn o); have hrD := hrA)
    | (go_at_call 214; refine (str_ok _ X σ f 174 (RsQ.st (by first | assumption | exact hrD _ | exact hrA _)) (by decide) _).mono ?_; rintro e wn ⟨rfl, hd⟩; have hrn := RsQ.call (by first | assumption | exact hrD _ | exact hrA _) hd; have ptn := hrn.put Hv.out))
  exact bodyPost_ret (v := _) (res1 rfl _ _ w.heap.size _ rfl (RsQ.got Hv.out (by assumption) _)) rfl ⟨rfl, RsQ.fin (by assumption) _⟩
theorem upper_175 (w : World) (X : Cx) (σ : Sg) (f : Int × Int × Int) (h : RSt X w σ f 175) :
    Calls Tryz.prog 26 #[.pointer (some ⟨X.S, 0, none⟩)] w fun e w' => e = .returned (.agg (insV (strI 175 4 σ))) ∧ RDn X w σ f 175 w' := by
  obtain ⟨T, nI, fsI, psI, hv, Hv, ⟨vl, vs, vb, va, vx⟩, v1, v2, v3, v4, v5, v6, p0, p1, p2, p3, p4, p5, p6, p7, sz, ne⟩ := vlP
  have hr := RsQ.start (T := T) h
  have hS := h.ltS
  have c4 := h.c4
  have c9 := h.c9
  have hrA := fun o => RsQ.no hr (Kp.alloc noB _ o)
  have hrD := hrA
  clear h hv
  go_enter Tryz.func26, Tryz.ntmps26
  try simp only [vl, vs, va, vb, vx]
  clear vl vs va vb vx
  go_wp2_with (first
    | (go_at_call 209; refine (rsize_ok _ X _ _ _ (RsQ.st (by first | assumption | exact hrD _ | exact hrA _)) (by decide)).mono ?_; rintro e wn ⟨rfl, rfl⟩)
    | (go_at_call 207; refine (reg_lit _ _ _).mono ?_; rintro e wn ⟨rfl, kn⟩; have hrn := RsQ.no (by first | assumption | exact hrD _ | exact hrA _) kn; have c4n := hrn.st.c4; have c9n := hrn.st.c9; have hSn := hrn.st.ltS; have hrA := fun o => RsQ.no hrn (Kp.alloc noB wn o); have hrD := hrA)
    | (go_at_call 214; refine (str_ok _ X σ f 175 (RsQ.st (by first | assumption | exact hrD _ | exact hrA _)) (by decide) _).mono ?_; rintro e wn ⟨rfl, hd⟩; have hrn := RsQ.call (by first | assumption | exact hrD _ | exact hrA _) hd; have ptn := hrn.put Hv.out))
  exact bodyPost_ret (v := _) (res1 rfl _ _ w.heap.size _ rfl (RsQ.got Hv.out (by assumption) _)) rfl ⟨rfl, RsQ.fin (by assumption) _⟩
theorem bits_160 (w : World) (X : Cx) (σ : Sg) (f : Int × Int × Int) (h : RSt X w σ f 160) :
    Calls Tryz.prog 208 #[.pointer (some ⟨X.S, 0, none⟩)] w fun e w' => e = .returned (.agg (insV { Ins.zero with op := 12, size := σ.v, a := segO 4 })) ∧ RDn X w σ f 160 w' := by
  obtain ⟨T, nI, fsI, psI, hv, Hv, ⟨vl, vs, vb, va, vx⟩, v1, v2, v3, v4, v5, v6, p0, p1, p2, p3, p4, p5, p6, p7, sz, ne⟩ := vlP
  have hr := RsQ.start (T := T) h
  have hS := h.ltS
  have c4 := h.c4
  have c9 := h.c9
  have hrA := fun o => RsQ.no hr (Kp.alloc noB _ o)
  have hrD := fun o => (hrA o).drew
  have ptD := fun o => (hrD o).put Hv.out
  clear h hv
  go_enter Tryz.func208, Tryz.ntmps208
  try simp only [vl, vs, va, vb, vx]
  clear vl vs va vb vx
  obtain ⟨u0, u1, u2, u3, u4, u5, u6, u7, u8, u9, u10, u11⟩ := ups12
  go_wp2
  go_region
  all_goals
    go_wp2
    exact bodyPost_ret (v := _) (res1 rfl _ _ w.heap.size _ rfl (RsQ.got Hv.out (hrD _) _)) rfl ⟨rfl, RsQ.fin (hrD _) _⟩
theorem bits_168 (w : World) (X : Cx) (σ : Sg) (f : Int × Int × Int) (h : RSt X w σ f 168) :
    Calls Tryz.prog 208 #[.pointer (some ⟨X.S, 0, none⟩)] w fun e w' => e = .returned (.agg (insV { Ins.zero with op := 12, size := σ.v, a := segO 5 })) ∧ RDn X w σ f 168 w' := by
  obtain ⟨T, nI, fsI, psI, hv, Hv, ⟨vl, vs, vb, va, vx⟩, v1, v2, v3, v4, v5, v6, p0, p1, p2, p3, p4, p5, p6, p7, sz, ne⟩ := vlP
  have hr := RsQ.start (T := T) h
  have hS := h.ltS
  have c4 := h.c4
  have c9 := h.c9
  have hrA := fun o => RsQ.no hr (Kp.alloc noB _ o)
  have hrD := fun o => (hrA o).drew
  have ptD := fun o => (hrD o).put Hv.out
  clear h hv
  go_enter Tryz.func208, Tryz.ntmps208
  try simp only [vl, vs, va, vb, vx]
  clear vl vs va vb vx
  obtain ⟨u0, u1, u2, u3, u4, u5, u6, u7, u8, u9, u10, u11⟩ := ups12
  go_wp2
  go_region
  all_goals
    go_wp2
    exact bodyPost_ret (v := _) (res1 rfl _ _ w.heap.size _ rfl (RsQ.got Hv.out (hrD _) _)) rfl ⟨rfl, RsQ.fin (hrD _) _⟩
theorem bits_161 (w : World) (X : Cx) (σ : Sg) (f : Int × Int × Int) (h : RSt X w σ f 161) :
    Calls Tryz.prog 208 #[.pointer (some ⟨X.S, 0, none⟩)] w fun e w' => e = .returned (.agg (insV { Ins.zero with op := 13, size := σ.v, a := segO 4 })) ∧ RDn X w σ f 161 w' := by
  obtain ⟨T, nI, fsI, psI, hv, Hv, ⟨vl, vs, vb, va, vx⟩, v1, v2, v3, v4, v5, v6, p0, p1, p2, p3, p4, p5, p6, p7, sz, ne⟩ := vlP
  have hr := RsQ.start (T := T) h
  have hS := h.ltS
  have c4 := h.c4
  have c9 := h.c9
  have hrA := fun o => RsQ.no hr (Kp.alloc noB _ o)
  have hrD := fun o => (hrA o).drew
  have ptD := fun o => (hrD o).put Hv.out
  clear h hv
  go_enter Tryz.func208, Tryz.ntmps208
  try simp only [vl, vs, va, vb, vx]
  clear vl vs va vb vx
  obtain ⟨u0, u1, u2, u3, u4, u5, u6, u7, u8, u9, u10, u11⟩ := ups12
  go_wp2
  go_region
  all_goals
    go_wp2
    exact bodyPost_ret (v := _) (res1 rfl _ _ w.heap.size _ rfl (RsQ.got Hv.out (hrD _) _)) rfl ⟨rfl, RsQ.fin (hrD _) _⟩
theorem bits_169 (w : World) (X : Cx) (σ : Sg) (f : Int × Int × Int) (h : RSt X w σ f 169) :
    Calls Tryz.prog 208 #[.pointer (some ⟨X.S, 0, none⟩)] w fun e w' => e = .returned (.agg (insV { Ins.zero with op := 13, size := σ.v, a := segO 5 })) ∧ RDn X w σ f 169 w' := by
  obtain ⟨T, nI, fsI, psI, hv, Hv, ⟨vl, vs, vb, va, vx⟩, v1, v2, v3, v4, v5, v6, p0, p1, p2, p3, p4, p5, p6, p7, sz, ne⟩ := vlP
  have hr := RsQ.start (T := T) h
  have hS := h.ltS
  have c4 := h.c4
  have c9 := h.c9
  have hrA := fun o => RsQ.no hr (Kp.alloc noB _ o)
  have hrD := fun o => (hrA o).drew
  have ptD := fun o => (hrD o).put Hv.out
  clear h hv
  go_enter Tryz.func208, Tryz.ntmps208
  try simp only [vl, vs, va, vb, vx]
  clear vl vs va vb vx
  obtain ⟨u0, u1, u2, u3, u4, u5, u6, u7, u8, u9, u10, u11⟩ := ups12
  go_wp2
  go_region
  all_goals
    go_wp2
    exact bodyPost_ret (v := _) (res1 rfl _ _ w.heap.size _ rfl (RsQ.got Hv.out (hrD _) _)) rfl ⟨rfl, RsQ.fin (hrD _) _⟩
end Go.Proofs.YtbfccfhjgopnbaaGreat
