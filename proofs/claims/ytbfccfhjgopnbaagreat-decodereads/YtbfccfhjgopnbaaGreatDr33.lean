/- The document's reader, and the code's (RfJumps). -/
import Derived.Test.YtbfccfhjgopnbaaGreatDr09
set_option linter.unusedSimpArgs false
namespace Go.Proofs.YtbfccfhjgopnbaaGreat
open Go.ChangeShapes Go.WideShapes Go.ChangeAt Go.RowKit
set_option linter.unusedVariables false
set_option linter.unusedSimpArgs false
set_option maxHeartbeats 4000000
set_option maxRecDepth 20000
theorem jumps_194 (w : World) (X : Cx) (σ : Sg) (f : Int × Int × Int) (h : RSt X w σ f 194) :
    Calls Tryz.prog 29 #[.pointer (some ⟨X.S, 0, none⟩)] w fun e w' => e = .returned (.agg (insV { Ins.zero with op := 30, size := σ.v, a := numO (bytesM X 2 σ).1 })) ∧ RDn X w (bytesM X 2 σ).2 f 194 w' := by
  obtain ⟨T, nI, fsI, psI, hv, Hv, ⟨vl, vs, vb, va, vx⟩, v1, v2, v3, v4, v5, v6, p0, p1, p2, p3, p4, p5, p6, p7, sz, ne⟩ := vlP
  have hr := (RsQ.start (T := T) h).drew
  have pt := hr.put Hv.out
  have hS := h.ltS
  have c4 := h.c4
  have c9 := h.c9
  have Hvs : Hid (σ.v = 1 ∨ σ.v = 2 ∨ σ.v = 4) := Or.inr h.vv
  clear h hv
  go_enter Tryz.func29, Tryz.ntmps29
  try simp only [vl, vs, va, vb, vx]
  clear vl vs va vb vx
  obtain ⟨u0, u1, u2, u3, u4, u5, u6, u7, u8, u9, u10, u11⟩ := ups12
  go_wp2
  go_region_with (first
    | (go_at_call 211; refine (num_okR _ X _ _ _ (RsQ.st (by assumption)) _ (by first | decide | exact Hvs.out)).mono ?_; rintro e wn ⟨rfl, hd⟩; have hrn := RsQ.call (by assumption) hd; have c4n := hrn.st.c4; (try rw [bytesM_v] at c4n); have ptn := hrn.put Hv.out)
    | (go_at_call 204; refine (signed_okR _ X _ _ _ (RsQ.st (by assumption)) _ (by first | decide | exact Hvs.out)).mono ?_; rintro e wn ⟨rfl, hd⟩; have hrn := RsQ.call (by assumption) hd; have c4n := hrn.st.c4; (try rw [bytesM_v] at c4n); have ptn := hrn.put Hv.out)
    | (go_at_call 210; refine (imm_lit _ _).mono ?_; rintro e wn ⟨rfl, kn⟩; have hrn := RsQ.no (by assumption) kn; have c4n := hrn.st.c4; (try rw [bytesM_v] at c4n); have ptn := hrn.put Hv.out)
    | (go_at_call 207; refine (reg_lit _ _ _).mono ?_; rintro e wn ⟨rfl, kn⟩; have hrn := RsQ.no (by assumption) kn; have c4n := hrn.st.c4; (try rw [bytesM_v] at c4n); have ptn := hrn.put Hv.out))
  all_goals
    go_wp2
    exact bodyPost_ret (v := _) (res1 rfl _ _ w.heap.size _ rfl (RsQ.got Hv.out (by assumption) _)) rfl ⟨rfl, RsQ.fin (by assumption) _⟩
theorem jumps_195 (w : World) (X : Cx) (σ : Sg) (f : Int × Int × Int) (h : RSt X w σ f 195) :
    Calls Tryz.prog 29 #[.pointer (some ⟨X.S, 0, none⟩)] w fun e w' => e = .returned (.agg (insV { Ins.zero with op := 30, size := σ.v, a := numO 0 })) ∧ RDn X w σ f 195 w' := by
  obtain ⟨T, nI, fsI, psI, hv, Hv, ⟨vl, vs, vb, va, vx⟩, v1, v2, v3, v4, v5, v6, p0, p1, p2, p3, p4, p5, p6, p7, sz, ne⟩ := vlP
  have hr := (RsQ.start (T := T) h).drew
  have pt := hr.put Hv.out
  have hS := h.ltS
  have c4 := h.c4
  have c9 := h.c9
  have Hvs : Hid (σ.v = 1 ∨ σ.v = 2 ∨ σ.v = 4) := Or.inr h.vv
  clear h hv
  go_enter Tryz.func29, Tryz.ntmps29
  try simp only [vl, vs, va, vb, vx]
  clear vl vs va vb vx
  obtain ⟨u0, u1, u2, u3, u4, u5, u6, u7, u8, u9, u10, u11⟩ := ups12
  go_wp2
  go_region_with (first
    | (go_at_call 211; refine (num_okR _ X _ _ _ (RsQ.st (by assumption)) _ (by first | decide | exact Hvs.out)).mono ?_; rintro e wn ⟨rfl, hd⟩; have hrn := RsQ.call (by assumption) hd; have c4n := hrn.st.c4; (try rw [bytesM_v] at c4n); have ptn := hrn.put Hv.out)
    | (go_at_call 204; refine (signed_okR _ X _ _ _ (RsQ.st (by assumption)) _ (by first | decide | exact Hvs.out)).mono ?_; rintro e wn ⟨rfl, hd⟩; have hrn := RsQ.call (by assumption) hd; have c4n := hrn.st.c4; (try rw [bytesM_v] at c4n); have ptn := hrn.put Hv.out)
    | (go_at_call 210; refine (imm_lit _ _).mono ?_; rintro e wn ⟨rfl, kn⟩; have hrn := RsQ.no (by assumption) kn; have c4n := hrn.st.c4; (try rw [bytesM_v] at c4n); have ptn := hrn.put Hv.out)
    | (go_at_call 207; refine (reg_lit _ _ _).mono ?_; rintro e wn ⟨rfl, kn⟩; have hrn := RsQ.no (by assumption) kn; have c4n := hrn.st.c4; (try rw [bytesM_v] at c4n); have ptn := hrn.put Hv.out))
  all_goals
    go_wp2
    exact bodyPost_ret (v := _) (res1 rfl _ _ w.heap.size _ rfl (RsQ.got Hv.out (by assumption) _)) rfl ⟨rfl, RsQ.fin (by assumption) _⟩
theorem jumps_201 (w : World) (X : Cx) (σ : Sg) (f : Int × Int × Int) (h : RSt X w σ f 201) :
    Calls Tryz.prog 29 #[.pointer (some ⟨X.S, 0, none⟩)] w fun e w' => e = .returned (.agg (insV { Ins.zero with op := 35, size := σ.v })) ∧ RDn X w σ f 201 w' := by
  obtain ⟨T, nI, fsI, psI, hv, Hv, ⟨vl, vs, vb, va, vx⟩, v1, v2, v3, v4, v5, v6, p0, p1, p2, p3, p4, p5, p6, p7, sz, ne⟩ := vlP
  have hr := RsQ.start (T := T) h
  have pt := hr.put Hv.out
  have hS := h.ltS
  have c4 := h.c4
  have c9 := h.c9
  have Hvs : Hid (σ.v = 1 ∨ σ.v = 2 ∨ σ.v = 4) := Or.inr h.vv
  clear h hv
  go_enter Tryz.func29, Tryz.ntmps29
  try simp only [vl, vs, va, vb, vx]
  clear vl vs va vb vx
  have u0 := insUp0
  have u2 := insUp2
  go_wp2_with (first
    | (go_at_call 211; refine (num_okR _ X _ _ _ (RsQ.st (by assumption)) _ (by first | decide | exact Hvs.out)).mono ?_; rintro e wn ⟨rfl, hd⟩; have hrn := RsQ.call (by assumption) hd; have c4n := hrn.st.c4; (try rw [bytesM_v] at c4n); have ptn := hrn.put Hv.out)
    | (go_at_call 204; refine (signed_okR _ X _ _ _ (RsQ.st (by assumption)) _ (by first | decide | exact Hvs.out)).mono ?_; rintro e wn ⟨rfl, hd⟩; have hrn := RsQ.call (by assumption) hd; have c4n := hrn.st.c4; (try rw [bytesM_v] at c4n); have ptn := hrn.put Hv.out)
    | (go_at_call 210; refine (imm_lit _ _).mono ?_; rintro e wn ⟨rfl, kn⟩; have hrn := RsQ.no (by assumption) kn; have c4n := hrn.st.c4; (try rw [bytesM_v] at c4n); have ptn := hrn.put Hv.out)
    | (go_at_call 207; refine (reg_lit _ _ _).mono ?_; rintro e wn ⟨rfl, kn⟩; have hrn := RsQ.no (by assumption) kn; have c4n := hrn.st.c4; (try rw [bytesM_v] at c4n); have ptn := hrn.put Hv.out))
  exact bodyPost_ret (v := _) (res1 rfl _ _ w.heap.size _ rfl (RsQ.got Hv.out (by assumption) _)) rfl ⟨rfl, RsQ.fin (by assumption) _⟩
theorem jumps_204 (w : World) (X : Cx) (σ : Sg) (f : Int × Int × Int) (h : RSt X w σ f 204) :
    Calls Tryz.prog 29 #[.pointer (some ⟨X.S, 0, none⟩)] w fun e w' => e = .returned (.agg (insV { Ins.zero with op := 32, sub := 1, size := 4, a := numO 3 })) ∧ RDn X w σ f 204 w' := by
  obtain ⟨T, nI, fsI, psI, hv, Hv, ⟨vl, vs, vb, va, vx⟩, v1, v2, v3, v4, v5, v6, p0, p1, p2, p3, p4, p5, p6, p7, sz, ne⟩ := vlP
  have hr := RsQ.start (T := T) h
  have pt := hr.put Hv.out
  have hS := h.ltS
  have c4 := h.c4
  have c9 := h.c9
  have Hvs : Hid (σ.v = 1 ∨ σ.v = 2 ∨ σ.v = 4) := Or.inr h.vv
  clear h hv
  go_enter Tryz.func29, Tryz.ntmps29
  try simp only [vl, vs, va, vb, vx]
  clear vl vs va vb vx
  obtain ⟨u0, u1, u2, u3, u4, u5, u6, u7, u8, u9, u10, u11⟩ := ups12
  go_wp2_with (first
    | (go_at_call 211; refine (num_okR _ X _ _ _ (RsQ.st (by assumption)) _ (by first | decide | exact Hvs.out)).mono ?_; rintro e wn ⟨rfl, hd⟩; have hrn := RsQ.call (by assumption) hd; have c4n := hrn.st.c4; (try rw [bytesM_v] at c4n); have ptn := hrn.put Hv.out)
    | (go_at_call 204; refine (signed_okR _ X _ _ _ (RsQ.st (by assumption)) _ (by first | decide | exact Hvs.out)).mono ?_; rintro e wn ⟨rfl, hd⟩; have hrn := RsQ.call (by assumption) hd; have c4n := hrn.st.c4; (try rw [bytesM_v] at c4n); have ptn := hrn.put Hv.out)
    | (go_at_call 210; refine (imm_lit _ _).mono ?_; rintro e wn ⟨rfl, kn⟩; have hrn := RsQ.no (by assumption) kn; have c4n := hrn.st.c4; (try rw [bytesM_v] at c4n); have ptn := hrn.put Hv.out)
    | (go_at_call 207; refine (reg_lit _ _ _).mono ?_; rintro e wn ⟨rfl, kn⟩; have hrn := RsQ.no (by assumption) kn; have c4n := hrn.st.c4; (try rw [bytesM_v] at c4n); have ptn := hrn.put Hv.out))
  exact bodyPost_ret (v := _) (res1 rfl _ _ w.heap.size _ rfl (RsQ.got Hv.out (by assumption) _)) rfl ⟨rfl, RsQ.fin (by assumption) _⟩
theorem jumps_205 (w : World) (X : Cx) (σ : Sg) (f : Int × Int × Int) (h : RSt X w σ f 205) :
    Calls Tryz.prog 29 #[.pointer (some ⟨X.S, 0, none⟩)] w fun e w' => e = .returned (.agg (insV { Ins.zero with op := 32, size := 4, a := numO (bytesM X 1 σ).1 })) ∧ RDn X w (bytesM X 1 σ).2 f 205 w' := by
  obtain ⟨T, nI, fsI, psI, hv, Hv, ⟨vl, vs, vb, va, vx⟩, v1, v2, v3, v4, v5, v6, p0, p1, p2, p3, p4, p5, p6, p7, sz, ne⟩ := vlP
  have hr := RsQ.start (T := T) h
  have pt := hr.put Hv.out
  have hS := h.ltS
  have c4 := h.c4
  have c9 := h.c9
  have Hvs : Hid (σ.v = 1 ∨ σ.v = 2 ∨ σ.v = 4) := Or.inr h.vv
  clear h hv
  go_enter Tryz.func29, Tryz.ntmps29
  try simp only [vl, vs, va, vb, vx]
  clear vl vs va vb vx
  obtain ⟨u0, u1, u2, u3, u4, u5, u6, u7, u8, u9, u10, u11⟩ := ups12
  go_wp2_with (first
    | (go_at_call 211; refine (num_okR _ X _ _ _ (RsQ.st (by assumption)) _ (by first | decide | exact Hvs.out)).mono ?_; rintro e wn ⟨rfl, hd⟩; have hrn := RsQ.call (by assumption) hd; have c4n := hrn.st.c4; (try rw [bytesM_v] at c4n); have ptn := hrn.put Hv.out)
    | (go_at_call 204; refine (signed_okR _ X _ _ _ (RsQ.st (by assumption)) _ (by first | decide | exact Hvs.out)).mono ?_; rintro e wn ⟨rfl, hd⟩; have hrn := RsQ.call (by assumption) hd; have c4n := hrn.st.c4; (try rw [bytesM_v] at c4n); have ptn := hrn.put Hv.out)
    | (go_at_call 210; refine (imm_lit _ _).mono ?_; rintro e wn ⟨rfl, kn⟩; have hrn := RsQ.no (by assumption) kn; have c4n := hrn.st.c4; (try rw [bytesM_v] at c4n); have ptn := hrn.put Hv.out)
    | (go_at_call 207; refine (reg_lit _ _ _).mono ?_; rintro e wn ⟨rfl, kn⟩; have hrn := RsQ.no (by assumption) kn; have c4n := hrn.st.c4; (try rw [bytesM_v] at c4n); have ptn := hrn.put Hv.out))
  exact bodyPost_ret (v := _) (res1 rfl _ _ w.heap.size _ rfl (RsQ.got Hv.out (by assumption) _)) rfl ⟨rfl, RsQ.fin (by assumption) _⟩
theorem jumps_206 (w : World) (X : Cx) (σ : Sg) (f : Int × Int × Int) (h : RSt X w σ f 206) :
    Calls Tryz.prog 29 #[.pointer (some ⟨X.S, 0, none⟩)] w fun e w' => e = .returned (.agg (insV { Ins.zero with op := 32, sub := 2, size := 4, a := numO 4 })) ∧ RDn X w σ f 206 w' := by
  obtain ⟨T, nI, fsI, psI, hv, Hv, ⟨vl, vs, vb, va, vx⟩, v1, v2, v3, v4, v5, v6, p0, p1, p2, p3, p4, p5, p6, p7, sz, ne⟩ := vlP
  have hr := RsQ.start (T := T) h
  have pt := hr.put Hv.out
  have hS := h.ltS
  have c4 := h.c4
  have c9 := h.c9
  have Hvs : Hid (σ.v = 1 ∨ σ.v = 2 ∨ σ.v = 4) := Or.inr h.vv
  clear h hv
  go_enter Tryz.func29, Tryz.ntmps29
  try simp only [vl, vs, va, vb, vx]
  clear vl vs va vb vx
  obtain ⟨u0, u1, u2, u3, u4, u5, u6, u7, u8, u9, u10, u11⟩ := ups12
  go_wp2_with (first
    | (go_at_call 211; refine (num_okR _ X _ _ _ (RsQ.st (by assumption)) _ (by first | decide | exact Hvs.out)).mono ?_; rintro e wn ⟨rfl, hd⟩; have hrn := RsQ.call (by assumption) hd; have c4n := hrn.st.c4; (try rw [bytesM_v] at c4n); have ptn := hrn.put Hv.out)
    | (go_at_call 204; refine (signed_okR _ X _ _ _ (RsQ.st (by assumption)) _ (by first | decide | exact Hvs.out)).mono ?_; rintro e wn ⟨rfl, hd⟩; have hrn := RsQ.call (by assumption) hd; have c4n := hrn.st.c4; (try rw [bytesM_v] at c4n); have ptn := hrn.put Hv.out)
    | (go_at_call 210; refine (imm_lit _ _).mono ?_; rintro e wn ⟨rfl, kn⟩; have hrn := RsQ.no (by assumption) kn; have c4n := hrn.st.c4; (try rw [bytesM_v] at c4n); have ptn := hrn.put Hv.out)
    | (go_at_call 207; refine (reg_lit _ _ _).mono ?_; rintro e wn ⟨rfl, kn⟩; have hrn := RsQ.no (by assumption) kn; have c4n := hrn.st.c4; (try rw [bytesM_v] at c4n); have ptn := hrn.put Hv.out))
  exact bodyPost_ret (v := _) (res1 rfl _ _ w.heap.size _ rfl (RsQ.got Hv.out (by assumption) _)) rfl ⟨rfl, RsQ.fin (by assumption) _⟩
theorem jumps_207 (w : World) (X : Cx) (σ : Sg) (f : Int × Int × Int) (h : RSt X w σ f 207) :
    Calls Tryz.prog 29 #[.pointer (some ⟨X.S, 0, none⟩)] w fun e w' => e = .returned (.agg (insV { Ins.zero with op := 33, size := σ.v })) ∧ RDn X w σ f 207 w' := by
  obtain ⟨T, nI, fsI, psI, hv, Hv, ⟨vl, vs, vb, va, vx⟩, v1, v2, v3, v4, v5, v6, p0, p1, p2, p3, p4, p5, p6, p7, sz, ne⟩ := vlP
  have hr := RsQ.start (T := T) h
  have pt := hr.put Hv.out
  have hS := h.ltS
  have c4 := h.c4
  have c9 := h.c9
  have Hvs : Hid (σ.v = 1 ∨ σ.v = 2 ∨ σ.v = 4) := Or.inr h.vv
  clear h hv
  go_enter Tryz.func29, Tryz.ntmps29
  try simp only [vl, vs, va, vb, vx]
  clear vl vs va vb vx
  have u0 := insUp0
  have u2 := insUp2
  go_wp2_with (first
    | (go_at_call 211; refine (num_okR _ X _ _ _ (RsQ.st (by assumption)) _ (by first | decide | exact Hvs.out)).mono ?_; rintro e wn ⟨rfl, hd⟩; have hrn := RsQ.call (by assumption) hd; have c4n := hrn.st.c4; (try rw [bytesM_v] at c4n); have ptn := hrn.put Hv.out)
    | (go_at_call 204; refine (signed_okR _ X _ _ _ (RsQ.st (by assumption)) _ (by first | decide | exact Hvs.out)).mono ?_; rintro e wn ⟨rfl, hd⟩; have hrn := RsQ.call (by assumption) hd; have c4n := hrn.st.c4; (try rw [bytesM_v] at c4n); have ptn := hrn.put Hv.out)
    | (go_at_call 210; refine (imm_lit _ _).mono ?_; rintro e wn ⟨rfl, kn⟩; have hrn := RsQ.no (by assumption) kn; have c4n := hrn.st.c4; (try rw [bytesM_v] at c4n); have ptn := hrn.put Hv.out)
    | (go_at_call 207; refine (reg_lit _ _ _).mono ?_; rintro e wn ⟨rfl, kn⟩; have hrn := RsQ.no (by assumption) kn; have c4n := hrn.st.c4; (try rw [bytesM_v] at c4n); have ptn := hrn.put Hv.out))
  exact bodyPost_ret (v := _) (res1 rfl _ _ w.heap.size _ rfl (RsQ.got Hv.out (by assumption) _)) rfl ⟨rfl, RsQ.fin (by assumption) _⟩
theorem jumps_212 (w : World) (X : Cx) (σ : Sg) (f : Int × Int × Int) (h : RSt X w σ f 212) :
    Calls Tryz.prog 29 #[.pointer (some ⟨X.S, 0, none⟩)] w fun e w' => e = .returned (.agg (insV { Ins.zero with op := 7, sub := 4, size := 1, a := numO (bytesM X 1 σ).1 })) ∧ RDn X w (bytesM X 1 σ).2 f 212 w' := by
  obtain ⟨T, nI, fsI, psI, hv, Hv, ⟨vl, vs, vb, va, vx⟩, v1, v2, v3, v4, v5, v6, p0, p1, p2, p3, p4, p5, p6, p7, sz, ne⟩ := vlP
  have hr := RsQ.start (T := T) h
  have pt := hr.put Hv.out
  have hS := h.ltS
  have c4 := h.c4
  have c9 := h.c9
  have Hvs : Hid (σ.v = 1 ∨ σ.v = 2 ∨ σ.v = 4) := Or.inr h.vv
  clear h hv
  go_enter Tryz.func29, Tryz.ntmps29
  try simp only [vl, vs, va, vb, vx]
  clear vl vs va vb vx
  obtain ⟨u0, u1, u2, u3, u4, u5, u6, u7, u8, u9, u10, u11⟩ := ups12
  go_wp2_with (first
    | (go_at_call 211; refine (num_okR _ X _ _ _ (RsQ.st (by assumption)) _ (by first | decide | exact Hvs.out)).mono ?_; rintro e wn ⟨rfl, hd⟩; have hrn := RsQ.call (by assumption) hd; have c4n := hrn.st.c4; (try rw [bytesM_v] at c4n); have ptn := hrn.put Hv.out)
    | (go_at_call 204; refine (signed_okR _ X _ _ _ (RsQ.st (by assumption)) _ (by first | decide | exact Hvs.out)).mono ?_; rintro e wn ⟨rfl, hd⟩; have hrn := RsQ.call (by assumption) hd; have c4n := hrn.st.c4; (try rw [bytesM_v] at c4n); have ptn := hrn.put Hv.out)
    | (go_at_call 210; refine (imm_lit _ _).mono ?_; rintro e wn ⟨rfl, kn⟩; have hrn := RsQ.no (by assumption) kn; have c4n := hrn.st.c4; (try rw [bytesM_v] at c4n); have ptn := hrn.put Hv.out)
    | (go_at_call 207; refine (reg_lit _ _ _).mono ?_; rintro e wn ⟨rfl, kn⟩; have hrn := RsQ.no (by assumption) kn; have c4n := hrn.st.c4; (try rw [bytesM_v] at c4n); have ptn := hrn.put Hv.out))
  exact bodyPost_ret (v := _) (res1 rfl _ _ w.heap.size _ rfl (RsQ.got Hv.out (by assumption) _)) rfl ⟨rfl, RsQ.fin (by assumption) _⟩
theorem jumps_213 (w : World) (X : Cx) (σ : Sg) (f : Int × Int × Int) (h : RSt X w σ f 213) :
    Calls Tryz.prog 29 #[.pointer (some ⟨X.S, 0, none⟩)] w fun e w' => e = .returned (.agg (insV { Ins.zero with op := 7, sub := 5, size := 1, a := numO (bytesM X 1 σ).1 })) ∧ RDn X w (bytesM X 1 σ).2 f 213 w' := by
  obtain ⟨T, nI, fsI, psI, hv, Hv, ⟨vl, vs, vb, va, vx⟩, v1, v2, v3, v4, v5, v6, p0, p1, p2, p3, p4, p5, p6, p7, sz, ne⟩ := vlP
  have hr := RsQ.start (T := T) h
  have pt := hr.put Hv.out
  have hS := h.ltS
  have c4 := h.c4
  have c9 := h.c9
  have Hvs : Hid (σ.v = 1 ∨ σ.v = 2 ∨ σ.v = 4) := Or.inr h.vv
  clear h hv
  go_enter Tryz.func29, Tryz.ntmps29
  try simp only [vl, vs, va, vb, vx]
  clear vl vs va vb vx
  obtain ⟨u0, u1, u2, u3, u4, u5, u6, u7, u8, u9, u10, u11⟩ := ups12
  go_wp2_with (first
    | (go_at_call 211; refine (num_okR _ X _ _ _ (RsQ.st (by assumption)) _ (by first | decide | exact Hvs.out)).mono ?_; rintro e wn ⟨rfl, hd⟩; have hrn := RsQ.call (by assumption) hd; have c4n := hrn.st.c4; (try rw [bytesM_v] at c4n); have ptn := hrn.put Hv.out)
    | (go_at_call 204; refine (signed_okR _ X _ _ _ (RsQ.st (by assumption)) _ (by first | decide | exact Hvs.out)).mono ?_; rintro e wn ⟨rfl, hd⟩; have hrn := RsQ.call (by assumption) hd; have c4n := hrn.st.c4; (try rw [bytesM_v] at c4n); have ptn := hrn.put Hv.out)
    | (go_at_call 210; refine (imm_lit _ _).mono ?_; rintro e wn ⟨rfl, kn⟩; have hrn := RsQ.no (by assumption) kn; have c4n := hrn.st.c4; (try rw [bytesM_v] at c4n); have ptn := hrn.put Hv.out)
    | (go_at_call 207; refine (reg_lit _ _ _).mono ?_; rintro e wn ⟨rfl, kn⟩; have hrn := RsQ.no (by assumption) kn; have c4n := hrn.st.c4; (try rw [bytesM_v] at c4n); have ptn := hrn.put Hv.out))
  exact bodyPost_ret (v := _) (res1 rfl _ _ w.heap.size _ rfl (RsQ.got Hv.out (by assumption) _)) rfl ⟨rfl, RsQ.fin (by assumption) _⟩
theorem jumps_224 (w : World) (X : Cx) (σ : Sg) (f : Int × Int × Int) (h : RSt X w σ f 224) :
    Calls Tryz.prog 29 #[.pointer (some ⟨X.S, 0, none⟩)] w fun e w' => e = .returned (.agg (insV { Ins.zero with op := 31, sub := 0, size := σ.v, a := relO (sgnM 1 (bytesM X 1 σ).1) })) ∧ RDn X w (bytesM X 1 σ).2 f 224 w' := by
  obtain ⟨T, nI, fsI, psI, hv, Hv, ⟨vl, vs, vb, va, vx⟩, v1, v2, v3, v4, v5, v6, p0, p1, p2, p3, p4, p5, p6, p7, sz, ne⟩ := vlP
  have hr := (RsQ.start (T := T) h).drew
  have pt := hr.put Hv.out
  have hS := h.ltS
  have c4 := h.c4
  have c9 := h.c9
  have Hvs : Hid (σ.v = 1 ∨ σ.v = 2 ∨ σ.v = 4) := Or.inr h.vv
  clear h hv
  go_enter Tryz.func29, Tryz.ntmps29
  try simp only [vl, vs, va, vb, vx]
  clear vl vs va vb vx
  obtain ⟨u0, u1, u2, u3, u4, u5, u6, u7, u8, u9, u10, u11⟩ := ups12
  go_wp2
  go_region_with (first
    | (go_at_call 211; refine (num_okR _ X _ _ _ (RsQ.st (by assumption)) _ (by first | decide | exact Hvs.out)).mono ?_; rintro e wn ⟨rfl, hd⟩; have hrn := RsQ.call (by assumption) hd; have c4n := hrn.st.c4; (try rw [bytesM_v] at c4n); have ptn := hrn.put Hv.out)
    | (go_at_call 204; refine (signed_okR _ X _ _ _ (RsQ.st (by assumption)) _ (by first | decide | exact Hvs.out)).mono ?_; rintro e wn ⟨rfl, hd⟩; have hrn := RsQ.call (by assumption) hd; have c4n := hrn.st.c4; (try rw [bytesM_v] at c4n); have ptn := hrn.put Hv.out)
    | (go_at_call 210; refine (imm_lit _ _).mono ?_; rintro e wn ⟨rfl, kn⟩; have hrn := RsQ.no (by assumption) kn; have c4n := hrn.st.c4; (try rw [bytesM_v] at c4n); have ptn := hrn.put Hv.out)
    | (go_at_call 207; refine (reg_lit _ _ _).mono ?_; rintro e wn ⟨rfl, kn⟩; have hrn := RsQ.no (by assumption) kn; have c4n := hrn.st.c4; (try rw [bytesM_v] at c4n); have ptn := hrn.put Hv.out))
  all_goals
    go_wp2
    exact bodyPost_ret (v := _) (res1 rfl _ _ w.heap.size _ rfl (RsQ.got Hv.out (by assumption) _)) rfl ⟨rfl, RsQ.fin (by assumption) _⟩
theorem jumps_225 (w : World) (X : Cx) (σ : Sg) (f : Int × Int × Int) (h : RSt X w σ f 225) :
    Calls Tryz.prog 29 #[.pointer (some ⟨X.S, 0, none⟩)] w fun e w' => e = .returned (.agg (insV { Ins.zero with op := 31, sub := 1, size := σ.v, a := relO (sgnM 1 (bytesM X 1 σ).1) })) ∧ RDn X w (bytesM X 1 σ).2 f 225 w' := by
  obtain ⟨T, nI, fsI, psI, hv, Hv, ⟨vl, vs, vb, va, vx⟩, v1, v2, v3, v4, v5, v6, p0, p1, p2, p3, p4, p5, p6, p7, sz, ne⟩ := vlP
  have hr := (RsQ.start (T := T) h).drew
  have pt := hr.put Hv.out
  have hS := h.ltS
  have c4 := h.c4
  have c9 := h.c9
  have Hvs : Hid (σ.v = 1 ∨ σ.v = 2 ∨ σ.v = 4) := Or.inr h.vv
  clear h hv
  go_enter Tryz.func29, Tryz.ntmps29
  try simp only [vl, vs, va, vb, vx]
  clear vl vs va vb vx
  obtain ⟨u0, u1, u2, u3, u4, u5, u6, u7, u8, u9, u10, u11⟩ := ups12
  go_wp2
  go_region_with (first
    | (go_at_call 211; refine (num_okR _ X _ _ _ (RsQ.st (by assumption)) _ (by first | decide | exact Hvs.out)).mono ?_; rintro e wn ⟨rfl, hd⟩; have hrn := RsQ.call (by assumption) hd; have c4n := hrn.st.c4; (try rw [bytesM_v] at c4n); have ptn := hrn.put Hv.out)
    | (go_at_call 204; refine (signed_okR _ X _ _ _ (RsQ.st (by assumption)) _ (by first | decide | exact Hvs.out)).mono ?_; rintro e wn ⟨rfl, hd⟩; have hrn := RsQ.call (by assumption) hd; have c4n := hrn.st.c4; (try rw [bytesM_v] at c4n); have ptn := hrn.put Hv.out)
    | (go_at_call 210; refine (imm_lit _ _).mono ?_; rintro e wn ⟨rfl, kn⟩; have hrn := RsQ.no (by assumption) kn; have c4n := hrn.st.c4; (try rw [bytesM_v] at c4n); have ptn := hrn.put Hv.out)
    | (go_at_call 207; refine (reg_lit _ _ _).mono ?_; rintro e wn ⟨rfl, kn⟩; have hrn := RsQ.no (by assumption) kn; have c4n := hrn.st.c4; (try rw [bytesM_v] at c4n); have ptn := hrn.put Hv.out))
  all_goals
    go_wp2
    exact bodyPost_ret (v := _) (res1 rfl _ _ w.heap.size _ rfl (RsQ.got Hv.out (by assumption) _)) rfl ⟨rfl, RsQ.fin (by assumption) _⟩
theorem jumps_226 (w : World) (X : Cx) (σ : Sg) (f : Int × Int × Int) (h : RSt X w σ f 226) :
    Calls Tryz.prog 29 #[.pointer (some ⟨X.S, 0, none⟩)] w fun e w' => e = .returned (.agg (insV { Ins.zero with op := 31, sub := 2, size := σ.v, a := relO (sgnM 1 (bytesM X 1 σ).1) })) ∧ RDn X w (bytesM X 1 σ).2 f 226 w' := by
  obtain ⟨T, nI, fsI, psI, hv, Hv, ⟨vl, vs, vb, va, vx⟩, v1, v2, v3, v4, v5, v6, p0, p1, p2, p3, p4, p5, p6, p7, sz, ne⟩ := vlP
  have hr := (RsQ.start (T := T) h).drew
  have pt := hr.put Hv.out
  have hS := h.ltS
  have c4 := h.c4
  have c9 := h.c9
  have Hvs : Hid (σ.v = 1 ∨ σ.v = 2 ∨ σ.v = 4) := Or.inr h.vv
  clear h hv
  go_enter Tryz.func29, Tryz.ntmps29
  try simp only [vl, vs, va, vb, vx]
  clear vl vs va vb vx
  obtain ⟨u0, u1, u2, u3, u4, u5, u6, u7, u8, u9, u10, u11⟩ := ups12
  go_wp2
  go_region_with (first
    | (go_at_call 211; refine (num_okR _ X _ _ _ (RsQ.st (by assumption)) _ (by first | decide | exact Hvs.out)).mono ?_; rintro e wn ⟨rfl, hd⟩; have hrn := RsQ.call (by assumption) hd; have c4n := hrn.st.c4; (try rw [bytesM_v] at c4n); have ptn := hrn.put Hv.out)
    | (go_at_call 204; refine (signed_okR _ X _ _ _ (RsQ.st (by assumption)) _ (by first | decide | exact Hvs.out)).mono ?_; rintro e wn ⟨rfl, hd⟩; have hrn := RsQ.call (by assumption) hd; have c4n := hrn.st.c4; (try rw [bytesM_v] at c4n); have ptn := hrn.put Hv.out)
    | (go_at_call 210; refine (imm_lit _ _).mono ?_; rintro e wn ⟨rfl, kn⟩; have hrn := RsQ.no (by assumption) kn; have c4n := hrn.st.c4; (try rw [bytesM_v] at c4n); have ptn := hrn.put Hv.out)
    | (go_at_call 207; refine (reg_lit _ _ _).mono ?_; rintro e wn ⟨rfl, kn⟩; have hrn := RsQ.no (by assumption) kn; have c4n := hrn.st.c4; (try rw [bytesM_v] at c4n); have ptn := hrn.put Hv.out))
  all_goals
    go_wp2
    exact bodyPost_ret (v := _) (res1 rfl _ _ w.heap.size _ rfl (RsQ.got Hv.out (by assumption) _)) rfl ⟨rfl, RsQ.fin (by assumption) _⟩
theorem jumps_227 (w : World) (X : Cx) (σ : Sg) (f : Int × Int × Int) (h : RSt X w σ f 227) :
    Calls Tryz.prog 29 #[.pointer (some ⟨X.S, 0, none⟩)] w fun e w' => e = .returned (.agg (insV { Ins.zero with op := 31, sub := 3, size := σ.v, a := relO (sgnM 1 (bytesM X 1 σ).1) })) ∧ RDn X w (bytesM X 1 σ).2 f 227 w' := by
  obtain ⟨T, nI, fsI, psI, hv, Hv, ⟨vl, vs, vb, va, vx⟩, v1, v2, v3, v4, v5, v6, p0, p1, p2, p3, p4, p5, p6, p7, sz, ne⟩ := vlP
  have hr := (RsQ.start (T := T) h).drew
  have pt := hr.put Hv.out
  have hS := h.ltS
  have c4 := h.c4
  have c9 := h.c9
  have Hvs : Hid (σ.v = 1 ∨ σ.v = 2 ∨ σ.v = 4) := Or.inr h.vv
  clear h hv
  go_enter Tryz.func29, Tryz.ntmps29
  try simp only [vl, vs, va, vb, vx]
  clear vl vs va vb vx
  obtain ⟨u0, u1, u2, u3, u4, u5, u6, u7, u8, u9, u10, u11⟩ := ups12
  go_wp2
  go_region_with (first
    | (go_at_call 211; refine (num_okR _ X _ _ _ (RsQ.st (by assumption)) _ (by first | decide | exact Hvs.out)).mono ?_; rintro e wn ⟨rfl, hd⟩; have hrn := RsQ.call (by assumption) hd; have c4n := hrn.st.c4; (try rw [bytesM_v] at c4n); have ptn := hrn.put Hv.out)
    | (go_at_call 204; refine (signed_okR _ X _ _ _ (RsQ.st (by assumption)) _ (by first | decide | exact Hvs.out)).mono ?_; rintro e wn ⟨rfl, hd⟩; have hrn := RsQ.call (by assumption) hd; have c4n := hrn.st.c4; (try rw [bytesM_v] at c4n); have ptn := hrn.put Hv.out)
    | (go_at_call 210; refine (imm_lit _ _).mono ?_; rintro e wn ⟨rfl, kn⟩; have hrn := RsQ.no (by assumption) kn; have c4n := hrn.st.c4; (try rw [bytesM_v] at c4n); have ptn := hrn.put Hv.out)
    | (go_at_call 207; refine (reg_lit _ _ _).mono ?_; rintro e wn ⟨rfl, kn⟩; have hrn := RsQ.no (by assumption) kn; have c4n := hrn.st.c4; (try rw [bytesM_v] at c4n); have ptn := hrn.put Hv.out))
  all_goals
    go_wp2
    exact bodyPost_ret (v := _) (res1 rfl _ _ w.heap.size _ rfl (RsQ.got Hv.out (by assumption) _)) rfl ⟨rfl, RsQ.fin (by assumption) _⟩
theorem jumps_232 (w : World) (X : Cx) (σ : Sg) (f : Int × Int × Int) (h : RSt X w σ f 232) :
    Calls Tryz.prog 29 #[.pointer (some ⟨X.S, 0, none⟩)] w fun e w' => e = .returned (.agg (insV { Ins.zero with op := 29, size := σ.v, a := relO (sgnM σ.v (bytesM X σ.v σ).1) })) ∧ RDn X w (bytesM X σ.v σ).2 f 232 w' := by
  obtain ⟨T, nI, fsI, psI, hv, Hv, ⟨vl, vs, vb, va, vx⟩, v1, v2, v3, v4, v5, v6, p0, p1, p2, p3, p4, p5, p6, p7, sz, ne⟩ := vlP
  have hr := (RsQ.start (T := T) h).drew
  have pt := hr.put Hv.out
  have hS := h.ltS
  have c4 := h.c4
  have c9 := h.c9
  have Hvs : Hid (σ.v = 1 ∨ σ.v = 2 ∨ σ.v = 4) := Or.inr h.vv
  clear h hv
  go_enter Tryz.func29, Tryz.ntmps29
  try simp only [vl, vs, va, vb, vx]
  clear vl vs va vb vx
  obtain ⟨u0, u1, u2, u3, u4, u5, u6, u7, u8, u9, u10, u11⟩ := ups12
  go_wp2
  go_region_with (first
    | (go_at_call 211; refine (num_okR _ X _ _ _ (RsQ.st (by assumption)) _ (by first | decide | exact Hvs.out)).mono ?_; rintro e wn ⟨rfl, hd⟩; have hrn := RsQ.call (by assumption) hd; have c4n := hrn.st.c4; (try rw [bytesM_v] at c4n); have ptn := hrn.put Hv.out)
    | (go_at_call 204; refine (signed_okR _ X _ _ _ (RsQ.st (by assumption)) _ (by first | decide | exact Hvs.out)).mono ?_; rintro e wn ⟨rfl, hd⟩; have hrn := RsQ.call (by assumption) hd; have c4n := hrn.st.c4; (try rw [bytesM_v] at c4n); have ptn := hrn.put Hv.out)
    | (go_at_call 210; refine (imm_lit _ _).mono ?_; rintro e wn ⟨rfl, kn⟩; have hrn := RsQ.no (by assumption) kn; have c4n := hrn.st.c4; (try rw [bytesM_v] at c4n); have ptn := hrn.put Hv.out)
    | (go_at_call 207; refine (reg_lit _ _ _).mono ?_; rintro e wn ⟨rfl, kn⟩; have hrn := RsQ.no (by assumption) kn; have c4n := hrn.st.c4; (try rw [bytesM_v] at c4n); have ptn := hrn.put Hv.out))
  all_goals
    go_wp2
    exact bodyPost_ret (v := _) (res1 rfl _ _ w.heap.size _ rfl (RsQ.got Hv.out (by assumption) _)) rfl ⟨rfl, RsQ.fin (by assumption) _⟩
theorem jumps_233 (w : World) (X : Cx) (σ : Sg) (f : Int × Int × Int) (h : RSt X w σ f 233) :
    Calls Tryz.prog 29 #[.pointer (some ⟨X.S, 0, none⟩)] w fun e w' => e = .returned (.agg (insV { Ins.zero with op := 27, size := σ.v, a := relO (sgnM σ.v (bytesM X σ.v σ).1) })) ∧ RDn X w (bytesM X σ.v σ).2 f 233 w' := by
  obtain ⟨T, nI, fsI, psI, hv, Hv, ⟨vl, vs, vb, va, vx⟩, v1, v2, v3, v4, v5, v6, p0, p1, p2, p3, p4, p5, p6, p7, sz, ne⟩ := vlP
  have hr := (RsQ.start (T := T) h).drew
  have pt := hr.put Hv.out
  have hS := h.ltS
  have c4 := h.c4
  have c9 := h.c9
  have Hvs : Hid (σ.v = 1 ∨ σ.v = 2 ∨ σ.v = 4) := Or.inr h.vv
  clear h hv
  go_enter Tryz.func29, Tryz.ntmps29
  try simp only [vl, vs, va, vb, vx]
  clear vl vs va vb vx
  obtain ⟨u0, u1, u2, u3, u4, u5, u6, u7, u8, u9, u10, u11⟩ := ups12
  go_wp2
  go_region_with (first
    | (go_at_call 211; refine (num_okR _ X _ _ _ (RsQ.st (by assumption)) _ (by first | decide | exact Hvs.out)).mono ?_; rintro e wn ⟨rfl, hd⟩; have hrn := RsQ.call (by assumption) hd; have c4n := hrn.st.c4; (try rw [bytesM_v] at c4n); have ptn := hrn.put Hv.out)
    | (go_at_call 204; refine (signed_okR _ X _ _ _ (RsQ.st (by assumption)) _ (by first | decide | exact Hvs.out)).mono ?_; rintro e wn ⟨rfl, hd⟩; have hrn := RsQ.call (by assumption) hd; have c4n := hrn.st.c4; (try rw [bytesM_v] at c4n); have ptn := hrn.put Hv.out)
    | (go_at_call 210; refine (imm_lit _ _).mono ?_; rintro e wn ⟨rfl, kn⟩; have hrn := RsQ.no (by assumption) kn; have c4n := hrn.st.c4; (try rw [bytesM_v] at c4n); have ptn := hrn.put Hv.out)
    | (go_at_call 207; refine (reg_lit _ _ _).mono ?_; rintro e wn ⟨rfl, kn⟩; have hrn := RsQ.no (by assumption) kn; have c4n := hrn.st.c4; (try rw [bytesM_v] at c4n); have ptn := hrn.put Hv.out))
  all_goals
    go_wp2
    exact bodyPost_ret (v := _) (res1 rfl _ _ w.heap.size _ rfl (RsQ.got Hv.out (by assumption) _)) rfl ⟨rfl, RsQ.fin (by assumption) _⟩
theorem jumps_235 (w : World) (X : Cx) (σ : Sg) (f : Int × Int × Int) (h : RSt X w σ f 235) :
    Calls Tryz.prog 29 #[.pointer (some ⟨X.S, 0, none⟩)] w fun e w' => e = .returned (.agg (insV { Ins.zero with op := 27, size := σ.v, a := relO (sgnM 1 (bytesM X 1 σ).1) })) ∧ RDn X w (bytesM X 1 σ).2 f 235 w' := by
  obtain ⟨T, nI, fsI, psI, hv, Hv, ⟨vl, vs, vb, va, vx⟩, v1, v2, v3, v4, v5, v6, p0, p1, p2, p3, p4, p5, p6, p7, sz, ne⟩ := vlP
  have hr := (RsQ.start (T := T) h).drew
  have pt := hr.put Hv.out
  have hS := h.ltS
  have c4 := h.c4
  have c9 := h.c9
  have Hvs : Hid (σ.v = 1 ∨ σ.v = 2 ∨ σ.v = 4) := Or.inr h.vv
  clear h hv
  go_enter Tryz.func29, Tryz.ntmps29
  try simp only [vl, vs, va, vb, vx]
  clear vl vs va vb vx
  obtain ⟨u0, u1, u2, u3, u4, u5, u6, u7, u8, u9, u10, u11⟩ := ups12
  go_wp2
  go_region_with (first
    | (go_at_call 211; refine (num_okR _ X _ _ _ (RsQ.st (by assumption)) _ (by first | decide | exact Hvs.out)).mono ?_; rintro e wn ⟨rfl, hd⟩; have hrn := RsQ.call (by assumption) hd; have c4n := hrn.st.c4; (try rw [bytesM_v] at c4n); have ptn := hrn.put Hv.out)
    | (go_at_call 204; refine (signed_okR _ X _ _ _ (RsQ.st (by assumption)) _ (by first | decide | exact Hvs.out)).mono ?_; rintro e wn ⟨rfl, hd⟩; have hrn := RsQ.call (by assumption) hd; have c4n := hrn.st.c4; (try rw [bytesM_v] at c4n); have ptn := hrn.put Hv.out)
    | (go_at_call 210; refine (imm_lit _ _).mono ?_; rintro e wn ⟨rfl, kn⟩; have hrn := RsQ.no (by assumption) kn; have c4n := hrn.st.c4; (try rw [bytesM_v] at c4n); have ptn := hrn.put Hv.out)
    | (go_at_call 207; refine (reg_lit _ _ _).mono ?_; rintro e wn ⟨rfl, kn⟩; have hrn := RsQ.no (by assumption) kn; have c4n := hrn.st.c4; (try rw [bytesM_v] at c4n); have ptn := hrn.put Hv.out))
  all_goals
    go_wp2
    exact bodyPost_ret (v := _) (res1 rfl _ _ w.heap.size _ rfl (RsQ.got Hv.out (by assumption) _)) rfl ⟨rfl, RsQ.fin (by assumption) _⟩
end Go.Proofs.YtbfccfhjgopnbaaGreat
