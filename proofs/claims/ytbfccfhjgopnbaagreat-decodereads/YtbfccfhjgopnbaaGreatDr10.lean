/- The document's reader, and the code's (RfUds, RfFlags, RfBitsU). -/
import Derived.Test.YtbfccfhjgopnbaaGreatDr09
set_option linter.unusedSimpArgs false
namespace Go.Proofs.YtbfccfhjgopnbaaGreat
open Go.ChangeShapes Go.WideShapes Go.ChangeAt Go.RowKit
set_option linter.unusedVariables false
set_option linter.unusedSimpArgs false
set_option maxHeartbeats 2000000
set_option maxRecDepth 20000
theorem jumps_u (w : World) (X : Cx) (σ : Sg) (f : Int × Int × Int) {c : Int} (h : RSt X w σ f c) (hc : c = 196 ∨ c = 197 ∨ c = 200 ∨ c = 202 ∨ c = 203 ∨ c = 214 ∨ c = 215 ∨ c = 216 ∨ c = 217 ∨ c = 218 ∨ c = 219 ∨ c = 220 ∨ c = 221 ∨ c = 222 ∨ c = 223) :
    Calls Tryz.prog 29 #[.pointer (some ⟨X.S, 0, none⟩)] w fun e w' => e = .returned (.agg (insV Ins.zero)) ∧ RDn X w (refuse σ) f c w' := by
  obtain ⟨T, nI, fsI, psI, hv, Hv, ⟨vl, vs, vb, va, vx⟩, v1, v2, v3, v4, v5, v6, p0, p1, p2, p3, p4, p5, p6, p7, sz, ne⟩ := vlP
  have hr := RsQ.start (T := T) h
  have hS := h.ltS
  have c4 := h.c4
  have c9 := h.c9
  have HU : Hid (∀ W, RSt X W σ f c → _) := fun W hW => ud_ok W X σ f c hW
  have Hr : Hid _ := hr
  clear h hv
  rcases hc with rfl | rfl | rfl | rfl | rfl | rfl | rfl | rfl | rfl | rfl | rfl | rfl | rfl | rfl | rfl
  all_goals
    go_enter Tryz.func29, Tryz.ntmps29
    try simp only [vl, vs, va, vb, vx]
    clear vl vs va vb vx
    go_wp2_with fail
    refine (HU.out _ Hr.out.st).mono ?_; rintro e w2 ⟨rfl, hd2⟩
    have hr2 := Hr.out.call hd2
    have p2' := hr2.put Hv.out
    have HrZ : Hid _ := hr2
    clear hr2 hd2 HU Hr
    go_wp2
    exact bodyPost_ret (v := _) (res1 rfl _ _ w.heap.size _ rfl (HrZ.out.got Hv.out _)) rfl ⟨rfl, HrZ.out.fin _⟩
theorem group_130u (w : World) (X : Cx) (σ : Sg) (f : Int × Int × Int) (h : RSt X w σ f 130) :
    Calls Tryz.prog 25 #[.pointer (some ⟨X.S, 0, none⟩)] w fun e w' => e = .returned (.agg (insV Ins.zero)) ∧ RDn X w (refuse σ) f 130 w' := by
  obtain ⟨T, nI, fsI, psI, hv, Hv, ⟨vl, vs, vb, va, vx⟩, v1, v2, v3, v4, v5, v6, p0, p1, p2, p3, p4, p5, p6, p7, sz, ne⟩ := vlP
  have hr := RsQ.start (T := T) h
  have hS := h.ltS
  have c4 := h.c4
  have c9 := h.c9
  have HU : Hid (∀ W, RSt X W σ f 130 → _) := fun W hW => ud_ok W X σ f 130 hW
  have Hr : Hid _ := hr
  clear h hv
  go_enter Tryz.func25, Tryz.ntmps25
  try simp only [vl, vs, va, vb, vx]
  clear vl vs va vb vx
  go_wp2_with fail
  refine (HU.out _ Hr.out.st).mono ?_; rintro e w2 ⟨rfl, hd2⟩
  have hr2 := Hr.out.call hd2
  have p2' := hr2.put Hv.out
  have HrZ : Hid _ := hr2
  clear hr2 hd2 HU Hr
  go_wp2
  exact bodyPost_ret (v := _) (res1 rfl _ _ w.heap.size _ rfl (HrZ.out.got Hv.out _)) rfl ⟨rfl, HrZ.out.fin _⟩
end Go.Proofs.YtbfccfhjgopnbaaGreat
namespace Go.Proofs.YtbfccfhjgopnbaaGreat
open Go.ChangeShapes Go.WideShapes Go.ChangeAt Go.RowKit
set_option linter.unusedVariables false
set_option linter.unusedSimpArgs false
set_option maxHeartbeats 2000000
set_option maxRecDepth 20000
theorem last_244 (w : World) (X : Cx) (σ : Sg) (f : Int × Int × Int) (h : RSt X w σ f 244) :
    Calls Tryz.prog 30 #[.pointer (some ⟨X.S, 0, none⟩)] w fun e w' => e = .returned (.agg (insV { Ins.zero with op := 40, size := 4 })) ∧ RDn X w σ f 244 w' := by
  obtain ⟨T, nI, fsI, psI, hv, Hv, ⟨vl, vs, vb, va, vx⟩, v1, v2, v3, v4, v5, v6, p0, p1, p2, p3, p4, p5, p6, p7, sz, ne⟩ := vlP
  have hr := RsQ.no (RsQ.start (T := T) h) (Kp.alloc noB _ (.cells #[.int .i64 2, .int .i64 (-1), .int .i64 (-1), .int .i64 0, .int .i64 1, .int .i64 5, .int .i64 6, .int .i64 3, .int .i64 4] 3))
  have pt := hr.put Hv.out
  have hS := h.ltS
  have c9 := h.c9
  have HR : Hid _ := hr
  clear h hv hr
  go_enter Tryz.func30, Tryz.ntmps30
  try simp only [vl, vs, va, vb, vx]
  clear vl vs va vb vx
  have u0 := insUp0
  have u1 := insUp1
  have u2 := insUp2
  go_wp2
  exact bodyPost_ret (v := _) (res1 rfl _ _ w.heap.size _ rfl (HR.out.got Hv.out _)) rfl ⟨rfl, HR.out.fin _⟩
theorem last_245 (w : World) (X : Cx) (σ : Sg) (f : Int × Int × Int) (h : RSt X w σ f 245) :
    Calls Tryz.prog 30 #[.pointer (some ⟨X.S, 0, none⟩)] w fun e w' => e = .returned (.agg (insV { Ins.zero with op := 39, sub := 2, size := 4 })) ∧ RDn X w σ f 245 w' := by
  obtain ⟨T, nI, fsI, psI, hv, Hv, ⟨vl, vs, vb, va, vx⟩, v1, v2, v3, v4, v5, v6, p0, p1, p2, p3, p4, p5, p6, p7, sz, ne⟩ := vlP
  have hr := RsQ.no (RsQ.start (T := T) h) (Kp.alloc noB _ (.cells #[.int .i64 2, .int .i64 (-1), .int .i64 (-1), .int .i64 0, .int .i64 1, .int .i64 5, .int .i64 6, .int .i64 3, .int .i64 4] 3))
  have pt := hr.put Hv.out
  have hS := h.ltS
  have c9 := h.c9
  have HR : Hid _ := hr
  clear h hv hr
  go_enter Tryz.func30, Tryz.ntmps30
  try simp only [vl, vs, va, vb, vx]
  clear vl vs va vb vx
  have u0 := insUp0
  have u1 := insUp1
  have u2 := insUp2
  go_wp2
  exact bodyPost_ret (v := _) (res1 rfl _ _ w.heap.size _ rfl (HR.out.got Hv.out _)) rfl ⟨rfl, HR.out.fin _⟩
theorem last_248 (w : World) (X : Cx) (σ : Sg) (f : Int × Int × Int) (h : RSt X w σ f 248) :
    Calls Tryz.prog 30 #[.pointer (some ⟨X.S, 0, none⟩)] w fun e w' => e = .returned (.agg (insV { Ins.zero with op := 39, sub := 0, size := 4 })) ∧ RDn X w σ f 248 w' := by
  obtain ⟨T, nI, fsI, psI, hv, Hv, ⟨vl, vs, vb, va, vx⟩, v1, v2, v3, v4, v5, v6, p0, p1, p2, p3, p4, p5, p6, p7, sz, ne⟩ := vlP
  have hr := RsQ.no (RsQ.start (T := T) h) (Kp.alloc noB _ (.cells #[.int .i64 2, .int .i64 (-1), .int .i64 (-1), .int .i64 0, .int .i64 1, .int .i64 5, .int .i64 6, .int .i64 3, .int .i64 4] 3))
  have pt := hr.put Hv.out
  have hS := h.ltS
  have c9 := h.c9
  have HR : Hid _ := hr
  clear h hv hr
  go_enter Tryz.func30, Tryz.ntmps30
  try simp only [vl, vs, va, vb, vx]
  clear vl vs va vb vx
  have u0 := insUp0
  have u1 := insUp1
  have u2 := insUp2
  go_wp2
  exact bodyPost_ret (v := _) (res1 rfl _ _ w.heap.size _ rfl (HR.out.got Hv.out _)) rfl ⟨rfl, HR.out.fin _⟩
theorem last_249 (w : World) (X : Cx) (σ : Sg) (f : Int × Int × Int) (h : RSt X w σ f 249) :
    Calls Tryz.prog 30 #[.pointer (some ⟨X.S, 0, none⟩)] w fun e w' => e = .returned (.agg (insV { Ins.zero with op := 39, sub := 1, size := 4 })) ∧ RDn X w σ f 249 w' := by
  obtain ⟨T, nI, fsI, psI, hv, Hv, ⟨vl, vs, vb, va, vx⟩, v1, v2, v3, v4, v5, v6, p0, p1, p2, p3, p4, p5, p6, p7, sz, ne⟩ := vlP
  have hr := RsQ.no (RsQ.start (T := T) h) (Kp.alloc noB _ (.cells #[.int .i64 2, .int .i64 (-1), .int .i64 (-1), .int .i64 0, .int .i64 1, .int .i64 5, .int .i64 6, .int .i64 3, .int .i64 4] 3))
  have pt := hr.put Hv.out
  have hS := h.ltS
  have c9 := h.c9
  have HR : Hid _ := hr
  clear h hv hr
  go_enter Tryz.func30, Tryz.ntmps30
  try simp only [vl, vs, va, vb, vx]
  clear vl vs va vb vx
  have u0 := insUp0
  have u1 := insUp1
  have u2 := insUp2
  go_wp2
  exact bodyPost_ret (v := _) (res1 rfl _ _ w.heap.size _ rfl (HR.out.got Hv.out _)) rfl ⟨rfl, HR.out.fin _⟩
theorem last_250 (w : World) (X : Cx) (σ : Sg) (f : Int × Int × Int) (h : RSt X w σ f 250) :
    Calls Tryz.prog 30 #[.pointer (some ⟨X.S, 0, none⟩)] w fun e w' => e = .returned (.agg (insV { Ins.zero with op := 39, sub := 5, size := 4 })) ∧ RDn X w σ f 250 w' := by
  obtain ⟨T, nI, fsI, psI, hv, Hv, ⟨vl, vs, vb, va, vx⟩, v1, v2, v3, v4, v5, v6, p0, p1, p2, p3, p4, p5, p6, p7, sz, ne⟩ := vlP
  have hr := RsQ.no (RsQ.start (T := T) h) (Kp.alloc noB _ (.cells #[.int .i64 2, .int .i64 (-1), .int .i64 (-1), .int .i64 0, .int .i64 1, .int .i64 5, .int .i64 6, .int .i64 3, .int .i64 4] 3))
  have pt := hr.put Hv.out
  have hS := h.ltS
  have c9 := h.c9
  have HR : Hid _ := hr
  clear h hv hr
  go_enter Tryz.func30, Tryz.ntmps30
  try simp only [vl, vs, va, vb, vx]
  clear vl vs va vb vx
  have u0 := insUp0
  have u1 := insUp1
  have u2 := insUp2
  go_wp2
  exact bodyPost_ret (v := _) (res1 rfl _ _ w.heap.size _ rfl (HR.out.got Hv.out _)) rfl ⟨rfl, HR.out.fin _⟩
theorem last_251 (w : World) (X : Cx) (σ : Sg) (f : Int × Int × Int) (h : RSt X w σ f 251) :
    Calls Tryz.prog 30 #[.pointer (some ⟨X.S, 0, none⟩)] w fun e w' => e = .returned (.agg (insV { Ins.zero with op := 39, sub := 6, size := 4 })) ∧ RDn X w σ f 251 w' := by
  obtain ⟨T, nI, fsI, psI, hv, Hv, ⟨vl, vs, vb, va, vx⟩, v1, v2, v3, v4, v5, v6, p0, p1, p2, p3, p4, p5, p6, p7, sz, ne⟩ := vlP
  have hr := RsQ.no (RsQ.start (T := T) h) (Kp.alloc noB _ (.cells #[.int .i64 2, .int .i64 (-1), .int .i64 (-1), .int .i64 0, .int .i64 1, .int .i64 5, .int .i64 6, .int .i64 3, .int .i64 4] 3))
  have pt := hr.put Hv.out
  have hS := h.ltS
  have c9 := h.c9
  have HR : Hid _ := hr
  clear h hv hr
  go_enter Tryz.func30, Tryz.ntmps30
  try simp only [vl, vs, va, vb, vx]
  clear vl vs va vb vx
  have u0 := insUp0
  have u1 := insUp1
  have u2 := insUp2
  go_wp2
  exact bodyPost_ret (v := _) (res1 rfl _ _ w.heap.size _ rfl (HR.out.got Hv.out _)) rfl ⟨rfl, HR.out.fin _⟩
theorem last_252 (w : World) (X : Cx) (σ : Sg) (f : Int × Int × Int) (h : RSt X w σ f 252) :
    Calls Tryz.prog 30 #[.pointer (some ⟨X.S, 0, none⟩)] w fun e w' => e = .returned (.agg (insV { Ins.zero with op := 39, sub := 3, size := 4 })) ∧ RDn X w σ f 252 w' := by
  obtain ⟨T, nI, fsI, psI, hv, Hv, ⟨vl, vs, vb, va, vx⟩, v1, v2, v3, v4, v5, v6, p0, p1, p2, p3, p4, p5, p6, p7, sz, ne⟩ := vlP
  have hr := RsQ.no (RsQ.start (T := T) h) (Kp.alloc noB _ (.cells #[.int .i64 2, .int .i64 (-1), .int .i64 (-1), .int .i64 0, .int .i64 1, .int .i64 5, .int .i64 6, .int .i64 3, .int .i64 4] 3))
  have pt := hr.put Hv.out
  have hS := h.ltS
  have c9 := h.c9
  have HR : Hid _ := hr
  clear h hv hr
  go_enter Tryz.func30, Tryz.ntmps30
  try simp only [vl, vs, va, vb, vx]
  clear vl vs va vb vx
  have u0 := insUp0
  have u1 := insUp1
  have u2 := insUp2
  go_wp2
  exact bodyPost_ret (v := _) (res1 rfl _ _ w.heap.size _ rfl (HR.out.got Hv.out _)) rfl ⟨rfl, HR.out.fin _⟩
theorem last_253 (w : World) (X : Cx) (σ : Sg) (f : Int × Int × Int) (h : RSt X w σ f 253) :
    Calls Tryz.prog 30 #[.pointer (some ⟨X.S, 0, none⟩)] w fun e w' => e = .returned (.agg (insV { Ins.zero with op := 39, sub := 4, size := 4 })) ∧ RDn X w σ f 253 w' := by
  obtain ⟨T, nI, fsI, psI, hv, Hv, ⟨vl, vs, vb, va, vx⟩, v1, v2, v3, v4, v5, v6, p0, p1, p2, p3, p4, p5, p6, p7, sz, ne⟩ := vlP
  have hr := RsQ.no (RsQ.start (T := T) h) (Kp.alloc noB _ (.cells #[.int .i64 2, .int .i64 (-1), .int .i64 (-1), .int .i64 0, .int .i64 1, .int .i64 5, .int .i64 6, .int .i64 3, .int .i64 4] 3))
  have pt := hr.put Hv.out
  have hS := h.ltS
  have c9 := h.c9
  have HR : Hid _ := hr
  clear h hv hr
  go_enter Tryz.func30, Tryz.ntmps30
  try simp only [vl, vs, va, vb, vx]
  clear vl vs va vb vx
  have u0 := insUp0
  have u1 := insUp1
  have u2 := insUp2
  go_wp2
  exact bodyPost_ret (v := _) (res1 rfl _ _ w.heap.size _ rfl (HR.out.got Hv.out _)) rfl ⟨rfl, HR.out.fin _⟩
end Go.Proofs.YtbfccfhjgopnbaaGreat
namespace Go.Proofs.YtbfccfhjgopnbaaGreat
open Go.ChangeShapes Go.WideShapes Go.ChangeAt Go.RowKit
set_option linter.unusedVariables false
set_option linter.unusedSimpArgs false
set_option maxRecDepth 20000
set_option maxHeartbeats 4000000 in
theorem bits_u (w : World) (X : Cx) (σ : Sg) (f : Int × Int × Int) (c : Int) (h : RSt X w σ f c) (h0 : 0 ≤ c) (h1 : c < 256) (n160 : (c == 160) = false) (n161 : (c == 161) = false) (n163 : (c == 163) = false) (n164 : (c == 164) = false) (n165 : (c == 165) = false) (n168 : (c == 168) = false) (n169 : (c == 169) = false) (n171 : (c == 171) = false) (n172 : (c == 172) = false) (n173 : (c == 173) = false) (n179 : (c == 179) = false) (n186 : (c == 186) = false) (n187 : (c == 187) = false) :
    Calls Tryz.prog 208 #[.pointer (some ⟨X.S, 0, none⟩)] w fun e w' => e = .returned (.agg (insV Ins.zero)) ∧ RDn X w (refuse σ) f c w' := by
  obtain ⟨T, nI, fsI, psI, hv, Hv, ⟨vl, vs, vb, va, vx⟩, v1, v2, v3, v4, v5, v6, p0, p1, p2, p3, p4, p5, p6, p7, sz, ne⟩ := vlP
  have hr := RsQ.start (T := T) h
  have pt := hr.put Hv.out
  have hS := h.ltS
  have c4 := h.c4
  have c9 := h.c9
  have hrA := fun o => RsQ.no hr (Kp.alloc noB _ o)
  have hrD := fun o => (hrA o).drew
  have ptA := fun o => (hrA o).put Hv.out
  have Hvs : Hid (σ.v = 1 ∨ σ.v = 2 ∨ σ.v = 4) := Or.inr h.vv
  have Hsg : Hid _ := sgn_bd h
  have Hc0 : Hid (0 ≤ (c : Int)) := by exact h0
  have Hsz : Hid (szM c σ = 1 ∨ szM c σ = 2 ∨ szM c σ = 4) := szM_or h.vv
  clear h hv
  go_enter Tryz.func208, Tryz.ntmps208
  try simp only [vl, vs, va, vb, vx]
  clear vl vs va vb vx
  go_wp2_with (first
    | (go_at_call 211; refine (num_okR _ X _ _ _ (RsQ.st (by first | assumption | exact hrD _ | exact hrA _)) _ (by first | decide | exact Hvs.out | exact Hsz.out)).mono ?_; rintro e wn ⟨rfl, hd⟩; have hrn := RsQ.call (by first | assumption | exact hrD _ | exact hrA _) hd; have c4n := hrn.st.c4; (try rw [bytesM_v] at c4n); have c9n := hrn.st.c9; have ptn := hrn.put Hv.out; have hSn := hrn.st.ltS; have hrA := fun o => RsQ.no hrn (Kp.alloc noB wn o); have hrD := fun o => (hrA o).drew; have ptA := fun o => (hrA o).put Hv.out; have ptD := fun o => (hrD o).put Hv.out)
    | (go_at_call 204; refine (signed_okR _ X _ _ _ (RsQ.st (by first | assumption | exact hrD _ | exact hrA _)) _ (by first | decide | exact Hvs.out)).mono ?_; rintro e wn ⟨rfl, hd⟩; have hrn := RsQ.call (by first | assumption | exact hrD _ | exact hrA _) hd; have c4n := hrn.st.c4; (try rw [bytesM_v] at c4n); have c9n := hrn.st.c9; have ptn := hrn.put Hv.out; have hSn := hrn.st.ltS; have hrA := fun o => RsQ.no hrn (Kp.alloc noB wn o); have hrD := fun o => (hrA o).drew; have ptA := fun o => (hrA o).put Hv.out; have ptD := fun o => (hrD o).put Hv.out)
    | (go_at_call 212; refine (rcut_v _ X _ _ _ (RsQ.st (by first | assumption | exact hrD _ | exact hrA _)) Hsg.out).mono ?_; rintro e wn ⟨rfl, rfl⟩; skip)
    | (go_at_call 209; refine (rsize_ok _ X _ _ _ (RsQ.st (by first | assumption | exact hrD _ | exact hrA _)) Hc0.out).mono ?_; rintro e wn ⟨rfl, rfl⟩; skip)
    | (go_at_call 213; refine (o_lit _ X _ _ _ (RsQ.st (by first | assumption | exact hrD _ | exact hrA _)) _).mono ?_; rintro e wn ⟨rfl, hd⟩; have hrn := RsQ.call (by first | assumption | exact hrD _ | exact hrA _) hd; have c4n := hrn.st.c4; (try rw [bytesM_v] at c4n); have c9n := hrn.st.c9; have ptn := hrn.put Hv.out; have hSn := hrn.st.ltS; have hrA := fun o => RsQ.no hrn (Kp.alloc noB wn o); have hrD := fun o => (hrA o).drew; have ptA := fun o => (hrA o).put Hv.out; have ptD := fun o => (hrD o).put Hv.out)
    | (go_at_call 210; refine (imm_lit _ _).mono ?_; rintro e wn ⟨rfl, kn⟩; have hrn := RsQ.no (by first | assumption | exact hrD _ | exact hrA _) kn; have c4n := hrn.st.c4; (try rw [bytesM_v] at c4n); have c9n := hrn.st.c9; have ptn := hrn.put Hv.out; have hSn := hrn.st.ltS; have hrA := fun o => RsQ.no hrn (Kp.alloc noB wn o); have hrD := fun o => (hrA o).drew; have ptA := fun o => (hrA o).put Hv.out; have ptD := fun o => (hrD o).put Hv.out)
    | (go_at_call 207; refine (reg_lit _ _ _).mono ?_; rintro e wn ⟨rfl, kn⟩; have hrn := RsQ.no (by first | assumption | exact hrD _ | exact hrA _) kn; have c4n := hrn.st.c4; (try rw [bytesM_v] at c4n); have c9n := hrn.st.c9; have ptn := hrn.put Hv.out; have hSn := hrn.st.ltS; have hrA := fun o => RsQ.no hrn (Kp.alloc noB wn o); have hrD := fun o => (hrA o).drew; have ptA := fun o => (hrA o).put Hv.out; have ptD := fun o => (hrD o).put Hv.out)
    | (go_at_call 31; refine (ud_ok _ X _ _ _ (RsQ.st (by first | assumption | exact hrD _ | exact hrA _))).mono ?_; rintro e wn ⟨rfl, hd⟩; have hrn := RsQ.call (by first | assumption | exact hrD _ | exact hrA _) hd; have c4n := hrn.st.c4; (try rw [bytesM_v] at c4n); have c9n := hrn.st.c9; have ptn := hrn.put Hv.out; have hSn := hrn.st.ltS; have hrA := fun o => RsQ.no hrn (Kp.alloc noB wn o); have hrD := fun o => (hrA o).drew; have ptA := fun o => (hrA o).put Hv.out; have ptD := fun o => (hrD o).put Hv.out))
  all_goals
    exact bodyPost_ret (v := _) (res1 rfl _ _ w.heap.size _ rfl (RsQ.got Hv.out (by first | assumption | exact hrD _ | exact hrA _) _)) rfl ⟨rfl, RsQ.fin (by first | assumption | exact hrD _ | exact hrA _) _⟩
end Go.Proofs.YtbfccfhjgopnbaaGreat
