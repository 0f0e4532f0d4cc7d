/- The document's reader, and the code's (RfOne). -/
import Derived.Test.YtbfccfhjgopnbaaGreatDr09
set_option linter.unusedSimpArgs false
namespace Go.Proofs.YtbfccfhjgopnbaaGreat
open Go.ChangeShapes Go.WideShapes Go.ChangeAt Go.RowKit
set_option linter.unusedVariables false
set_option linter.unusedSimpArgs false
set_option maxHeartbeats 40000000
set_option maxRecDepth 20000
theorem one_two (w : World) (X : Cx) (σ : Sg) (f : Int × Int × Int) (h : RSt X w σ f 15) (xI : Ins) (σ2 : Sg) (f2 : Int × Int × Int) (c2 : Int) (HB : ∀ W, RSt X W σ f 15 → Calls Tryz.prog 21 #[.pointer (some ⟨X.S, 0, none⟩)] W fun e w' => e = .returned (.agg (insV xI)) ∧ RDn X W σ2 f2 c2 w') :
    Calls Tryz.prog 12 #[.pointer (some ⟨X.S, 0, none⟩)] w fun e w' => e = .returned (.agg (insV xI)) ∧ RDn X w σ2 f2 c2 w' := by
  obtain ⟨T, nI, fsI, psI, hv, Hv, ⟨vl, vs, vb, va, vx⟩, v1, v2, v3, v4, v5, v6, p0, p1, p2, p3, p4, p5, p6, p7, sz, ne⟩ := vlP
  have hr := RsQ.start (T := T) h
  have c9 := hr.st.c9
  have hS := h.ltS
  have HR : Hid _ := hr
  have HBB : Hid _ := HB
  clear h hv hr HB
  go_enter Tryz.func12, Tryz.ntmps12
  try simp only [vl, vs, va, vb, vx]
  clear vl vs va vb vx
  go_wp2_with fail
  refine (HBB.out _ HR.out.st).mono ?_; rintro e w5 ⟨rfl, hd5⟩
  have hr5 := HR.out.call hd5
  have pt5 := hr5.put Hv.out
  have HRE : Hid _ := hr5
  clear hd5 hr5 HBB
  go_wp2
  exact bodyPost_ret (v := _) (res1 rfl _ _ w.heap.size _ rfl (HRE.out.got Hv.out _)) rfl ⟨rfl, HRE.out.fin _⟩
theorem one_sums (w : World) (X : Cx) (σ : Sg) (f : Int × Int × Int) (c : Int) (h : RSt X w σ f c) (h0 : 0 ≤ c) (h1 : c < 64) (h2 : c % 8 < 6) (xI : Ins) (σ2 : Sg) (f2 : Int × Int × Int) (c2 : Int) (HB : ∀ W, RSt X W σ f c → Calls Tryz.prog 22 #[.pointer (some ⟨X.S, 0, none⟩)] W fun e w' => e = .returned (.agg (insV xI)) ∧ RDn X W σ2 f2 c2 w') :
    Calls Tryz.prog 12 #[.pointer (some ⟨X.S, 0, none⟩)] w fun e w' => e = .returned (.agg (insV xI)) ∧ RDn X w σ2 f2 c2 w' := by
  obtain ⟨T, nI, fsI, psI, hv, Hv, ⟨vl, vs, vb, va, vx⟩, v1, v2, v3, v4, v5, v6, p0, p1, p2, p3, p4, p5, p6, p7, sz, ne⟩ := vlP
  have hr := RsQ.start (T := T) h
  have c9 := hr.st.c9
  have hS := h.ltS
  have HR : Hid _ := hr
  have HBB : Hid _ := HB
  have n15 : (c == 15) = false := by simp; omega
  have tm8 : c.tmod 8 = c % 8 := Int.tmod_eq_emod_of_nonneg h0
  clear h hv hr HB
  go_enter Tryz.func12, Tryz.ntmps12
  try simp only [vl, vs, va, vb, vx]
  clear vl vs va vb vx
  go_wp2_with fail
  refine (HBB.out _ HR.out.st).mono ?_; rintro e w5 ⟨rfl, hd5⟩
  have hr5 := HR.out.call hd5
  have pt5 := hr5.put Hv.out
  have HRE : Hid _ := hr5
  clear hd5 hr5 HBB
  go_wp2
  exact bodyPost_ret (v := _) (res1 rfl _ _ w.heap.size _ rfl (HRE.out.got Hv.out _)) rfl ⟨rfl, HRE.out.fin _⟩
theorem one_odd (w : World) (X : Cx) (σ : Sg) (f : Int × Int × Int) (c : Int) (h : RSt X w σ f c) (h0 : 0 ≤ c) (h1 : c < 64) (h2 : ¬ c % 8 < 6) (h3 : ¬ c = 15) (xI : Ins) (σ2 : Sg) (f2 : Int × Int × Int) (c2 : Int) (HB : ∀ W, RSt X W σ f c → Calls Tryz.prog 23 #[.pointer (some ⟨X.S, 0, none⟩)] W fun e w' => e = .returned (.agg (insV xI)) ∧ RDn X W σ2 f2 c2 w') :
    Calls Tryz.prog 12 #[.pointer (some ⟨X.S, 0, none⟩)] w fun e w' => e = .returned (.agg (insV xI)) ∧ RDn X w σ2 f2 c2 w' := by
  obtain ⟨T, nI, fsI, psI, hv, Hv, ⟨vl, vs, vb, va, vx⟩, v1, v2, v3, v4, v5, v6, p0, p1, p2, p3, p4, p5, p6, p7, sz, ne⟩ := vlP
  have hr := RsQ.start (T := T) h
  have c9 := hr.st.c9
  have hS := h.ltS
  have HR : Hid _ := hr
  have HBB : Hid _ := HB
  have n15 : (c == 15) = false := by simp; omega
  have tm8 : c.tmod 8 = c % 8 := Int.tmod_eq_emod_of_nonneg h0
  clear h hv hr HB
  go_enter Tryz.func12, Tryz.ntmps12
  try simp only [vl, vs, va, vb, vx]
  clear vl vs va vb vx
  go_wp2_with fail
  refine (HBB.out _ HR.out.st).mono ?_; rintro e w5 ⟨rfl, hd5⟩
  have hr5 := HR.out.call hd5
  have pt5 := hr5.put Hv.out
  have HRE : Hid _ := hr5
  clear hd5 hr5 HBB
  go_wp2
  exact bodyPost_ret (v := _) (res1 rfl _ _ w.heap.size _ rfl (HRE.out.got Hv.out _)) rfl ⟨rfl, HRE.out.fin _⟩
theorem one_middle (w : World) (X : Cx) (σ : Sg) (f : Int × Int × Int) (c : Int) (h : RSt X w σ f c) (h0 : ¬ c < 64) (h1 : c < 128) (xI : Ins) (σ2 : Sg) (f2 : Int × Int × Int) (c2 : Int) (HB : ∀ W, RSt X W σ f c → Calls Tryz.prog 24 #[.pointer (some ⟨X.S, 0, none⟩)] W fun e w' => e = .returned (.agg (insV xI)) ∧ RDn X W σ2 f2 c2 w') :
    Calls Tryz.prog 12 #[.pointer (some ⟨X.S, 0, none⟩)] w fun e w' => e = .returned (.agg (insV xI)) ∧ RDn X w σ2 f2 c2 w' := by
  obtain ⟨T, nI, fsI, psI, hv, Hv, ⟨vl, vs, vb, va, vx⟩, v1, v2, v3, v4, v5, v6, p0, p1, p2, p3, p4, p5, p6, p7, sz, ne⟩ := vlP
  have hr := RsQ.start (T := T) h
  have c9 := hr.st.c9
  have hS := h.ltS
  have HR : Hid _ := hr
  have HBB : Hid _ := HB
  have n15 : (c == 15) = false := by simp; omega
  clear h hv hr HB
  go_enter Tryz.func12, Tryz.ntmps12
  try simp only [vl, vs, va, vb, vx]
  clear vl vs va vb vx
  go_wp2_with fail
  refine (HBB.out _ HR.out.st).mono ?_; rintro e w5 ⟨rfl, hd5⟩
  have hr5 := HR.out.call hd5
  have pt5 := hr5.put Hv.out
  have HRE : Hid _ := hr5
  clear hd5 hr5 HBB
  go_wp2
  exact bodyPost_ret (v := _) (res1 rfl _ _ w.heap.size _ rfl (HRE.out.got Hv.out _)) rfl ⟨rfl, HRE.out.fin _⟩
theorem one_group (w : World) (X : Cx) (σ : Sg) (f : Int × Int × Int) (c : Int) (h : RSt X w σ f c) (h0 : ¬ c < 128) (h1 : c < 144) (xI : Ins) (σ2 : Sg) (f2 : Int × Int × Int) (c2 : Int) (HB : ∀ W, RSt X W σ f c → Calls Tryz.prog 25 #[.pointer (some ⟨X.S, 0, none⟩)] W fun e w' => e = .returned (.agg (insV xI)) ∧ RDn X W σ2 f2 c2 w') :
    Calls Tryz.prog 12 #[.pointer (some ⟨X.S, 0, none⟩)] w fun e w' => e = .returned (.agg (insV xI)) ∧ RDn X w σ2 f2 c2 w' := by
  obtain ⟨T, nI, fsI, psI, hv, Hv, ⟨vl, vs, vb, va, vx⟩, v1, v2, v3, v4, v5, v6, p0, p1, p2, p3, p4, p5, p6, p7, sz, ne⟩ := vlP
  have hr := RsQ.start (T := T) h
  have c9 := hr.st.c9
  have hS := h.ltS
  have HR : Hid _ := hr
  have HBB : Hid _ := HB
  have n15 : (c == 15) = false := by simp; omega
  have n64 : ¬ c < 64 := by omega
  clear h hv hr HB
  go_enter Tryz.func12, Tryz.ntmps12
  try simp only [vl, vs, va, vb, vx]
  clear vl vs va vb vx
  go_wp2_with fail
  refine (HBB.out _ HR.out.st).mono ?_; rintro e w5 ⟨rfl, hd5⟩
  have hr5 := HR.out.call hd5
  have pt5 := hr5.put Hv.out
  have HRE : Hid _ := hr5
  clear hd5 hr5 HBB
  go_wp2
  exact bodyPost_ret (v := _) (res1 rfl _ _ w.heap.size _ rfl (HRE.out.got Hv.out _)) rfl ⟨rfl, HRE.out.fin _⟩
theorem one_upper (w : World) (X : Cx) (σ : Sg) (f : Int × Int × Int) (c : Int) (h : RSt X w σ f c) (h0 : ¬ c < 144) (h1 : c < 192) (xI : Ins) (σ2 : Sg) (f2 : Int × Int × Int) (c2 : Int) (HB : ∀ W, RSt X W σ f c → Calls Tryz.prog 26 #[.pointer (some ⟨X.S, 0, none⟩)] W fun e w' => e = .returned (.agg (insV xI)) ∧ RDn X W σ2 f2 c2 w') :
    Calls Tryz.prog 12 #[.pointer (some ⟨X.S, 0, none⟩)] w fun e w' => e = .returned (.agg (insV xI)) ∧ RDn X w σ2 f2 c2 w' := by
  obtain ⟨T, nI, fsI, psI, hv, Hv, ⟨vl, vs, vb, va, vx⟩, v1, v2, v3, v4, v5, v6, p0, p1, p2, p3, p4, p5, p6, p7, sz, ne⟩ := vlP
  have hr := RsQ.start (T := T) h
  have c9 := hr.st.c9
  have hS := h.ltS
  have HR : Hid _ := hr
  have HBB : Hid _ := HB
  have n15 : (c == 15) = false := by simp; omega
  have n64 : ¬ c < 64 := by omega
  have n128 : ¬ c < 128 := by omega
  clear h hv hr HB
  go_enter Tryz.func12, Tryz.ntmps12
  try simp only [vl, vs, va, vb, vx]
  clear vl vs va vb vx
  go_wp2_with fail
  refine (HBB.out _ HR.out.st).mono ?_; rintro e w5 ⟨rfl, hd5⟩
  have hr5 := HR.out.call hd5
  have pt5 := hr5.put Hv.out
  have HRE : Hid _ := hr5
  clear hd5 hr5 HBB
  go_wp2
  exact bodyPost_ret (v := _) (res1 rfl _ _ w.heap.size _ rfl (HRE.out.got Hv.out _)) rfl ⟨rfl, HRE.out.fin _⟩
theorem one_of_ports (w : World) (X : Cx) (σ : Sg) (f : Int × Int × Int) (c : Int) (h : RSt X w σ f c) (hc : c ∈ [228, 229, 230, 231, 236, 237, 238, 239]) (xI : Ins) (σ2 : Sg) (f2 : Int × Int × Int) (c2 : Int) (HB : ∀ W, RSt X W σ f c → Calls Tryz.prog 28 #[.pointer (some ⟨X.S, 0, none⟩)] W fun e w' => e = .returned (.agg (insV xI)) ∧ RDn X W σ2 f2 c2 w') :
    Calls Tryz.prog 12 #[.pointer (some ⟨X.S, 0, none⟩)] w fun e w' => e = .returned (.agg (insV xI)) ∧ RDn X w σ2 f2 c2 w' := by
  obtain ⟨T, nI, fsI, psI, hv, Hv, ⟨vl, vs, vb, va, vx⟩, v1, v2, v3, v4, v5, v6, p0, p1, p2, p3, p4, p5, p6, p7, sz, ne⟩ := vlP
  have hr := RsQ.start (T := T) h
  have c9 := hr.st.c9
  have hS := h.ltS
  have HR : Hid _ := hr
  have HBB : Hid _ := HB
  clear h hv hr HB
  simp only [List.mem_cons, List.not_mem_nil, or_false] at hc
  rcases hc with rfl | rfl | rfl | rfl | rfl | rfl | rfl | rfl
  all_goals
    go_enter Tryz.func12, Tryz.ntmps12
    try simp only [vl, vs, va, vb, vx]
    clear vl vs va vb vx
    go_wp2_with fail
    refine (HBB.out _ HR.out.st).mono ?_; rintro e w5 ⟨rfl, hd5⟩
    have hr5 := HR.out.call hd5
    have pt5 := hr5.put Hv.out
    have HRE : Hid _ := hr5
    clear hd5 hr5 HBB
    go_wp2
    exact bodyPost_ret (v := _) (res1 rfl _ _ w.heap.size _ rfl (HRE.out.got Hv.out _)) rfl ⟨rfl, HRE.out.fin _⟩
theorem one_of_last (w : World) (X : Cx) (σ : Sg) (f : Int × Int × Int) (c : Int) (h : RSt X w σ f c) (hc : c ∈ [244, 245, 246, 247, 248, 249, 250, 251, 252, 253, 254, 255]) (xI : Ins) (σ2 : Sg) (f2 : Int × Int × Int) (c2 : Int) (HB : ∀ W, RSt X W σ f c → Calls Tryz.prog 30 #[.pointer (some ⟨X.S, 0, none⟩)] W fun e w' => e = .returned (.agg (insV xI)) ∧ RDn X W σ2 f2 c2 w') :
    Calls Tryz.prog 12 #[.pointer (some ⟨X.S, 0, none⟩)] w fun e w' => e = .returned (.agg (insV xI)) ∧ RDn X w σ2 f2 c2 w' := by
  obtain ⟨T, nI, fsI, psI, hv, Hv, ⟨vl, vs, vb, va, vx⟩, v1, v2, v3, v4, v5, v6, p0, p1, p2, p3, p4, p5, p6, p7, sz, ne⟩ := vlP
  have hr := RsQ.start (T := T) h
  have c9 := hr.st.c9
  have hS := h.ltS
  have HR : Hid _ := hr
  have HBB : Hid _ := HB
  clear h hv hr HB
  simp only [List.mem_cons, List.not_mem_nil, or_false] at hc
  rcases hc with rfl | rfl | rfl | rfl | rfl | rfl | rfl | rfl | rfl | rfl | rfl | rfl
  all_goals
    go_enter Tryz.func12, Tryz.ntmps12
    try simp only [vl, vs, va, vb, vx]
    clear vl vs va vb vx
    go_wp2_with fail
    refine (HBB.out _ HR.out.st).mono ?_; rintro e w5 ⟨rfl, hd5⟩
    have hr5 := HR.out.call hd5
    have pt5 := hr5.put Hv.out
    have HRE : Hid _ := hr5
    clear hd5 hr5 HBB
    go_wp2
    exact bodyPost_ret (v := _) (res1 rfl _ _ w.heap.size _ rfl (HRE.out.got Hv.out _)) rfl ⟨rfl, HRE.out.fin _⟩
theorem one_of_jumps (w : World) (X : Cx) (σ : Sg) (f : Int × Int × Int) (c : Int) (h : RSt X w σ f c) (hc : c ∈ [194, 195, 196, 197, 198, 199, 200, 201, 202, 203, 204, 205, 206, 207, 212, 213, 214, 215, 216, 217, 218, 219, 220, 221, 222, 223, 224, 225, 226, 227, 232, 233, 234, 235]) (xI : Ins) (σ2 : Sg) (f2 : Int × Int × Int) (c2 : Int) (HB : ∀ W, RSt X W σ f c → Calls Tryz.prog 29 #[.pointer (some ⟨X.S, 0, none⟩)] W fun e w' => e = .returned (.agg (insV xI)) ∧ RDn X W σ2 f2 c2 w') :
    Calls Tryz.prog 12 #[.pointer (some ⟨X.S, 0, none⟩)] w fun e w' => e = .returned (.agg (insV xI)) ∧ RDn X w σ2 f2 c2 w' := by
  obtain ⟨T, nI, fsI, psI, hv, Hv, ⟨vl, vs, vb, va, vx⟩, v1, v2, v3, v4, v5, v6, p0, p1, p2, p3, p4, p5, p6, p7, sz, ne⟩ := vlP
  have hr := RsQ.start (T := T) h
  have c9 := hr.st.c9
  have hS := h.ltS
  have HR : Hid _ := hr
  have HBB : Hid _ := HB
  clear h hv hr HB
  simp only [List.mem_cons, List.not_mem_nil, or_false] at hc
  rcases hc with rfl | rfl | rfl | rfl | rfl | rfl | rfl | rfl | rfl | rfl | rfl | rfl | rfl | rfl | rfl | rfl | rfl | rfl | rfl | rfl | rfl | rfl | rfl | rfl | rfl | rfl | rfl | rfl | rfl | rfl | rfl | rfl | rfl | rfl
  all_goals
    go_enter Tryz.func12, Tryz.ntmps12
    try simp only [vl, vs, va, vb, vx]
    clear vl vs va vb vx
    go_wp2_with fail
    refine (HBB.out _ HR.out.st).mono ?_; rintro e w5 ⟨rfl, hd5⟩
    have hr5 := HR.out.call hd5
    have pt5 := hr5.put Hv.out
    have HRE : Hid _ := hr5
    clear hd5 hr5 HBB
    go_wp2
    exact bodyPost_ret (v := _) (res1 rfl _ _ w.heap.size _ rfl (HRE.out.got Hv.out _)) rfl ⟨rfl, HRE.out.fin _⟩
theorem one_of_ud (w : World) (X : Cx) (σ : Sg) (f : Int × Int × Int) (c : Int) (h : RSt X w σ f c) (hc : c ∈ [240, 241]) (xI : Ins) (σ2 : Sg) (f2 : Int × Int × Int) (c2 : Int) (HB : ∀ W, RSt X W σ f c → Calls Tryz.prog 31 #[.pointer (some ⟨X.S, 0, none⟩)] W fun e w' => e = .returned (.tuple #[]) ∧ RDn X W σ2 f2 c2 w') :
    Calls Tryz.prog 12 #[.pointer (some ⟨X.S, 0, none⟩)] w fun e w' => e = .returned (.agg (insV Ins.zero)) ∧ RDn X w σ2 f2 c2 w' := by
  obtain ⟨T, nI, fsI, psI, hv, Hv, ⟨vl, vs, vb, va, vx⟩, v1, v2, v3, v4, v5, v6, p0, p1, p2, p3, p4, p5, p6, p7, sz, ne⟩ := vlP
  have hr := RsQ.start (T := T) h
  have c9 := hr.st.c9
  have hS := h.ltS
  have HR : Hid _ := hr
  have HBB : Hid _ := HB
  clear h hv hr HB
  simp only [List.mem_cons, List.not_mem_nil, or_false] at hc
  rcases hc with rfl | rfl
  all_goals
    go_enter Tryz.func12, Tryz.ntmps12
    try simp only [vl, vs, va, vb, vx]
    clear vl vs va vb vx
    go_wp2_with fail
    refine (HBB.out _ HR.out.st).mono ?_; rintro e w5 ⟨rfl, hd5⟩
    have hr5 := HR.out.call hd5
    have pt5 := hr5.put Hv.out
    have HRE : Hid _ := hr5
    clear hd5 hr5 HBB
    go_wp2
    exact bodyPost_ret (v := _) (res1 rfl _ _ w.heap.size _ rfl (HRE.out.got Hv.out _)) rfl ⟨rfl, HRE.out.fin _⟩
theorem one_of_shifts (w : World) (X : Cx) (σ : Sg) (f : Int × Int × Int) (c : Int) (h : RSt X w σ f c) (hc : c ∈ [192, 193, 208, 209, 210, 211]) (xI : Ins) (σ2 : Sg) (f2 : Int × Int × Int) (c2 : Int) (HB : ∀ W, RSt X W σ f c → Calls Tryz.prog 27 #[.pointer (some ⟨X.S, 0, none⟩)] W fun e w' => e = .returned (.agg (insV xI)) ∧ RDn X W σ2 f2 c2 w') :
    Calls Tryz.prog 12 #[.pointer (some ⟨X.S, 0, none⟩)] w fun e w' => e = .returned (.agg (insV xI)) ∧ RDn X w σ2 f2 c2 w' := by
  obtain ⟨T, nI, fsI, psI, hv, Hv, ⟨vl, vs, vb, va, vx⟩, v1, v2, v3, v4, v5, v6, p0, p1, p2, p3, p4, p5, p6, p7, sz, ne⟩ := vlP
  have hr := RsQ.start (T := T) h
  have c9 := hr.st.c9
  have hS := h.ltS
  have HR : Hid _ := hr
  have HBB : Hid _ := HB
  clear h hv hr HB
  simp only [List.mem_cons, List.not_mem_nil, or_false] at hc
  rcases hc with rfl | rfl | rfl | rfl | rfl | rfl
  all_goals
    go_enter Tryz.func12, Tryz.ntmps12
    try simp only [vl, vs, va, vb, vx]
    clear vl vs va vb vx
    go_wp2_with fail
    refine (HBB.out _ HR.out.st).mono ?_; rintro e w5 ⟨rfl, hd5⟩
    have hr5 := HR.out.call hd5
    have pt5 := hr5.put Hv.out
    have HRE : Hid _ := hr5
    clear hd5 hr5 HBB
    go_wp2
    exact bodyPost_ret (v := _) (res1 rfl _ _ w.heap.size _ rfl (HRE.out.got Hv.out _)) rfl ⟨rfl, HRE.out.fin _⟩
end Go.Proofs.YtbfccfhjgopnbaaGreat
