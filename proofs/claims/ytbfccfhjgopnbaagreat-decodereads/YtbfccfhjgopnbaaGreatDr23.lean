/- The document's reader, and the code's (RfOdd). -/
import Derived.Test.YtbfccfhjgopnbaaGreatDr09
set_option linter.unusedSimpArgs false
namespace Go.Proofs.YtbfccfhjgopnbaaGreat
open Go.ChangeShapes Go.WideShapes Go.ChangeAt Go.RowKit
set_option linter.unusedVariables false
set_option linter.unusedSimpArgs false
set_option maxHeartbeats 4000000
set_option maxRecDepth 20000
def oddI (c v : Int) : Ins :=
  if c = 6 ∨ c = 14 ∨ c = 22 ∨ c = 30 then { Ins.zero with op := 12, size := v, a := segO (c / 8) }
  else if c = 7 ∨ c = 23 ∨ c = 31 then { Ins.zero with op := 13, size := v, a := segO (c / 8) }
  else { Ins.zero with op := 7, sub := c / 8 - 4, size := 1 }
theorem odd_6 (w : World) (X : Cx) (σ : Sg) (f : Int × Int × Int) (h : RSt X w σ f 6) :
    Calls Tryz.prog 23 #[.pointer (some ⟨X.S, 0, none⟩)] w fun e w' => e = .returned (.agg (insV (oddI 6 σ.v))) ∧ RDn X w σ f 6 w' := by
  obtain ⟨T, nI, fsI, psI, hv, Hv, ⟨vl, vs, vb, va, vx⟩, v1, v2, v3, v4, v5, v6, p0, p1, p2, p3, p4, p5, p6, p7, sz, ne⟩ := vlP
  have hS := h.ltS
  have c4 := h.c4
  have c9 := h.c9
  have new1 : ∀ x y o, (storeCells ⟨w.heap.size + 1, 0, none⟩ (insV x).toList).run Tryz.prog ((w.alloc o).alloc (.cells (insV y) T)).drew = .ok () ((w.alloc o).alloc (.cells (insV x) T)).drew := fun x y o => hv.newD (w.alloc o) _ (by simp) x y
  have hI : ∀ x, InI T X w (w.heap.size + 1) x σ f 6 ((w.alloc (.cells (insV Ins.zero) T)).alloc (.cells (insV x) T)).drew := fun x => by
    have e := ((RsI.start (T := T) h).own x).drew 1
    rw [show (w.alloc (.cells (insV Ins.zero) T)).heap.size = w.heap.size + 1 by simp] at e
    exact e
  have HI : Hid _ := hI
  clear h hv hI
  go_enter Tryz.func23, Tryz.ntmps23
  try simp only [vl, vs, va, vb, vx]
  clear vl vs va vb vx
  obtain ⟨u0, u1, u2, u3, u4, u5, u6, u7, u8, u9, u10, u11⟩ := ups12
  go_wp2
  go_region
  all_goals
    have hI := HI.out (((((((((((Ins.zero.up 0 12).up 2 σ.v).up 3 4).up 4 0).up 5 0).up 6 0).up 7 0).up 8 0).up 9 0).up 10 0).up 11 0)
    generalize ((w.alloc (.cells (insV Ins.zero) T)).alloc (.cells (insV (((((((((((Ins.zero.up 0 12).up 2 σ.v).up 3 4).up 4 0).up 5 0).up 6 0).up 7 0).up 8 0).up 9 0).up 10 0).up 11 0)) T)).drew = W at hI ⊢
    clear HI new1 c4 c9
    have gt := Hv.out.get hI.op
    have pt := hI.r.put Hv.out
    have Hr : Hid _ := hI.r
    have d9 := hI.r.st.c9
    clear hI
    go_wp2
    exact bodyPost_ret (v := _) (res1 rfl _ _ w.heap.size _ rfl (Hr.out.got Hv.out _)) rfl ⟨rfl, Hr.out.fin _⟩
theorem odd_14 (w : World) (X : Cx) (σ : Sg) (f : Int × Int × Int) (h : RSt X w σ f 14) :
    Calls Tryz.prog 23 #[.pointer (some ⟨X.S, 0, none⟩)] w fun e w' => e = .returned (.agg (insV (oddI 14 σ.v))) ∧ RDn X w σ f 14 w' := by
  obtain ⟨T, nI, fsI, psI, hv, Hv, ⟨vl, vs, vb, va, vx⟩, v1, v2, v3, v4, v5, v6, p0, p1, p2, p3, p4, p5, p6, p7, sz, ne⟩ := vlP
  have hS := h.ltS
  have c4 := h.c4
  have c9 := h.c9
  have new1 : ∀ x y o, (storeCells ⟨w.heap.size + 1, 0, none⟩ (insV x).toList).run Tryz.prog ((w.alloc o).alloc (.cells (insV y) T)).drew = .ok () ((w.alloc o).alloc (.cells (insV x) T)).drew := fun x y o => hv.newD (w.alloc o) _ (by simp) x y
  have hI : ∀ x, InI T X w (w.heap.size + 1) x σ f 14 ((w.alloc (.cells (insV Ins.zero) T)).alloc (.cells (insV x) T)).drew := fun x => by
    have e := ((RsI.start (T := T) h).own x).drew 1
    rw [show (w.alloc (.cells (insV Ins.zero) T)).heap.size = w.heap.size + 1 by simp] at e
    exact e
  have HI : Hid _ := hI
  clear h hv hI
  go_enter Tryz.func23, Tryz.ntmps23
  try simp only [vl, vs, va, vb, vx]
  clear vl vs va vb vx
  obtain ⟨u0, u1, u2, u3, u4, u5, u6, u7, u8, u9, u10, u11⟩ := ups12
  go_wp2
  go_region
  all_goals
    have hI := HI.out (((((((((((Ins.zero.up 0 12).up 2 σ.v).up 3 4).up 4 1).up 5 0).up 6 0).up 7 0).up 8 0).up 9 0).up 10 0).up 11 0)
    generalize ((w.alloc (.cells (insV Ins.zero) T)).alloc (.cells (insV (((((((((((Ins.zero.up 0 12).up 2 σ.v).up 3 4).up 4 1).up 5 0).up 6 0).up 7 0).up 8 0).up 9 0).up 10 0).up 11 0)) T)).drew = W at hI ⊢
    clear HI new1 c4 c9
    have gt := Hv.out.get hI.op
    have pt := hI.r.put Hv.out
    have Hr : Hid _ := hI.r
    have d9 := hI.r.st.c9
    clear hI
    go_wp2
    exact bodyPost_ret (v := _) (res1 rfl _ _ w.heap.size _ rfl (Hr.out.got Hv.out _)) rfl ⟨rfl, Hr.out.fin _⟩
theorem odd_22 (w : World) (X : Cx) (σ : Sg) (f : Int × Int × Int) (h : RSt X w σ f 22) :
    Calls Tryz.prog 23 #[.pointer (some ⟨X.S, 0, none⟩)] w fun e w' => e = .returned (.agg (insV (oddI 22 σ.v))) ∧ RDn X w σ f 22 w' := by
  obtain ⟨T, nI, fsI, psI, hv, Hv, ⟨vl, vs, vb, va, vx⟩, v1, v2, v3, v4, v5, v6, p0, p1, p2, p3, p4, p5, p6, p7, sz, ne⟩ := vlP
  have hS := h.ltS
  have c4 := h.c4
  have c9 := h.c9
  have new1 : ∀ x y o, (storeCells ⟨w.heap.size + 1, 0, none⟩ (insV x).toList).run Tryz.prog ((w.alloc o).alloc (.cells (insV y) T)).drew = .ok () ((w.alloc o).alloc (.cells (insV x) T)).drew := fun x y o => hv.newD (w.alloc o) _ (by simp) x y
  have hI : ∀ x, InI T X w (w.heap.size + 1) x σ f 22 ((w.alloc (.cells (insV Ins.zero) T)).alloc (.cells (insV x) T)).drew := fun x => by
    have e := ((RsI.start (T := T) h).own x).drew 1
    rw [show (w.alloc (.cells (insV Ins.zero) T)).heap.size = w.heap.size + 1 by simp] at e
    exact e
  have HI : Hid _ := hI
  clear h hv hI
  go_enter Tryz.func23, Tryz.ntmps23
  try simp only [vl, vs, va, vb, vx]
  clear vl vs va vb vx
  obtain ⟨u0, u1, u2, u3, u4, u5, u6, u7, u8, u9, u10, u11⟩ := ups12
  go_wp2
  go_region
  all_goals
    have hI := HI.out (((((((((((Ins.zero.up 0 12).up 2 σ.v).up 3 4).up 4 2).up 5 0).up 6 0).up 7 0).up 8 0).up 9 0).up 10 0).up 11 0)
    generalize ((w.alloc (.cells (insV Ins.zero) T)).alloc (.cells (insV (((((((((((Ins.zero.up 0 12).up 2 σ.v).up 3 4).up 4 2).up 5 0).up 6 0).up 7 0).up 8 0).up 9 0).up 10 0).up 11 0)) T)).drew = W at hI ⊢
    clear HI new1 c4 c9
    have gt := Hv.out.get hI.op
    have pt := hI.r.put Hv.out
    have Hr : Hid _ := hI.r
    have d9 := hI.r.st.c9
    clear hI
    go_wp2
    exact bodyPost_ret (v := _) (res1 rfl _ _ w.heap.size _ rfl (Hr.out.got Hv.out _)) rfl ⟨rfl, Hr.out.fin _⟩
theorem odd_30 (w : World) (X : Cx) (σ : Sg) (f : Int × Int × Int) (h : RSt X w σ f 30) :
    Calls Tryz.prog 23 #[.pointer (some ⟨X.S, 0, none⟩)] w fun e w' => e = .returned (.agg (insV (oddI 30 σ.v))) ∧ RDn X w σ f 30 w' := by
  obtain ⟨T, nI, fsI, psI, hv, Hv, ⟨vl, vs, vb, va, vx⟩, v1, v2, v3, v4, v5, v6, p0, p1, p2, p3, p4, p5, p6, p7, sz, ne⟩ := vlP
  have hS := h.ltS
  have c4 := h.c4
  have c9 := h.c9
  have new1 : ∀ x y o, (storeCells ⟨w.heap.size + 1, 0, none⟩ (insV x).toList).run Tryz.prog ((w.alloc o).alloc (.cells (insV y) T)).drew = .ok () ((w.alloc o).alloc (.cells (insV x) T)).drew := fun x y o => hv.newD (w.alloc o) _ (by simp) x y
  have hI : ∀ x, InI T X w (w.heap.size + 1) x σ f 30 ((w.alloc (.cells (insV Ins.zero) T)).alloc (.cells (insV x) T)).drew := fun x => by
    have e := ((RsI.start (T := T) h).own x).drew 1
    rw [show (w.alloc (.cells (insV Ins.zero) T)).heap.size = w.heap.size + 1 by simp] at e
    exact e
  have HI : Hid _ := hI
  clear h hv hI
  go_enter Tryz.func23, Tryz.ntmps23
  try simp only [vl, vs, va, vb, vx]
  clear vl vs va vb vx
  obtain ⟨u0, u1, u2, u3, u4, u5, u6, u7, u8, u9, u10, u11⟩ := ups12
  go_wp2
  go_region
  all_goals
    have hI := HI.out (((((((((((Ins.zero.up 0 12).up 2 σ.v).up 3 4).up 4 3).up 5 0).up 6 0).up 7 0).up 8 0).up 9 0).up 10 0).up 11 0)
    generalize ((w.alloc (.cells (insV Ins.zero) T)).alloc (.cells (insV (((((((((((Ins.zero.up 0 12).up 2 σ.v).up 3 4).up 4 3).up 5 0).up 6 0).up 7 0).up 8 0).up 9 0).up 10 0).up 11 0)) T)).drew = W at hI ⊢
    clear HI new1 c4 c9
    have gt := Hv.out.get hI.op
    have pt := hI.r.put Hv.out
    have Hr : Hid _ := hI.r
    have d9 := hI.r.st.c9
    clear hI
    go_wp2
    exact bodyPost_ret (v := _) (res1 rfl _ _ w.heap.size _ rfl (Hr.out.got Hv.out _)) rfl ⟨rfl, Hr.out.fin _⟩
theorem odd_7 (w : World) (X : Cx) (σ : Sg) (f : Int × Int × Int) (h : RSt X w σ f 7) :
    Calls Tryz.prog 23 #[.pointer (some ⟨X.S, 0, none⟩)] w fun e w' => e = .returned (.agg (insV (oddI 7 σ.v))) ∧ RDn X w σ f 7 w' := by
  obtain ⟨T, nI, fsI, psI, hv, Hv, ⟨vl, vs, vb, va, vx⟩, v1, v2, v3, v4, v5, v6, p0, p1, p2, p3, p4, p5, p6, p7, sz, ne⟩ := vlP
  have hS := h.ltS
  have c4 := h.c4
  have c9 := h.c9
  have new1 : ∀ x y o, (storeCells ⟨w.heap.size + 1, 0, none⟩ (insV x).toList).run Tryz.prog ((w.alloc o).alloc (.cells (insV y) T)).drew = .ok () ((w.alloc o).alloc (.cells (insV x) T)).drew := fun x y o => hv.newD (w.alloc o) _ (by simp) x y
  have hI : ∀ x, InI T X w (w.heap.size + 1) x σ f 7 ((w.alloc (.cells (insV Ins.zero) T)).alloc (.cells (insV x) T)).drew := fun x => by
    have e := ((RsI.start (T := T) h).own x).drew 1
    rw [show (w.alloc (.cells (insV Ins.zero) T)).heap.size = w.heap.size + 1 by simp] at e
    exact e
  have HI : Hid _ := hI
  clear h hv hI
  go_enter Tryz.func23, Tryz.ntmps23
  try simp only [vl, vs, va, vb, vx]
  clear vl vs va vb vx
  obtain ⟨u0, u1, u2, u3, u4, u5, u6, u7, u8, u9, u10, u11⟩ := ups12
  go_wp2
  go_region
  all_goals
    have hI := HI.out (((((((((((Ins.zero.up 0 12).up 2 σ.v).up 3 4).up 4 0).up 5 0).up 6 0).up 7 0).up 8 0).up 9 0).up 10 0).up 11 0)
    generalize ((w.alloc (.cells (insV Ins.zero) T)).alloc (.cells (insV (((((((((((Ins.zero.up 0 12).up 2 σ.v).up 3 4).up 4 0).up 5 0).up 6 0).up 7 0).up 8 0).up 9 0).up 10 0).up 11 0)) T)).drew = W at hI ⊢
    clear HI new1 c4 c9
    have hJ := hI.set 0 (.int .i64 13) _ (insUp0 _ 13)
    have gt := Hv.out.get hJ.op
    have pt := hJ.r.put Hv.out
    have Hr : Hid _ := hJ.r
    have d9 := hI.r.st.c9
    have ce : W.cell? ⟨w.heap.size + 1, 0, none⟩ = some (.int .i64 12) := by simp [World.cell?, hI.op]; rfl
    have cz : W.frozen? ⟨w.heap.size + 1, 0, none⟩ = false := by simp [World.frozen?, hI.op]
    clear hI hJ
    go_wp2
    exact bodyPost_ret (v := _) (res1 rfl _ _ w.heap.size _ rfl (Hr.out.got Hv.out _)) rfl ⟨rfl, Hr.out.fin _⟩
theorem odd_23 (w : World) (X : Cx) (σ : Sg) (f : Int × Int × Int) (h : RSt X w σ f 23) :
    Calls Tryz.prog 23 #[.pointer (some ⟨X.S, 0, none⟩)] w fun e w' => e = .returned (.agg (insV (oddI 23 σ.v))) ∧ RDn X w σ f 23 w' := by
  obtain ⟨T, nI, fsI, psI, hv, Hv, ⟨vl, vs, vb, va, vx⟩, v1, v2, v3, v4, v5, v6, p0, p1, p2, p3, p4, p5, p6, p7, sz, ne⟩ := vlP
  have hS := h.ltS
  have c4 := h.c4
  have c9 := h.c9
  have new1 : ∀ x y o, (storeCells ⟨w.heap.size + 1, 0, none⟩ (insV x).toList).run Tryz.prog ((w.alloc o).alloc (.cells (insV y) T)).drew = .ok () ((w.alloc o).alloc (.cells (insV x) T)).drew := fun x y o => hv.newD (w.alloc o) _ (by simp) x y
  have hI : ∀ x, InI T X w (w.heap.size + 1) x σ f 23 ((w.alloc (.cells (insV Ins.zero) T)).alloc (.cells (insV x) T)).drew := fun x => by
    have e := ((RsI.start (T := T) h).own x).drew 1
    rw [show (w.alloc (.cells (insV Ins.zero) T)).heap.size = w.heap.size + 1 by simp] at e
    exact e
  have HI : Hid _ := hI
  clear h hv hI
  go_enter Tryz.func23, Tryz.ntmps23
  try simp only [vl, vs, va, vb, vx]
  clear vl vs va vb vx
  obtain ⟨u0, u1, u2, u3, u4, u5, u6, u7, u8, u9, u10, u11⟩ := ups12
  go_wp2
  go_region
  all_goals
    have hI := HI.out (((((((((((Ins.zero.up 0 12).up 2 σ.v).up 3 4).up 4 2).up 5 0).up 6 0).up 7 0).up 8 0).up 9 0).up 10 0).up 11 0)
    generalize ((w.alloc (.cells (insV Ins.zero) T)).alloc (.cells (insV (((((((((((Ins.zero.up 0 12).up 2 σ.v).up 3 4).up 4 2).up 5 0).up 6 0).up 7 0).up 8 0).up 9 0).up 10 0).up 11 0)) T)).drew = W at hI ⊢
    clear HI new1 c4 c9
    have hJ := hI.set 0 (.int .i64 13) _ (insUp0 _ 13)
    have gt := Hv.out.get hJ.op
    have pt := hJ.r.put Hv.out
    have Hr : Hid _ := hJ.r
    have d9 := hI.r.st.c9
    have ce : W.cell? ⟨w.heap.size + 1, 0, none⟩ = some (.int .i64 12) := by simp [World.cell?, hI.op]; rfl
    have cz : W.frozen? ⟨w.heap.size + 1, 0, none⟩ = false := by simp [World.frozen?, hI.op]
    clear hI hJ
    go_wp2
    exact bodyPost_ret (v := _) (res1 rfl _ _ w.heap.size _ rfl (Hr.out.got Hv.out _)) rfl ⟨rfl, Hr.out.fin _⟩
theorem odd_31 (w : World) (X : Cx) (σ : Sg) (f : Int × Int × Int) (h : RSt X w σ f 31) :
    Calls Tryz.prog 23 #[.pointer (some ⟨X.S, 0, none⟩)] w fun e w' => e = .returned (.agg (insV (oddI 31 σ.v))) ∧ RDn X w σ f 31 w' := by
  obtain ⟨T, nI, fsI, psI, hv, Hv, ⟨vl, vs, vb, va, vx⟩, v1, v2, v3, v4, v5, v6, p0, p1, p2, p3, p4, p5, p6, p7, sz, ne⟩ := vlP
  have hS := h.ltS
  have c4 := h.c4
  have c9 := h.c9
  have new1 : ∀ x y o, (storeCells ⟨w.heap.size + 1, 0, none⟩ (insV x).toList).run Tryz.prog ((w.alloc o).alloc (.cells (insV y) T)).drew = .ok () ((w.alloc o).alloc (.cells (insV x) T)).drew := fun x y o => hv.newD (w.alloc o) _ (by simp) x y
  have hI : ∀ x, InI T X w (w.heap.size + 1) x σ f 31 ((w.alloc (.cells (insV Ins.zero) T)).alloc (.cells (insV x) T)).drew := fun x => by
    have e := ((RsI.start (T := T) h).own x).drew 1
    rw [show (w.alloc (.cells (insV Ins.zero) T)).heap.size = w.heap.size + 1 by simp] at e
    exact e
  have HI : Hid _ := hI
  clear h hv hI
  go_enter Tryz.func23, Tryz.ntmps23
  try simp only [vl, vs, va, vb, vx]
  clear vl vs va vb vx
  obtain ⟨u0, u1, u2, u3, u4, u5, u6, u7, u8, u9, u10, u11⟩ := ups12
  go_wp2
  go_region
  all_goals
    have hI := HI.out (((((((((((Ins.zero.up 0 12).up 2 σ.v).up 3 4).up 4 3).up 5 0).up 6 0).up 7 0).up 8 0).up 9 0).up 10 0).up 11 0)
    generalize ((w.alloc (.cells (insV Ins.zero) T)).alloc (.cells (insV (((((((((((Ins.zero.up 0 12).up 2 σ.v).up 3 4).up 4 3).up 5 0).up 6 0).up 7 0).up 8 0).up 9 0).up 10 0).up 11 0)) T)).drew = W at hI ⊢
    clear HI new1 c4 c9
    have hJ := hI.set 0 (.int .i64 13) _ (insUp0 _ 13)
    have gt := Hv.out.get hJ.op
    have pt := hJ.r.put Hv.out
    have Hr : Hid _ := hJ.r
    have d9 := hI.r.st.c9
    have ce : W.cell? ⟨w.heap.size + 1, 0, none⟩ = some (.int .i64 12) := by simp [World.cell?, hI.op]; rfl
    have cz : W.frozen? ⟨w.heap.size + 1, 0, none⟩ = false := by simp [World.frozen?, hI.op]
    clear hI hJ
    go_wp2
    exact bodyPost_ret (v := _) (res1 rfl _ _ w.heap.size _ rfl (Hr.out.got Hv.out _)) rfl ⟨rfl, Hr.out.fin _⟩
theorem odd_39 (w : World) (X : Cx) (σ : Sg) (f : Int × Int × Int) (h : RSt X w σ f 39) :
    Calls Tryz.prog 23 #[.pointer (some ⟨X.S, 0, none⟩)] w fun e w' => e = .returned (.agg (insV (oddI 39 σ.v))) ∧ RDn X w σ f 39 w' := by
  obtain ⟨T, nI, fsI, psI, hv, Hv, ⟨vl, vs, vb, va, vx⟩, v1, v2, v3, v4, v5, v6, p0, p1, p2, p3, p4, p5, p6, p7, sz, ne⟩ := vlP
  have hS := h.ltS
  have c4 := h.c4
  have c9 := h.c9
  have new1 : ∀ x y o, (storeCells ⟨w.heap.size + 1, 0, none⟩ (insV x).toList).run Tryz.prog ((w.alloc o).alloc (.cells (insV y) T)).drew = .ok () ((w.alloc o).alloc (.cells (insV x) T)).drew := fun x y o => hv.newD (w.alloc o) _ (by simp) x y
  have hI : ∀ x, InI T X w (w.heap.size + 1) x σ f 39 ((w.alloc (.cells (insV Ins.zero) T)).alloc (.cells (insV x) T)).drew := fun x => by
    have e := ((RsI.start (T := T) h).own x).drew 1
    rw [show (w.alloc (.cells (insV Ins.zero) T)).heap.size = w.heap.size + 1 by simp] at e
    exact e
  have HI : Hid _ := hI
  clear h hv hI
  go_enter Tryz.func23, Tryz.ntmps23
  try simp only [vl, vs, va, vb, vx]
  clear vl vs va vb vx
  obtain ⟨u0, u1, u2, u3, u4, u5, u6, u7, u8, u9, u10, u11⟩ := ups12
  go_wp2
  go_region
  all_goals
    have hI := HI.out (((((((((((Ins.zero.up 0 12).up 2 σ.v).up 3 4).up 4 4).up 5 0).up 6 0).up 7 0).up 8 0).up 9 0).up 10 0).up 11 0)
    generalize ((w.alloc (.cells (insV Ins.zero) T)).alloc (.cells (insV (((((((((((Ins.zero.up 0 12).up 2 σ.v).up 3 4).up 4 4).up 5 0).up 6 0).up 7 0).up 8 0).up 9 0).up 10 0).up 11 0)) T)).drew = W at hI ⊢
    clear HI new1 c4 c9
    have pt := hI.r.put Hv.out
    have Hr : Hid _ := hI.r
    have d9 := hI.r.st.c9
    clear hI
    go_wp2
    exact bodyPost_ret (v := _) (res1 rfl _ _ w.heap.size _ rfl (Hr.out.got Hv.out _)) rfl ⟨rfl, Hr.out.fin _⟩
theorem odd_47 (w : World) (X : Cx) (σ : Sg) (f : Int × Int × Int) (h : RSt X w σ f 47) :
    Calls Tryz.prog 23 #[.pointer (some ⟨X.S, 0, none⟩)] w fun e w' => e = .returned (.agg (insV (oddI 47 σ.v))) ∧ RDn X w σ f 47 w' := by
  obtain ⟨T, nI, fsI, psI, hv, Hv, ⟨vl, vs, vb, va, vx⟩, v1, v2, v3, v4, v5, v6, p0, p1, p2, p3, p4, p5, p6, p7, sz, ne⟩ := vlP
  have hS := h.ltS
  have c4 := h.c4
  have c9 := h.c9
  have new1 : ∀ x y o, (storeCells ⟨w.heap.size + 1, 0, none⟩ (insV x).toList).run Tryz.prog ((w.alloc o).alloc (.cells (insV y) T)).drew = .ok () ((w.alloc o).alloc (.cells (insV x) T)).drew := fun x y o => hv.newD (w.alloc o) _ (by simp) x y
  have hI : ∀ x, InI T X w (w.heap.size + 1) x σ f 47 ((w.alloc (.cells (insV Ins.zero) T)).alloc (.cells (insV x) T)).drew := fun x => by
    have e := ((RsI.start (T := T) h).own x).drew 1
    rw [show (w.alloc (.cells (insV Ins.zero) T)).heap.size = w.heap.size + 1 by simp] at e
    exact e
  have HI : Hid _ := hI
  clear h hv hI
  go_enter Tryz.func23, Tryz.ntmps23
  try simp only [vl, vs, va, vb, vx]
  clear vl vs va vb vx
  obtain ⟨u0, u1, u2, u3, u4, u5, u6, u7, u8, u9, u10, u11⟩ := ups12
  go_wp2
  go_region
  all_goals
    have hI := HI.out (((((((((((Ins.zero.up 0 12).up 2 σ.v).up 3 4).up 4 5).up 5 0).up 6 0).up 7 0).up 8 0).up 9 0).up 10 0).up 11 0)
    generalize ((w.alloc (.cells (insV Ins.zero) T)).alloc (.cells (insV (((((((((((Ins.zero.up 0 12).up 2 σ.v).up 3 4).up 4 5).up 5 0).up 6 0).up 7 0).up 8 0).up 9 0).up 10 0).up 11 0)) T)).drew = W at hI ⊢
    clear HI new1 c4 c9
    have pt := hI.r.put Hv.out
    have Hr : Hid _ := hI.r
    have d9 := hI.r.st.c9
    clear hI
    go_wp2
    exact bodyPost_ret (v := _) (res1 rfl _ _ w.heap.size _ rfl (Hr.out.got Hv.out _)) rfl ⟨rfl, Hr.out.fin _⟩
theorem odd_55 (w : World) (X : Cx) (σ : Sg) (f : Int × Int × Int) (h : RSt X w σ f 55) :
    Calls Tryz.prog 23 #[.pointer (some ⟨X.S, 0, none⟩)] w fun e w' => e = .returned (.agg (insV (oddI 55 σ.v))) ∧ RDn X w σ f 55 w' := by
  obtain ⟨T, nI, fsI, psI, hv, Hv, ⟨vl, vs, vb, va, vx⟩, v1, v2, v3, v4, v5, v6, p0, p1, p2, p3, p4, p5, p6, p7, sz, ne⟩ := vlP
  have hS := h.ltS
  have c4 := h.c4
  have c9 := h.c9
  have new1 : ∀ x y o, (storeCells ⟨w.heap.size + 1, 0, none⟩ (insV x).toList).run Tryz.prog ((w.alloc o).alloc (.cells (insV y) T)).drew = .ok () ((w.alloc o).alloc (.cells (insV x) T)).drew := fun x y o => hv.newD (w.alloc o) _ (by simp) x y
  have hI : ∀ x, InI T X w (w.heap.size + 1) x σ f 55 ((w.alloc (.cells (insV Ins.zero) T)).alloc (.cells (insV x) T)).drew := fun x => by
    have e := ((RsI.start (T := T) h).own x).drew 1
    rw [show (w.alloc (.cells (insV Ins.zero) T)).heap.size = w.heap.size + 1 by simp] at e
    exact e
  have HI : Hid _ := hI
  clear h hv hI
  go_enter Tryz.func23, Tryz.ntmps23
  try simp only [vl, vs, va, vb, vx]
  clear vl vs va vb vx
  obtain ⟨u0, u1, u2, u3, u4, u5, u6, u7, u8, u9, u10, u11⟩ := ups12
  go_wp2
  go_region
  all_goals
    have hI := HI.out (((((((((((Ins.zero.up 0 12).up 2 σ.v).up 3 4).up 4 6).up 5 0).up 6 0).up 7 0).up 8 0).up 9 0).up 10 0).up 11 0)
    generalize ((w.alloc (.cells (insV Ins.zero) T)).alloc (.cells (insV (((((((((((Ins.zero.up 0 12).up 2 σ.v).up 3 4).up 4 6).up 5 0).up 6 0).up 7 0).up 8 0).up 9 0).up 10 0).up 11 0)) T)).drew = W at hI ⊢
    clear HI new1 c4 c9
    have pt := hI.r.put Hv.out
    have Hr : Hid _ := hI.r
    have d9 := hI.r.st.c9
    clear hI
    go_wp2
    exact bodyPost_ret (v := _) (res1 rfl _ _ w.heap.size _ rfl (Hr.out.got Hv.out _)) rfl ⟨rfl, Hr.out.fin _⟩
theorem odd_63 (w : World) (X : Cx) (σ : Sg) (f : Int × Int × Int) (h : RSt X w σ f 63) :
    Calls Tryz.prog 23 #[.pointer (some ⟨X.S, 0, none⟩)] w fun e w' => e = .returned (.agg (insV (oddI 63 σ.v))) ∧ RDn X w σ f 63 w' := by
  obtain ⟨T, nI, fsI, psI, hv, Hv, ⟨vl, vs, vb, va, vx⟩, v1, v2, v3, v4, v5, v6, p0, p1, p2, p3, p4, p5, p6, p7, sz, ne⟩ := vlP
  have hS := h.ltS
  have c4 := h.c4
  have c9 := h.c9
  have new1 : ∀ x y o, (storeCells ⟨w.heap.size + 1, 0, none⟩ (insV x).toList).run Tryz.prog ((w.alloc o).alloc (.cells (insV y) T)).drew = .ok () ((w.alloc o).alloc (.cells (insV x) T)).drew := fun x y o => hv.newD (w.alloc o) _ (by simp) x y
  have hI : ∀ x, InI T X w (w.heap.size + 1) x σ f 63 ((w.alloc (.cells (insV Ins.zero) T)).alloc (.cells (insV x) T)).drew := fun x => by
    have e := ((RsI.start (T := T) h).own x).drew 1
    rw [show (w.alloc (.cells (insV Ins.zero) T)).heap.size = w.heap.size + 1 by simp] at e
    exact e
  have HI : Hid _ := hI
  clear h hv hI
  go_enter Tryz.func23, Tryz.ntmps23
  try simp only [vl, vs, va, vb, vx]
  clear vl vs va vb vx
  obtain ⟨u0, u1, u2, u3, u4, u5, u6, u7, u8, u9, u10, u11⟩ := ups12
  go_wp2
  go_region
  all_goals
    have hI := HI.out (((((((((((Ins.zero.up 0 12).up 2 σ.v).up 3 4).up 4 7).up 5 0).up 6 0).up 7 0).up 8 0).up 9 0).up 10 0).up 11 0)
    generalize ((w.alloc (.cells (insV Ins.zero) T)).alloc (.cells (insV (((((((((((Ins.zero.up 0 12).up 2 σ.v).up 3 4).up 4 7).up 5 0).up 6 0).up 7 0).up 8 0).up 9 0).up 10 0).up 11 0)) T)).drew = W at hI ⊢
    clear HI new1 c4 c9
    have pt := hI.r.put Hv.out
    have Hr : Hid _ := hI.r
    have d9 := hI.r.st.c9
    clear hI
    go_wp2
    exact bodyPost_ret (v := _) (res1 rfl _ _ w.heap.size _ rfl (Hr.out.got Hv.out _)) rfl ⟨rfl, Hr.out.fin _⟩
end Go.Proofs.YtbfccfhjgopnbaaGreat
