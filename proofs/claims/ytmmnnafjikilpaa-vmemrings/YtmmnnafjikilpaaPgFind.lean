/- page.Find: a walk through two tables, whole. -/
import Derived.Test.YtmmnnafjikilpaaPgMark
namespace Go.Proofs.Ytmmnnafjikilpaa
open Go.ChangeShapes Go.WideShapes Go.ChangeAt Go.RowKit Go.Maps
set_option linter.unusedVariables false

def wayV (wr us wp : Bool) : Value := .agg #[.bool wr, .bool us, .bool wp]

def RowB (W : World) (X : Nat) (a b c : Bool) : Prop := W.heap[X]? = some (.cells #[.bool a, .bool b, .bool c] 117 (0, 0))
theorem RowB.c0 {W : World} {X : Nat} {a b c : Bool} (h : RowB W X a b c) : W.cell? ⟨X, 0, none⟩ = some (.bool a) := by rw [cell_at h]; rfl
theorem RowB.c1 {W : World} {X : Nat} {a b c : Bool} (h : RowB W X a b c) : W.cell? ⟨X, 1, none⟩ = some (.bool b) := by rw [cell_at h]; rfl
theorem RowB.c2 {W : World} {X : Nat} {a b c : Bool} (h : RowB W X a b c) : W.cell? ⟨X, 2, none⟩ = some (.bool c) := by rw [cell_at h]; rfl
theorem RowB.lt {W : World} {X : Nat} {a b c : Bool} (h : RowB W X a b c) : X < W.heap.size := (Array.getElem?_eq_some_iff.1 h).1
theorem RowB.kp {S : Nat → Prop} {W W' : World} {X : Nat} {a b c : Bool} (h : RowB W X a b c) (k : Kp S W W') (hS : ¬ S X) : RowB W' X a b c := (k.block X h.lt hS).trans h

def RowK (W : World) (X : Nat) (f p q : Int) (a b : Bool) : Prop := W.heap[X]? = some (.cells #[.int .u32 f, .int .u32 p, .int .u32 q, .bool a, .bool b] 142 (0, 0))
theorem RowK.c0 {W : World} {X : Nat} {f p q : Int} {a b : Bool} (h : RowK W X f p q a b) : W.cell? ⟨X, 0, none⟩ = some (.int .u32 f) := by rw [cell_at h]; rfl
theorem RowK.c1 {W : World} {X : Nat} {f p q : Int} {a b : Bool} (h : RowK W X f p q a b) : W.cell? ⟨X, 1, none⟩ = some (.int .u32 p) := by rw [cell_at h]; rfl
theorem RowK.c2 {W : World} {X : Nat} {f p q : Int} {a b : Bool} (h : RowK W X f p q a b) : W.cell? ⟨X, 2, none⟩ = some (.int .u32 q) := by rw [cell_at h]; rfl
theorem RowK.c3 {W : World} {X : Nat} {f p q : Int} {a b : Bool} (h : RowK W X f p q a b) : W.cell? ⟨X, 3, none⟩ = some (.bool a) := by rw [cell_at h]; rfl
theorem RowK.c4 {W : World} {X : Nat} {f p q : Int} {a b : Bool} (h : RowK W X f p q a b) : W.cell? ⟨X, 4, none⟩ = some (.bool b) := by rw [cell_at h]; rfl
theorem RowK.fz {W : World} {X : Nat} {f p q : Int} {a b : Bool} (h : RowK W X f p q a b) (j : Nat) : W.frozen? ⟨X, j, none⟩ = false := frozen_at h
theorem RowK.lt {W : World} {X : Nat} {f p q : Int} {a b : Bool} (h : RowK W X f p q a b) : X < W.heap.size := (Array.getElem?_eq_some_iff.1 h).1
theorem RowK.kp {S : Nat → Prop} {W W' : World} {X : Nat} {f p q : Int} {a b : Bool} (h : RowK W X f p q a b) (k : Kp S W W') (hS : ¬ S X) : RowK W' X f p q a b := (k.block X h.lt hS).trans h
theorem RowK.s0 {W : World} {X : Nat} {f p q : Int} {a b : Bool} (h : RowK W X f p q a b) (v : Int) : RowK (W.setCell ⟨X, 0, none⟩ (.int .u32 v)) X v p q a b := heap_setCell_at h _
theorem RowK.s1 {W : World} {X : Nat} {f p q : Int} {a b : Bool} (h : RowK W X f p q a b) (v : Int) : RowK (W.setCell ⟨X, 1, none⟩ (.int .u32 v)) X f v q a b := heap_setCell_at h _
theorem RowK.s2 {W : World} {X : Nat} {f p q : Int} {a b : Bool} (h : RowK W X f p q a b) (v : Int) : RowK (W.setCell ⟨X, 2, none⟩ (.int .u32 v)) X f p v a b := heap_setCell_at h _
theorem RowK.s3 {W : World} {X : Nat} {f p q : Int} {a b : Bool} (h : RowK W X f p q a b) (v : Bool) : RowK (W.setCell ⟨X, 3, none⟩ (.bool v)) X f p q v b := heap_setCell_at h _
theorem RowK.s4 {W : World} {X : Nat} {f p q : Int} {a b : Bool} (h : RowK W X f p q a b) (v : Bool) : RowK (W.setCell ⟨X, 4, none⟩ (.bool v)) X f p q a v := heap_setCell_at h _

theorem Kp.own' {S : Nat → Prop} {w W : World} (h : Kp S w W) {b i : Nat} (hb : w.heap.size ≤ b) (v : Value) : Kp S w (W.setCell ⟨b, i, none⟩ v) :=
  h.over (Kp.setCell (S := fun j => j = b) W (p := ⟨b, i, none⟩) rfl v) (fun j hj e => by omega)
theorem Kp.five {S : Nat → Prop} {w W : World} (h : Kp S w W) {b : Nat} (hb : w.heap.size ≤ b) (v0 v1 v2 v3 v4 : Value) : Kp S w (((((W.setCell ⟨b, 0, none⟩ v0).setCell ⟨b, 1, none⟩ v1).setCell ⟨b, 2, none⟩ v2).setCell ⟨b, 3, none⟩ v3).setCell ⟨b, 4, none⟩ v4) :=
  ((((h.own' hb _).own' hb _).own' hb _).own' hb _).own' hb _

theorem Kp.five_in (W : World) (b : Nat) (v0 v1 v2 v3 v4 : Value) : Kp (fun j => j = b) W (((((W.setCell ⟨b, 0, none⟩ v0).setCell ⟨b, 1, none⟩ v1).setCell ⟨b, 2, none⟩ v2).setCell ⟨b, 3, none⟩ v3).setCell ⟨b, 4, none⟩ v4) :=
  ((((Kp.setCell (S := fun j => j = b) W (p := ⟨b, 0, none⟩) rfl v0).trans (Kp.setCell (S := fun j => j = b) _ (p := ⟨b, 1, none⟩) rfl v1)).trans (Kp.setCell (S := fun j => j = b) _ (p := ⟨b, 2, none⟩) rfl v2)).trans (Kp.setCell (S := fun j => j = b) _ (p := ⟨b, 3, none⟩) rfl v3)).trans (Kp.setCell (S := fun j => j = b) _ (p := ⟨b, 4, none⟩) rfl v4)

theorem find_nil (w : World) (c l : Int) (wr us wp : Bool) :
    Calls Try.prog 74 #[.pointer none, .int .u32 c, .int .u32 l, wayV wr us wp] w fun e w' => e = .returned (.tuple #[walkV 0 0 0 false false, .int .i64 0, .int .i64 1]) ∧ Kp noB w w' := by
  unfold wayV walkV
  go_enter Try.func74, Try.ntmps74
  go_wp2
  refine bodyPost_ret (v := .tuple #[.agg #[.int .u32 0, .int .u32 0, .int .u32 0, .bool false, .bool false], .int .i64 0, .int .i64 1]) ?_ rfl ⟨rfl, ?_⟩
  · simp [results, Try.results74, go_sem]
  · exact (Kp.alloc _ _ _).trans (Kp.alloc _ _ _)

def FdPost (w : World) (B : Nat) (M : Mem) (c l : Int) (wr us wp : Bool) (e : Ending) (w' : World) : Prop :=
  e = .returned (.tuple #[fWalk M c l wr us wp, .int .i64 (fCode M c l wr us wp), .int .i64 0]) ∧ RamAt w' B (fMem M c l wr us wp) ∧ Kp (inRam B M.n) w w'

theorem codeW_bd (wr us : Bool) : 0 ≤ codeW wr us ∧ codeW wr us ≤ 6 := by cases wr <;> cases us <;> decide

set_option maxRecDepth 100000 in
set_option maxHeartbeats 4000000 in
theorem find_ok (w : World) (B : Nat) (M : Mem) (h : RamAt w B M) (c l : Int) (wr us wp : Bool) (c0 : 0 ≤ c) (c1 : c < 4294967296) (l0 : 0 ≤ l) (l1 : l < 4294967296) :
    Calls Try.prog 74 #[.pointer (some ⟨B + 3, 0, none⟩), .int .u32 c, .int .u32 l, wayV wr us wp] w (FdPost w B M c l wr us wp) := by
  have hr := h.rdB
  obtain ⟨o0, o1⟩ := fOne_bd hr c l
  obtain ⟨t0, t1⟩ := fTwo_bd hr c l
  obtain ⟨p0, p1⟩ := pdeA_bd c0 c1 l0 l1
  obtain ⟨q0, q1⟩ := fPte_bd hr c l l0 l1
  have hlt := h.lt
  have HF : Hid (∀ W, RamAt W B M → Calls Try.prog 76 #[.pointer (some ⟨B + 3, 0, none⟩), .int .u32 c, .int .u32 l] W (FolPost W M c l)) := fun W hW => follow_any W B M hW c l c0 c1 l0 l1
  have HAs : Hid (∀ W, Calls Try.prog 77 #[wayV wr us wp] W fun e w' => e = .returned (.int .i64 (codeW wr us)) ∧ Kp noB W w') := fun W => pgAsked_any W wr us wp
  have HWk : Hid (∀ W, Calls Try.prog 78 #[wordsV (pdeA c l) (fPte M c l) (fOne M c l) (fTwo M c l)] W fun e w' => e = .returned (walkV (fFr M c l) (pdeA c l) (fPte M c l) (fW M c l) (fU M c l)) ∧ Kp noB W w') := fun W => pgWalk_any W _ _ _ _ o0 o1 t0 t1
  have HLt : Hid (∀ W, Calls Try.prog 79 #[walkV (fFr M c l) (pdeA c l) (fPte M c l) (fW M c l) (fU M c l), wayV wr us wp] W fun e w' => e = .returned (.bool (letsB (fW M c l) (fU M c l) wr us wp)) ∧ Kp noB W w') := fun W => pgLets_any W _ _ _ _ _ wr us wp
  have HMk : Hid (∀ W, RamAt W B M → Calls Try.prog 80 #[wordsV (pdeA c l) (fPte M c l) (fOne M c l) (fTwo M c l), .pointer (some ⟨B + 3, 0, none⟩), .bool wr] W fun e w' => e = .returned (.tuple #[]) ∧ RamAt w' B (markM (markM M (pdeA c l) false) (fPte M c l) wr) ∧ Kp (inRam B M.n) W w') := fun W hW => mark_any W B M hW _ _ _ _ wr p0 p1 q0 q1
  have hn2 : Hid ((markM (markM M (pdeA c l) false) (fPte M c l) wr).n = M.n) := (mark_same _ _ _).1.trans (mark_same _ _ _).1
  unfold FdPost fWalk fCode fMem fOk
  unfold FolPost at HF
  obtain ⟨lt, hle⟩ : ∃ b, b = letsB (fW M c l) (fU M c l) wr us wp := ⟨_, rfl⟩
  obtain ⟨hh, hhe⟩ : ∃ b, b = fHere M c l := ⟨_, rfl⟩
  rw [← hle] at HLt
  rw [← hle, ← hhe]
  rw [← hhe] at HF
  clear hle hhe hr o0 o1 t0 t1
  generalize markM (markM M (pdeA c l) false) (fPte M c l) wr = M2 at *
  generalize fFr M c l = fr at *
  generalize fW M c l = bw at *
  generalize fU M c l = bu at *
  generalize fOne M c l = o at *
  generalize fTwo M c l = t at *
  generalize fPte M c l = q at *
  generalize pdeA c l = p at *
  obtain ⟨cw0, cw1⟩ := codeW_bd wr us
  generalize codeW wr us = cw at *
  unfold wayV wordsV walkV at *
  obtain ⟨X, hX⟩ : ∃ X, w.heap.size = X := ⟨_, rfl⟩
  have HX : Hid (w.heap.size = X) := hX
  have k0 : Kp noB w ((w.alloc (.cells #[.bool wr, .bool us, .bool wp] 117)).alloc (.cells #[.int .u32 0, .int .u32 0, .int .u32 0, .bool false, .bool false] 142)) := (Kp.alloc _ _ _).trans (Kp.alloc _ _ _)
  have rB : RowB ((w.alloc (.cells #[.bool wr, .bool us, .bool wp] 117)).alloc (.cells #[.int .u32 0, .int .u32 0, .int .u32 0, .bool false, .bool false] 142)) X wr us wp := by
    have e0 := (MapKept.heap_alloc w (.cells #[.bool wr, .bool us, .bool wp] 117)).1
    rw [hX] at e0
    exact (Below.heap_alloc _ _ _ (by simp; omega)).trans e0
  have rK : RowK ((w.alloc (.cells #[.bool wr, .bool us, .bool wp] 117)).alloc (.cells #[.int .u32 0, .int .u32 0, .int .u32 0, .bool false, .bool false] 142)) (X + 1) 0 0 0 false false := by
    have e0 := (MapKept.heap_alloc (w.alloc (.cells #[.bool wr, .bool us, .bool wp] 117)) (.cells #[.int .u32 0, .int .u32 0, .int .u32 0, .bool false, .bool false] 142)).1
    have e1 : (w.alloc (.cells #[.bool wr, .bool us, .bool wp] 117)).heap.size = X + 1 := by simp [hX]
    rw [e1] at e0
    exact e0
  have h0 : RamAt ((w.alloc (.cells #[.bool wr, .bool us, .bool wp] 117)).alloc (.cells #[.int .u32 0, .int .u32 0, .int .u32 0, .bool false, .bool false] 142)) B M := (h.alloc _).alloc _
  have nX : Hid (∀ j, X ≤ j → ¬ inRam B M.n j) := fun j hj f => by have := f.2; omega
  clear hX hlt h
  cases hh
  · go_enter Try.func74, Try.ntmps74
    go_wp2_with fail
    refine (HF.out _ h0).mono ?_; rintro e w1 ⟨rfl, k1⟩
    replace rB := rB.kp k1 (fun f => f)
    replace rK := rK.kp k1 (fun f => f)
    replace h0 := h0.kp k1 (fun _ _ f => f)
    replace k0 := k0.trans k1
    clear k1
    rw [HX.out]
    have ra := fun O => rB.kp (Kp.alloc noB w1 O) (fun f => f)
    have b0 := fun O => (ra O).c0
    have b1 := fun O => (ra O).c1
    have b2 := fun O => (ra O).c2
    clear ra
    go_wp2_with fail
    refine (HAs.out _).mono ?_; rintro e w2 ⟨rfl, k2⟩
    replace k2 := (Kp.alloc noB w1 _).trans k2
    replace rK := rK.kp k2 (fun f => f)
    replace h0 := h0.kp k2 (fun _ _ f => f)
    replace k0 := k0.trans k2
    clear k2 b0 b1 b2 rB
    have d0 := rK.c0; have d1 := rK.c1; have d2 := rK.c2; have d3 := rK.c3; have d4 := rK.c4
    have f0 := rK.fz 0; have f1 := rK.fz 1; have f2 := rK.fz 2; have f3 := rK.fz 3; have f4 := rK.fz 4
    go_wp2
    have z0 := rK.s0 0
    have z1 := z0.s1 0
    have z2 := z1.s2 0
    have z3 := z2.s3 false
    have z4 := z3.s4 false
    refine bodyPost_ret (v := .tuple #[.agg #[.int .u32 0, .int .u32 0, .int .u32 0, .bool false, .bool false], .int .i64 cw, .int .i64 0]) ?_ rfl ⟨rfl, ?_, ?_⟩
    · simp [results, Try.results74, go_sem, z0.c0, z1.c1, z2.c2, z3.c3, z4.c4]
    · exact h0.kp (Kp.five_in _ (X + 1) _ _ _ _ _) (fun j hj e => nX.out j (by omega) hj)
    · exact kp_no (k0.five (by have := HX.out; omega) _ _ _ _ _)
  · go_enter Try.func74, Try.ntmps74
    go_wp2_with fail
    refine (HF.out _ h0).mono ?_; rintro e w1 ⟨rfl, k1⟩
    replace rB := rB.kp k1 (fun f => f)
    replace rK := rK.kp k1 (fun f => f)
    replace h0 := h0.kp k1 (fun _ _ f => f)
    replace k0 := k0.trans k1
    clear k1
    rw [HX.out]
    go_wp2_with fail
    refine (HWk.out _).mono ?_; rintro e w2 ⟨rfl, k2⟩
    have hY : w.heap.size ≤ w1.heap.size := k0.size
    have r4 : Row4 (w1.alloc (.cells #[.int .u32 p, .int .u32 q, .int .u32 o, .int .u32 t] 156)) w1.heap.size p q o t := (MapKept.heap_alloc w1 _).1
    replace r4 := r4.kp k2 (fun f => f)
    obtain ⟨Y, hYe⟩ : ∃ Y, Y = w1.heap.size := ⟨_, rfl⟩
    rw [← hYe] at r4 hY ⊢
    have nY : ¬ inRam B M.n Y := nX.out Y (by have := HX.out; omega)
    replace k2 := (Kp.alloc noB w1 _).trans k2
    replace rB := rB.kp k2 (fun f => f)
    replace rK := rK.kp k2 (fun f => f)
    replace h0 := h0.kp k2 (fun _ _ f => f)
    replace k0 := k0.trans k2
    clear k2 hYe hY
    have ra := fun O => rB.kp (Kp.alloc noB w2 O) (fun f => f)
    have b0 := fun O => (ra O).c0
    have b1 := fun O => (ra O).c1
    have b2 := fun O => (ra O).c2
    clear ra
    go_wp2_with fail
    refine (HLt.out _).mono ?_; rintro e w3 ⟨rfl, k3⟩
    have rZ : RowK (w2.alloc (.cells #[.int .u32 fr, .int .u32 p, .int .u32 q, .bool bw, .bool bu] 142)) w2.heap.size fr p q bw bu := (MapKept.heap_alloc w2 _).1
    replace rZ := rZ.kp k3 (fun f => f)
    have hZ : w.heap.size ≤ w2.heap.size := k0.size
    have hZX : X + 1 < w2.heap.size := rK.lt
    obtain ⟨Z, hZe⟩ : ∃ Z, Z = w2.heap.size := ⟨_, rfl⟩
    rw [← hZe] at rZ hZ hZX ⊢
    have nZ : ¬ inRam B M.n Z := nX.out Z (by have := HX.out; omega)
    replace k3 := (Kp.alloc noB w2 _).trans k3
    replace r4 := r4.kp k3 (fun f => f)
    replace rB := rB.kp k3 (fun f => f)
    replace rK := rK.kp k3 (fun f => f)
    replace h0 := h0.kp k3 (fun _ _ f => f)
    replace k0 := k0.trans k3
    clear k3 b0 b1 b2 hZe hZ
    have b0 := rB.c0; have b1 := rB.c1; have b2 := rB.c2
    cases lt
    · go_wp2_with fail
      refine (HAs.out _).mono ?_; rintro e w4 ⟨rfl, k4⟩
      replace rK := rK.kp k4 (fun f => f)
      replace h0 := h0.kp k4 (fun _ _ f => f)
      replace k0 := k0.trans k4
      clear k4 b0 b1 b2 rB r4 rZ
      have d0 := rK.c0; have d1 := rK.c1; have d2 := rK.c2; have d3 := rK.c3; have d4 := rK.c4
      have f0 := rK.fz 0; have f1 := rK.fz 1; have f2 := rK.fz 2; have f3 := rK.fz 3; have f4 := rK.fz 4
      go_wp2
      have z0 := rK.s0 0
      have z1 := z0.s1 0
      have z2 := z1.s2 0
      have z3 := z2.s3 false
      have z4 := z3.s4 false
      refine bodyPost_ret (v := .tuple #[.agg #[.int .u32 0, .int .u32 0, .int .u32 0, .bool false, .bool false], .int .i64 (1 + cw), .int .i64 0]) ?_ rfl ⟨rfl, ?_, ?_⟩
      · simp [results, Try.results74, go_sem, z0.c0, z1.c1, z2.c2, z3.c3, z4.c4]
      · exact h0.kp (Kp.five_in _ (X + 1) _ _ _ _ _) (fun j hj e => nX.out j (by omega) hj)
      · exact kp_no (k0.five (by have := HX.out; omega) _ _ _ _ _)
    · have a0 := r4.c0; have a1 := r4.c1; have a2 := r4.c2; have a3 := r4.c3
      go_wp2_with fail
      refine (HMk.out _ h0).mono ?_; rintro e w4 ⟨rfl, h4, k4⟩
      replace rK := rK.kp k4 (nX.out _ (by omega))
      replace rZ := rZ.kp k4 nZ
      replace k0 := (kp_no (S := inRam B M.n) k0).trans k4
      clear k4 b0 b1 b2 rB r4 h0 a0 a1 a2 a3
      have d0 := rK.c0; have d1 := rK.c1; have d2 := rK.c2; have d3 := rK.c3; have d4 := rK.c4
      have f0 := rK.fz 0; have f1 := rK.fz 1; have f2 := rK.fz 2; have f3 := rK.fz 3; have f4 := rK.fz 4
      have g0 := rZ.c0; have g1 := rZ.c1; have g2 := rZ.c2; have g3 := rZ.c3; have g4 := rZ.c4
      go_wp2
      have z0 := rK.s0 fr
      have z1 := z0.s1 p
      have z2 := z1.s2 q
      have z3 := z2.s3 bw
      have z4 := z3.s4 bu
      refine bodyPost_ret (v := .tuple #[.agg #[.int .u32 fr, .int .u32 p, .int .u32 q, .bool bw, .bool bu], .int .i64 (-1), .int .i64 0]) ?_ rfl ⟨rfl, ?_, ?_⟩
      · simp [results, Try.results74, go_sem, z0.c0, z1.c1, z2.c2, z3.c3, z4.c4]
      · exact h4.kp (Kp.five_in _ (X + 1) _ _ _ _ _) (fun j hj e => nX.out j (by omega) (by rw [hn2.out] at hj; exact hj))
      · exact k0.five (by have := HX.out; omega) _ _ _ _ _
end Go.Proofs.Ytmmnnafjikilpaa
