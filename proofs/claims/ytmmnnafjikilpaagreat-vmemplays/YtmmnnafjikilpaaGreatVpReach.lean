/- The document's reach: the places of a segment's bytes. -/
import Derived.Test.YtmmnnafjikilpaaGreatVpVal
import Derived.Test.YtmmnnafjikilpaaGreatVh
import Derived.Test.YtmmnnafjikilpaaGreatVo
namespace Go.Proofs.YtmmnnafjikilpaaGreat
open Go.ChangeShapes Go.WideShapes Go.ChangeAt Go.RowKit Go.Maps
set_option linter.unusedVariables false
set_option maxRecDepth 20000

/-- A call of the document's begins: the processor lies in a block, a fault in the next one. -/
theorem vst {T : TypeId} {n : Nat} {Z : Array Value} (h : VlP T n Z) (w : World) {cs : Array Value} (wf : WfC cs) {X : Nat} (hX : w.heap.size = X) :
    PAt ((w.alloc (.cells cs T)).alloc (.cells #[.int .i64 0, .int .i64 0, .int .u32 0] 54)) X cs ∧ RowT ((w.alloc (.cells cs T)).alloc (.cells #[.int .i64 0, .int .i64 0, .int .u32 0] 54)) (X + 1) ⟨0, 0, 0⟩ ∧ Kp noB w ((w.alloc (.cells cs T)).alloc (.cells #[.int .i64 0, .int .i64 0, .int .u32 0] 54)) ∧ ((w.alloc (.cells cs T)).alloc (.cells #[.int .i64 0, .int .i64 0, .int .u32 0] 54)).heap.size = X + 2 := by
  have kA := Kp.alloc noB w (.cells cs T)
  have kB := Kp.alloc noB (w.alloc (.cells cs T)) (.cells #[.int .i64 0, .int .i64 0, .int .u32 0] 54)
  refine ⟨?_, ?_, kA.trans kB, by simp [hX]⟩
  · rw [← hX]; exact (h.at wf w).kp kB (fun f => f)
  · have := (MapKept.heap_alloc (w.alloc (.cells cs T)) (.cells #[.int .i64 0, .int .i64 0, .int .u32 0] 54)).1
    rw [show (w.alloc (.cells cs T)).heap.size = X + 1 by simp [hX]] at this
    exact this

/-- Nothing is told but a fault. -/
def NilP (w : World) (R : Rf) (M : Mem) (f : Ft) (e : Ending) (w' : World) : Prop := e = .returned (.tuple #[.slice none 0 0, f.val]) ∧ RefAt w' R M ∧ Kp R.has w w'

def rch (X j : Nat) : Prop := X ≤ j
theorem rch_own {w w' : World} {R : Nat → Prop} {X : Nat} (k : Kp (rch X) w w') (hX : w.heap.size = X) : Kp R w w' := ⟨k.os, k.tape, k.output, k.size, fun j hj hs => k.block j hj (fun f => by unfold rch at f; omega)⟩
theorem kp_rch {w w' : World} {X : Nat} (k : Kp noB w w') : Kp (rch X) w w' := k.mono (fun _ _ f => f.elim)
theorem kp_rch1 {w w' : World} {X Y : Nat} (k : Kp (fun j => j = Y) w w') (h : X ≤ Y) : Kp (rch X) w w' := k.mono (fun j _ f => by subst f; exact h)

set_option maxHeartbeats 2000000 in
theorem reach_bad (w : World) (R : Rf) (M : Mem) (h : RefAt w R M) (cs : Array Value) (wf : WfC cs) (c : Cp) (hc : CpC cs c) (ok : c.Ok) (k off z : Int) (wr : Bool) (hk : okS z = false ∨ k < 0 ∨ 6 ≤ k) :
    Calls Tryz.prog 43 #[.pointer (some ⟨R.r, 0, none⟩), .agg cs, .int .i64 k, .int .u32 off, .int .i64 z, .bool wr] w (NilP w R M (ftV 13)) := by
  unfold NilP ftV Ft.val
  obtain ⟨T, nn, Z, hV⟩ := vlP
  obtain ⟨vl, vs, va, vb⟩ := hV.ops
  have g1 := hV.agg; have g2 := hV.size; have g3 := hV.zero
  obtain ⟨X, hX⟩ : ∃ X, w.heap.size = X := ⟨_, rfl⟩
  obtain ⟨pA, rT, k0, hs0⟩ := vst hV w wf hX
  obtain ⟨W0, hW0⟩ : ∃ W, W = (w.alloc (.cells cs T)).alloc (.cells #[.int .i64 0, .int .i64 0, .int .u32 0] 54) := ⟨_, rfl⟩
  rw [← hW0] at pA rT k0 hs0
  have hst := hV.new wf w
  have hsz : cs.size = nn := by rw [wf.s, hV.s]
  have HXR : Hid (∀ k, R.has k → k < X) := fun k hk => by rw [← hX]; exact h.lt hk
  have HXw : Hid (w.heap.size = X) := hX
  have HR0 : Hid (RefAt w R M) := h
  cases hz : okS z
  · skip
    have cS := vSized W0 z
    rw [hz] at cS
    clear hz hk pA
    clear hV wf h hs0
    go_enter Tryz.func43, Tryz.ntmps43
    simp only [vl, vs, va, vb] at *
    go_upto_region 1 with fail
    rw [← hW0]
    clear hW0 hst hsz hX
    go_wp2_with (first | (go_at_call 49; refine cS.mono ?_; rintro e w' ⟨rfl, hw⟩; replace hw := hw.symm; subst hw) | (go_at_call 50; refine (vFaults _ _ _).mono ?_; rintro e w2 ⟨rfl, k2⟩; have r2 := rT.kp k2 (fun f => f); obtain ⟨c0, c1, c2⟩ : _ ∧ _ ∧ _ := ⟨r2.c0, r2.c1, r2.c2⟩; obtain ⟨f0, f1, f2⟩ : _ ∧ _ ∧ _ := ⟨r2.fz 0, r2.fz 1, r2.fz 2⟩; have r5 := r2.set ⟨13, 0, 0⟩; have k5 := kp_setFt w2 (X + 1) ⟨13, 0, 0⟩; obtain ⟨d0, d1, d2⟩ : _ ∧ _ ∧ _ := ⟨r5.c0, r5.c1, r5.c2⟩; unfold setFt at *))
    refine bodyPost_ret (v := .tuple #[.slice none 0 0, .agg #[.int .i64 13, .int .i64 0, .int .u32 0]]) (by simp [results, Tryz.results43, go_sem, d0, d1, d2]) rfl ⟨rfl, HR0.out.kp ((kp_rch k0).trans ((kp_rch k2).trans (kp_rch1 k5 (Nat.le_succ X)))) (fun j hj f => by have := HXR.out j hj; unfold rch at f; omega), rch_own ((kp_rch k0).trans ((kp_rch k2).trans (kp_rch1 k5 (Nat.le_succ X)))) HXw.out⟩
  · rw [hz] at hk
    by_cases h0 : k < 0
    · skip
      have cS := vSized W0 z
      rw [hz] at cS
      have hd : decide (k < 0) = true := decide_eq_true h0
      clear hz hk pA
      clear hV wf h hs0
      go_enter Tryz.func43, Tryz.ntmps43
      simp only [vl, vs, va, vb] at *
      go_upto_region 1 with fail
      rw [← hW0]
      clear hW0 hst hsz hX
      go_wp2_with (first | (go_at_call 49; refine cS.mono ?_; rintro e w' ⟨rfl, hw⟩; replace hw := hw.symm; subst hw) | (go_at_call 50; refine (vFaults _ _ _).mono ?_; rintro e w2 ⟨rfl, k2⟩; have r2 := rT.kp k2 (fun f => f); obtain ⟨c0, c1, c2⟩ : _ ∧ _ ∧ _ := ⟨r2.c0, r2.c1, r2.c2⟩; obtain ⟨f0, f1, f2⟩ : _ ∧ _ ∧ _ := ⟨r2.fz 0, r2.fz 1, r2.fz 2⟩; have r5 := r2.set ⟨13, 0, 0⟩; have k5 := kp_setFt w2 (X + 1) ⟨13, 0, 0⟩; obtain ⟨d0, d1, d2⟩ : _ ∧ _ ∧ _ := ⟨r5.c0, r5.c1, r5.c2⟩; unfold setFt at *))
      refine bodyPost_ret (v := .tuple #[.slice none 0 0, .agg #[.int .i64 13, .int .i64 0, .int .u32 0]]) (by simp [results, Tryz.results43, go_sem, d0, d1, d2]) rfl ⟨rfl, HR0.out.kp ((kp_rch k0).trans ((kp_rch k2).trans (kp_rch1 k5 (Nat.le_succ X)))) (fun j hj f => by have := HXR.out j hj; unfold rch at f; omega), rch_own ((kp_rch k0).trans ((kp_rch k2).trans (kp_rch1 k5 (Nat.le_succ X)))) HXw.out⟩
    · skip
      have cS := vSized W0 z
      rw [hz] at cS
      have h6 : 5 < k := by rcases hk with f | f | f <;> first | cases f | omega
      have hd : decide (k < 0) = false := decide_eq_false h0
      have hd6 : decide (5 < k) = true := decide_eq_true h6
      clear hz hk pA
      clear hV wf h hs0
      go_enter Tryz.func43, Tryz.ntmps43
      simp only [vl, vs, va, vb] at *
      go_upto_region 1 with fail
      rw [← hW0]
      clear hW0 hst hsz hX
      go_wp2_with (first | (go_at_call 49; refine cS.mono ?_; rintro e w' ⟨rfl, hw⟩; replace hw := hw.symm; subst hw) | (go_at_call 50; refine (vFaults _ _ _).mono ?_; rintro e w2 ⟨rfl, k2⟩; have r2 := rT.kp k2 (fun f => f); obtain ⟨c0, c1, c2⟩ : _ ∧ _ ∧ _ := ⟨r2.c0, r2.c1, r2.c2⟩; obtain ⟨f0, f1, f2⟩ : _ ∧ _ ∧ _ := ⟨r2.fz 0, r2.fz 1, r2.fz 2⟩; have r5 := r2.set ⟨13, 0, 0⟩; have k5 := kp_setFt w2 (X + 1) ⟨13, 0, 0⟩; obtain ⟨d0, d1, d2⟩ : _ ∧ _ ∧ _ := ⟨r5.c0, r5.c1, r5.c2⟩; unfold setFt at *))
      refine bodyPost_ret (v := .tuple #[.slice none 0 0, .agg #[.int .i64 13, .int .i64 0, .int .u32 0]]) (by simp [results, Tryz.results43, go_sem, d0, d1, d2]) rfl ⟨rfl, HR0.out.kp ((kp_rch k0).trans ((kp_rch k2).trans (kp_rch1 k5 (Nat.le_succ X)))) (fun j hj f => by have := HXR.out j hj; unfold rch at f; omega), rch_own ((kp_rch k0).trans ((kp_rch k2).trans (kp_rch1 k5 (Nat.le_succ X)))) HXw.out⟩

set_option maxHeartbeats 4000000 in
theorem reach_lets (w : World) (R : Rf) (M : Mem) (h : RefAt w R M) (cs : Array Value) (wf : WfC cs) (c : Cp) (hc : CpC cs c) (ok : c.Ok) (i : Nat) (hi : i < 6) (off : Int) (n : Nat) (wr : Bool) (o0 : 0 ≤ off) (o1 : off < 4294967296) (hn : n = 1 ∨ n = 2 ∨ n = 4) (hr : (c.seg i).nl = true ∨ Sg.reachB (c.seg i).l (c.seg i).t (c.seg i).s (c.seg i).p (c.seg i).g off n wr = false) :
    Calls Tryz.prog 43 #[.pointer (some ⟨R.r, 0, none⟩), .agg cs, .int .i64 i, .int .u32 off, .int .i64 n, .bool wr] w (NilP w R M (ftV (vecB i))) := by
  unfold NilP ftV Ft.val
  obtain ⟨T, nn, Z, hV⟩ := vlP
  obtain ⟨vl, vs, va, vb⟩ := hV.ops
  have g1 := hV.agg; have g2 := hV.size; have g3 := hV.zero
  obtain ⟨X, hX⟩ : ∃ X, w.heap.size = X := ⟨_, rfl⟩
  obtain ⟨pA, rT, k0, hs0⟩ := vst hV w wf hX
  obtain ⟨W0, hW0⟩ : ∃ W, W = (w.alloc (.cells cs T)).alloc (.cells #[.int .i64 0, .int .i64 0, .int .u32 0] 54) := ⟨_, rfl⟩
  rw [← hW0] at pA rT k0 hs0
  have hst := hV.new wf w
  have hsz : cs.size = nn := by rw [wf.s, hV.s]
  have HXR : Hid (∀ k, R.has k → k < X) := fun k hk => by rw [← hX]; exact h.lt hk
  have HXw : Hid (w.heap.size = X) := hX
  have HR0 : Hid (RefAt w R M) := h
  have cS := vSized W0 n
  rw [show okS n = true by unfold okS; exact decide_eq_true (by omega)] at cS
  have s := (pA.cp hc ok).sg i hi
  have so := ok.sg i hi
  have t0 := so.t0; have t1 := so.t1; have l0 := so.l0; have l1 := so.l1; have b0 := so.b0; have b1 := so.b1
  have a0 := s.a0; have a1 := s.a1; have a2 := s.a2; have a3 := s.a3; have a4 := s.a4; have a5 := s.a5; have a6 := s.a6; have a7 := s.a7; have a8 := s.a8
  have hd : decide ((i : Int) < 0) = false := decide_eq_false (by omega)
  have hd6 : decide (5 < (i : Int)) = false := decide_eq_false (by omega)
  have hi' : (0 : Int) ≤ i ∧ (i : Int) < 6 := by omega
  have cR := Sg.refReach_any (c.seg i).b (c.seg i).l (c.seg i).t (c.seg i).s (c.seg i).d (c.seg i).p (c.seg i).g off n wr (W0.alloc (.cells #[.int .u16 (c.seg i).sel, .bool (c.seg i).nl, .int .u32 (c.seg i).b, .int .u32 (c.seg i).l, .int .i64 (c.seg i).t, .bool (c.seg i).s, .int .i64 (c.seg i).d, .bool (c.seg i).p, .bool (c.seg i).g] 30)) t0 t1 o0 o1 l0 l1
  have kC := Kp.alloc noB W0 (.cells #[.int .u16 (c.seg i).sel, .bool (c.seg i).nl, .int .u32 (c.seg i).b, .int .u32 (c.seg i).l, .int .i64 (c.seg i).t, .bool (c.seg i).s, .int .i64 (c.seg i).d, .bool (c.seg i).p, .bool (c.seg i).g] 30)
  replace rT := rT.kp kC (fun f => f)
  replace k0 := k0.trans kC
  have rY : (W0.alloc (.cells #[.int .u16 (c.seg i).sel, .bool (c.seg i).nl, .int .u32 (c.seg i).b, .int .u32 (c.seg i).l, .int .i64 (c.seg i).t, .bool (c.seg i).s, .int .i64 (c.seg i).d, .bool (c.seg i).p, .bool (c.seg i).g] 30)).heap[X + 2]? = some (.cells #[.int .u16 (c.seg i).sel, .bool (c.seg i).nl, .int .u32 (c.seg i).b, .int .u32 (c.seg i).l, .int .i64 (c.seg i).t, .bool (c.seg i).s, .int .i64 (c.seg i).d, .bool (c.seg i).p, .bool (c.seg i).g] 30 (0, 0)) := by
    have := (MapKept.heap_alloc W0 (.cells #[.int .u16 (c.seg i).sel, .bool (c.seg i).nl, .int .u32 (c.seg i).b, .int .u32 (c.seg i).l, .int .i64 (c.seg i).t, .bool (c.seg i).s, .int .i64 (c.seg i).d, .bool (c.seg i).p, .bool (c.seg i).g] 30)).1
    rw [hs0] at this
    exact this
  have HY1 : Hid (∀ W, Kp noB (W0.alloc (.cells #[.int .u16 (c.seg i).sel, .bool (c.seg i).nl, .int .u32 (c.seg i).b, .int .u32 (c.seg i).l, .int .i64 (c.seg i).t, .bool (c.seg i).s, .int .i64 (c.seg i).d, .bool (c.seg i).p, .bool (c.seg i).g] 30)) W → W.cell? ⟨X + 2, 1, none⟩ = some (.bool (c.seg i).nl) ∧ W.cell? ⟨X + 2, 2, none⟩ = some (.int .u32 (c.seg i).b)) := fun W k => by
    have r := (k.block (X + 2) (Array.getElem?_eq_some_iff.1 rY).1 (fun f => f)).trans rY
    refine ⟨?_, ?_⟩ <;> (rw [cell_at r]; rfl)
  clear rY kC
  clear hV wf h pA s so hc ok
  generalize Sg.reachB (c.seg i).l (c.seg i).t (c.seg i).s (c.seg i).p (c.seg i).g off n wr = rb at *
  generalize (c.seg i).nl = nl at *
  by_cases h2 : i = 2
  · subst h2
    rw [show vecB ((2 : Nat) : Int) = 12 from rfl]
    have hh : nl = true ∨ nl = false ∧ rb = false := by cases nl <;> simp_all
    clear hr
    rcases hh with rfl | ⟨rfl, rfl⟩
    · skip
      go_enter Tryz.func43, Tryz.ntmps43
      simp only [vl, vs, va, vb] at *
      go_upto_region 1 with fail
      rw [← hW0]
      clear hW0 hst hsz hX
      go_wp2_with (first | (go_at_call 49; refine cS.mono ?_; rintro e w' ⟨rfl, hw⟩; replace hw := hw.symm; subst hw) | (go_at_call 75; (refine cR.mono ?_; rintro e w3 ⟨rfl, k3⟩; replace k3 := kp_grown k3; obtain ⟨y1, y2⟩ := HY1.out _ k3)) | (go_at_call 50; refine (vFaults _ _ _).mono ?_; rintro e w2 ⟨rfl, k2⟩; have r2 := (rT.kp k3 (fun f => f)).kp k2 (fun f => f); obtain ⟨c0, c1, c2⟩ : _ ∧ _ ∧ _ := ⟨r2.c0, r2.c1, r2.c2⟩; obtain ⟨f0, f1, f2⟩ : _ ∧ _ ∧ _ := ⟨r2.fz 0, r2.fz 1, r2.fz 2⟩; have r5 := r2.set ⟨12, 0, 0⟩; have k5 := kp_setFt w2 (X + 1) ⟨12, 0, 0⟩; obtain ⟨d0, d1, d2⟩ : _ ∧ _ ∧ _ := ⟨r5.c0, r5.c1, r5.c2⟩; unfold setFt at *))
      refine bodyPost_ret (v := .tuple #[.slice none 0 0, .agg #[.int .i64 12, .int .i64 0, .int .u32 0]]) (by simp [results, Tryz.results43, go_sem, d0, d1, d2]) rfl ⟨rfl, HR0.out.kp ((kp_rch k0).trans ((kp_rch k3).trans ((kp_rch k2).trans (kp_rch1 k5 (Nat.le_succ X))))) (fun j hj f => by have := HXR.out j hj; unfold rch at f; omega), rch_own ((kp_rch k0).trans ((kp_rch k3).trans ((kp_rch k2).trans (kp_rch1 k5 (Nat.le_succ X))))) HXw.out⟩
    · skip
      go_enter Tryz.func43, Tryz.ntmps43
      simp only [vl, vs, va, vb] at *
      go_upto_region 1 with fail
      rw [← hW0]
      clear hW0 hst hsz hX
      go_wp2_with (first | (go_at_call 49; refine cS.mono ?_; rintro e w' ⟨rfl, hw⟩; replace hw := hw.symm; subst hw) | (go_at_call 75; (refine cR.mono ?_; rintro e w3 ⟨rfl, k3⟩; replace k3 := kp_grown k3; obtain ⟨y1, y2⟩ := HY1.out _ k3)) | (go_at_call 50; refine (vFaults _ _ _).mono ?_; rintro e w2 ⟨rfl, k2⟩; have r2 := (rT.kp k3 (fun f => f)).kp k2 (fun f => f); obtain ⟨c0, c1, c2⟩ : _ ∧ _ ∧ _ := ⟨r2.c0, r2.c1, r2.c2⟩; obtain ⟨f0, f1, f2⟩ : _ ∧ _ ∧ _ := ⟨r2.fz 0, r2.fz 1, r2.fz 2⟩; have r5 := r2.set ⟨12, 0, 0⟩; have k5 := kp_setFt w2 (X + 1) ⟨12, 0, 0⟩; obtain ⟨d0, d1, d2⟩ : _ ∧ _ ∧ _ := ⟨r5.c0, r5.c1, r5.c2⟩; unfold setFt at *))
      refine bodyPost_ret (v := .tuple #[.slice none 0 0, .agg #[.int .i64 12, .int .i64 0, .int .u32 0]]) (by simp [results, Tryz.results43, go_sem, d0, d1, d2]) rfl ⟨rfl, HR0.out.kp ((kp_rch k0).trans ((kp_rch k3).trans ((kp_rch k2).trans (kp_rch1 k5 (Nat.le_succ X))))) (fun j hj f => by have := HXR.out j hj; unfold rch at f; omega), rch_own ((kp_rch k0).trans ((kp_rch k3).trans ((kp_rch k2).trans (kp_rch1 k5 (Nat.le_succ X))))) HXw.out⟩
  · rw [show vecB i = 13 by unfold vecB; rw [if_neg (by omega)]]
    have h2' : ((i : Int) == 2) = false := by simp; omega
    have h2'' : ¬ (i : Int) = 2 := by omega
    have hh : nl = true ∨ nl = false ∧ rb = false := by cases nl <;> simp_all
    clear hr
    rcases hh with rfl | ⟨rfl, rfl⟩
    · skip
      go_enter Tryz.func43, Tryz.ntmps43
      simp only [vl, vs, va, vb] at *
      go_upto_region 1 with fail
      rw [← hW0]
      clear hW0 hst hsz hX
      go_wp2_with (first | (go_at_call 49; refine cS.mono ?_; rintro e w' ⟨rfl, hw⟩; replace hw := hw.symm; subst hw) | (go_at_call 75; (refine cR.mono ?_; rintro e w3 ⟨rfl, k3⟩; replace k3 := kp_grown k3; obtain ⟨y1, y2⟩ := HY1.out _ k3)) | (go_at_call 50; refine (vFaults _ _ _).mono ?_; rintro e w2 ⟨rfl, k2⟩; have r2 := (rT.kp k3 (fun f => f)).kp k2 (fun f => f); obtain ⟨c0, c1, c2⟩ : _ ∧ _ ∧ _ := ⟨r2.c0, r2.c1, r2.c2⟩; obtain ⟨f0, f1, f2⟩ : _ ∧ _ ∧ _ := ⟨r2.fz 0, r2.fz 1, r2.fz 2⟩; have r5 := r2.set ⟨13, 0, 0⟩; have k5 := kp_setFt w2 (X + 1) ⟨13, 0, 0⟩; obtain ⟨d0, d1, d2⟩ : _ ∧ _ ∧ _ := ⟨r5.c0, r5.c1, r5.c2⟩; unfold setFt at *))
      refine bodyPost_ret (v := .tuple #[.slice none 0 0, .agg #[.int .i64 13, .int .i64 0, .int .u32 0]]) (by simp [results, Tryz.results43, go_sem, d0, d1, d2]) rfl ⟨rfl, HR0.out.kp ((kp_rch k0).trans ((kp_rch k3).trans ((kp_rch k2).trans (kp_rch1 k5 (Nat.le_succ X))))) (fun j hj f => by have := HXR.out j hj; unfold rch at f; omega), rch_own ((kp_rch k0).trans ((kp_rch k3).trans ((kp_rch k2).trans (kp_rch1 k5 (Nat.le_succ X))))) HXw.out⟩
    · skip
      go_enter Tryz.func43, Tryz.ntmps43
      simp only [vl, vs, va, vb] at *
      go_upto_region 1 with fail
      rw [← hW0]
      clear hW0 hst hsz hX
      go_wp2_with (first | (go_at_call 49; refine cS.mono ?_; rintro e w' ⟨rfl, hw⟩; replace hw := hw.symm; subst hw) | (go_at_call 75; (refine cR.mono ?_; rintro e w3 ⟨rfl, k3⟩; replace k3 := kp_grown k3; obtain ⟨y1, y2⟩ := HY1.out _ k3)) | (go_at_call 50; refine (vFaults _ _ _).mono ?_; rintro e w2 ⟨rfl, k2⟩; have r2 := (rT.kp k3 (fun f => f)).kp k2 (fun f => f); obtain ⟨c0, c1, c2⟩ : _ ∧ _ ∧ _ := ⟨r2.c0, r2.c1, r2.c2⟩; obtain ⟨f0, f1, f2⟩ : _ ∧ _ ∧ _ := ⟨r2.fz 0, r2.fz 1, r2.fz 2⟩; have r5 := r2.set ⟨13, 0, 0⟩; have k5 := kp_setFt w2 (X + 1) ⟨13, 0, 0⟩; obtain ⟨d0, d1, d2⟩ : _ ∧ _ ∧ _ := ⟨r5.c0, r5.c1, r5.c2⟩; unfold setFt at *))
      refine bodyPost_ret (v := .tuple #[.slice none 0 0, .agg #[.int .i64 13, .int .i64 0, .int .u32 0]]) (by simp [results, Tryz.results43, go_sem, d0, d1, d2]) rfl ⟨rfl, HR0.out.kp ((kp_rch k0).trans ((kp_rch k3).trans ((kp_rch k2).trans (kp_rch1 k5 (Nat.le_succ X))))) (fun j hj f => by have := HXR.out j hj; unfold rch at f; omega), rch_own ((kp_rch k0).trans ((kp_rch k3).trans ((kp_rch k2).trans (kp_rch1 k5 (Nat.le_succ X))))) HXw.out⟩

theorem PlcV.kp {S : Nat → Prop} {w w' : World} {a b : Nat} {v : Value} {q : Qy} (h : PlcV w b v q) (k : Kp S w w') (hS : ∀ j, b ≤ j → ¬ S j) (hb : a ≤ b) : PlcV w' a v q := by
  unfold PlcV at *
  split
  · rename_i f hf; rw [hf] at h; exact h
  · rename_i hf; rw [hf] at h; exact (PlA.kp h k hS).mono hb

/-- Places, or a fault, are told. -/
def ReP (w : World) (R : Rf) (q : Qy) (e : Ending) (w' : World) : Prop := ∃ v, e = .returned (.tuple #[v, q.ft.val]) ∧ PlcV w' w.heap.size v q ∧ RefAt w' R q.m ∧ Kp R.has w w'
theorem NilP.re {w : World} {R : Rf} {M : Mem} {f : Ft} {q : Qy} (hq : q.f = some f) (hm : q.m = M) {e : Ending} {w' : World} (h : NilP w R M f e w') : ReP w R q e w' := by
  obtain ⟨h1, h2, h3⟩ := h
  refine ⟨.slice none 0 0, ?_, ?_, ?_, h3⟩
  · rw [h1]; unfold Qy.ft; rw [hq]
  · unfold PlcV; rw [hq]
  · rw [hm]; exact h2

set_option maxHeartbeats 4000000 in
theorem reach_pl (w : World) (R : Rf) (M : Mem) (h : RefAt w R M) (cs : Array Value) (wf : WfC cs) (c : Cp) (hc : CpC cs c) (ok : c.Ok) (hb : RdB M) (i : Nat) (hi : i < 6) (off : Int) (n : Nat) (wr : Bool) (o0 : 0 ≤ off) (o1 : off < 4294967296) (hn : n = 1 ∨ n = 2 ∨ n = 4) (hl : (c.seg i).nl = false) (hr : Sg.reachB (c.seg i).l (c.seg i).t (c.seg i).s (c.seg i).p (c.seg i).g off n wr = true) :
    Calls Tryz.prog 43 #[.pointer (some ⟨R.r, 0, none⟩), .agg cs, .int .i64 i, .int .u32 off, .int .i64 n, .bool wr] w (ReP w R ((pqC c (linB (c.seg i).b off) n wr false).q M)) := by
  obtain ⟨T, nn, Z, hV⟩ := vlP
  obtain ⟨vl, vs, va, vb⟩ := hV.ops
  have g1 := hV.agg; have g2 := hV.size; have g3 := hV.zero
  obtain ⟨X, hX⟩ : ∃ X, w.heap.size = X := ⟨_, rfl⟩
  obtain ⟨pA, rT, k0, hs0⟩ := vst hV w wf hX
  obtain ⟨W0, hW0⟩ : ∃ W, W = (w.alloc (.cells cs T)).alloc (.cells #[.int .i64 0, .int .i64 0, .int .u32 0] 54) := ⟨_, rfl⟩
  rw [← hW0] at pA rT k0 hs0
  have hst := hV.new wf w
  have hsz : cs.size = nn := by rw [wf.s, hV.s]
  have HXR : Hid (∀ k, R.has k → k < X) := fun k hk => by rw [← hX]; exact h.lt hk
  have HXw : Hid (w.heap.size = X) := hX
  have HR0 : Hid (RefAt w R M) := h
  have hlb := linB_bd (c.seg i).b off
  have HPl : Hid (∀ W, RefAt W R M → Calls Tryz.prog 51 #[.pointer (some ⟨R.r, 0, none⟩), .agg cs, .int .u32 (linB (c.seg i).b off), .int .i64 n, .bool wr, .bool false] W fun e w' => ∃ v, e = .returned (.tuple #[v, ((pqC c (linB (c.seg i).b off) n wr false).q M).ft.val]) ∧ PlcV w' W.heap.size v ((pqC c (linB (c.seg i).b off) n wr false).q M) ∧ RefAt w' R ((pqC c (linB (c.seg i).b off) n wr false).q M).m ∧ Kp R.has W w') := fun W hW => places_any W R M hW hb cs wf c hc ok (linB (c.seg i).b off) n wr false hlb.1 hlb.2 hn
  unfold ReP
  generalize (pqC c (linB (c.seg i).b off) n wr false).q M = q at *
  obtain ⟨f, hf⟩ : ∃ f, f = q.ft := ⟨_, rfl⟩
  rw [← hf] at HPl ⊢
  have HF : Hid (f = q.ft) := hf
  obtain ⟨fv, fc, f2⟩ := f
  have hll : ((c.seg i).b + off) % 4294967296 = linB (c.seg i).b off := rfl
  generalize linB (c.seg i).b off = l at *
  unfold Ft.val at HPl ⊢
  simp only at HPl ⊢
  clear hf
  have cS := vSized W0 n
  rw [show okS n = true by unfold okS; exact decide_eq_true (by omega)] at cS
  have s := (pA.cp hc ok).sg i hi
  have so := ok.sg i hi
  have t0 := so.t0; have t1 := so.t1; have l0 := so.l0; have l1 := so.l1; have b0 := so.b0; have b1 := so.b1
  have a0 := s.a0; have a1 := s.a1; have a2 := s.a2; have a3 := s.a3; have a4 := s.a4; have a5 := s.a5; have a6 := s.a6; have a7 := s.a7; have a8 := s.a8
  have hd : decide ((i : Int) < 0) = false := decide_eq_false (by omega)
  have hd6 : decide (5 < (i : Int)) = false := decide_eq_false (by omega)
  have hi' : (0 : Int) ≤ i ∧ (i : Int) < 6 := by omega
  have cR := Sg.refReach_any (c.seg i).b (c.seg i).l (c.seg i).t (c.seg i).s (c.seg i).d (c.seg i).p (c.seg i).g off n wr (W0.alloc (.cells #[.int .u16 (c.seg i).sel, .bool (c.seg i).nl, .int .u32 (c.seg i).b, .int .u32 (c.seg i).l, .int .i64 (c.seg i).t, .bool (c.seg i).s, .int .i64 (c.seg i).d, .bool (c.seg i).p, .bool (c.seg i).g] 30)) t0 t1 o0 o1 l0 l1
  have kC := Kp.alloc noB W0 (.cells #[.int .u16 (c.seg i).sel, .bool (c.seg i).nl, .int .u32 (c.seg i).b, .int .u32 (c.seg i).l, .int .i64 (c.seg i).t, .bool (c.seg i).s, .int .i64 (c.seg i).d, .bool (c.seg i).p, .bool (c.seg i).g] 30)
  replace rT := rT.kp kC (fun f => f)
  replace k0 := k0.trans kC
  have rY : (W0.alloc (.cells #[.int .u16 (c.seg i).sel, .bool (c.seg i).nl, .int .u32 (c.seg i).b, .int .u32 (c.seg i).l, .int .i64 (c.seg i).t, .bool (c.seg i).s, .int .i64 (c.seg i).d, .bool (c.seg i).p, .bool (c.seg i).g] 30)).heap[X + 2]? = some (.cells #[.int .u16 (c.seg i).sel, .bool (c.seg i).nl, .int .u32 (c.seg i).b, .int .u32 (c.seg i).l, .int .i64 (c.seg i).t, .bool (c.seg i).s, .int .i64 (c.seg i).d, .bool (c.seg i).p, .bool (c.seg i).g] 30 (0, 0)) := by
    have := (MapKept.heap_alloc W0 (.cells #[.int .u16 (c.seg i).sel, .bool (c.seg i).nl, .int .u32 (c.seg i).b, .int .u32 (c.seg i).l, .int .i64 (c.seg i).t, .bool (c.seg i).s, .int .i64 (c.seg i).d, .bool (c.seg i).p, .bool (c.seg i).g] 30)).1
    rw [hs0] at this
    exact this
  have HY1 : Hid (∀ W, Kp noB (W0.alloc (.cells #[.int .u16 (c.seg i).sel, .bool (c.seg i).nl, .int .u32 (c.seg i).b, .int .u32 (c.seg i).l, .int .i64 (c.seg i).t, .bool (c.seg i).s, .int .i64 (c.seg i).d, .bool (c.seg i).p, .bool (c.seg i).g] 30)) W → W.cell? ⟨X + 2, 1, none⟩ = some (.bool (c.seg i).nl) ∧ W.cell? ⟨X + 2, 2, none⟩ = some (.int .u32 (c.seg i).b)) := fun W k => by
    have r := (k.block (X + 2) (Array.getElem?_eq_some_iff.1 rY).1 (fun f => f)).trans rY
    refine ⟨?_, ?_⟩ <;> (rw [cell_at r]; rfl)
  clear rY kC
  have HPA : Hid (PAt (W0.alloc (.cells #[.int .u16 (c.seg i).sel, .bool (c.seg i).nl, .int .u32 (c.seg i).b, .int .u32 (c.seg i).l, .int .i64 (c.seg i).t, .bool (c.seg i).s, .int .i64 (c.seg i).d, .bool (c.seg i).p, .bool (c.seg i).g] 30)) X cs) := pA.kp (Kp.alloc noB _ _) (fun f => f)
  have HV : Hid (VlP T nn Z) := hV
  rw [hr] at cR
  clear hr hV wf h pA s so hc ok
  rw [hl] at *
  go_enter Tryz.func43, Tryz.ntmps43
  simp only [vl, vs, va, vb] at *
  go_upto_region 1 with fail
  rw [← hW0]
  clear hW0 hst hsz hX
  go_upto_region 10 with (first | (go_at_call 49; refine cS.mono ?_; rintro e w' ⟨rfl, hw⟩; replace hw := hw.symm; subst hw) | (go_at_call 75; (refine cR.mono ?_; rintro e w3 ⟨rfl, k3⟩; replace k3 := kp_grown k3; obtain ⟨y1, y2⟩ := HY1.out _ k3)))
  have hg3 := HV.out.get (HPA.out.kp k3 (fun f => f))
  have HR3 : Hid _ := HPl.out w3 ((HR0.out.kp k0 (fun _ _ f => f)).kp k3 (fun _ _ f => f))
  have HS3 : Hid (w.heap.size ≤ w3.heap.size ∧ X + 2 < w3.heap.size) := by
    have e := k3.size
    rw [World.size_alloc, hs0] at e
    have := HXw.out
    exact ⟨by omega, by omega⟩
  go_wp2_with fail
  refine Calls.mono HR3.out ?_; rintro e w4 ⟨v, rfl, hv, hr4, k4⟩
  have r2 := (rT.kp k3 (fun f => f)).kp k4 (fun f => by have := HXR.out _ f; omega)
  obtain ⟨c0, c1, c2⟩ : _ ∧ _ ∧ _ := ⟨r2.c0, r2.c1, r2.c2⟩
  obtain ⟨f0, f1, f2'⟩ : _ ∧ _ ∧ _ := ⟨r2.fz 0, r2.fz 1, r2.fz 2⟩
  have r5 := r2.set ⟨fv, fc, f2⟩
  have k5 := kp_setFt w4 (X + 1) ⟨fv, fc, f2⟩
  obtain ⟨d0, d1, d2⟩ : _ ∧ _ ∧ _ := ⟨r5.c0, r5.c1, r5.c2⟩
  have HV5 : Hid _ := hv.kp k5 (fun j hj e => by have := HS3.out.2; omega) HS3.out.1
  have HR5 : Hid _ := hr4.kp k5 (fun j hj e => by have := HXR.out j hj; omega)
  have HK5 : Hid _ := ((kp_no (k0.trans k3)).trans k4).over k5 (fun j hj e => by have := HXw.out; omega)
  clear r5 k5 hv hr4 k4 hg3 HR3
  unfold setFt at *
  go_wp2
  exact bodyPost_ret (v := .tuple #[v, .agg #[.int .i64 fv, .int .i64 fc, .int .u32 f2]]) (by simp [results, Tryz.results43, go_sem, d0, d1, d2]) rfl ⟨v, rfl, HV5.out, HR5.out, HK5.out⟩

theorem dreach_any (w : World) (R : Rf) (M : Mem) (h : RefAt w R M) (cs : Array Value) (wf : WfC cs) (c : Cp) (hc : CpC cs c) (ok : c.Ok) (hb : RdB M) (k off z : Int) (wr : Bool) (o0 : 0 ≤ off) (o1 : off < 4294967296) :
    Calls Tryz.prog 43 #[.pointer (some ⟨R.r, 0, none⟩), .agg cs, .int .i64 k, .int .u32 off, .int .i64 z, .bool wr] w (ReP w R (segQ M c k off z wr)) := by
  by_cases h1 : okS z = false ∨ k < 0 ∨ 6 ≤ k
  · have e : segQ M c k off z wr = ⟨some (ftV 13), M, ⟨0, 0, 0, 0⟩⟩ := by unfold segQ; rw [if_pos h1]
    rw [e]
    exact (reach_bad w R M h cs wf c hc ok k off z wr h1).mono fun e w' hh => hh.re rfl rfl
  · obtain ⟨i, rfl⟩ : ∃ i : Nat, k = i := ⟨k.toNat, by omega⟩
    have hz : okS z = true := by cases hz : okS z <;> simp_all
    have hn := okS_n hz
    obtain ⟨n, rfl⟩ : ∃ n : Nat, z = n := ⟨z.toNat, by have : z = 1 ∨ z = 2 ∨ z = 4 := of_decide_eq_true hz; omega⟩
    have hi : i < 6 := by omega
    have hn' : n = 1 ∨ n = 2 ∨ n = 4 := by simpa using hn
    by_cases h2 : (c.seg i).nl = true ∨ Sg.reachB (c.seg i).l (c.seg i).t (c.seg i).s (c.seg i).p (c.seg i).g off n wr = false
    · have e : segQ M c i off n wr = ⟨some (ftV (vecB i)), M, ⟨0, 0, 0, 0⟩⟩ := by
        unfold segQ; rw [if_neg h1]; exact if_pos h2
      rw [e]
      exact (reach_lets w R M h cs wf c hc ok i hi off n wr o0 o1 hn' h2).mono fun e w' hh => hh.re rfl rfl
    · have e : segQ M c i off n wr = (pqC c (linB (c.seg i).b off) n wr false).q M := by
        unfold segQ
        rw [if_neg h1]
        refine (if_neg h2).trans ?_
        unfold pqC Pq.q
        simp
      rw [e]
      have hl : (c.seg i).nl = false := by cases hq : (c.seg i).nl <;> simp_all
      exact reach_pl w R M h cs wf c hc ok hb i hi off n wr o0 o1 hn' hl (by cases hq : Sg.reachB (c.seg i).l (c.seg i).t (c.seg i).s (c.seg i).p (c.seg i).g off n wr <;> simp_all)
end Go.Proofs.YtmmnnafjikilpaaGreat
