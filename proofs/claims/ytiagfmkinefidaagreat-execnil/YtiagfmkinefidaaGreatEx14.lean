/- The bus and its devices: XeFault, XeDo, XeDiv, XeDiv2, XeDoNo, XeAll. -/
import Derived.Test.YtiagfmkinefidaaGreatEx12
import Derived.Test.YtiagfmkinefidaaGreatEx11
namespace Go.Proofs.YtiagfmkinefidaaGreat.Rm
open Go.ChangeShapes Go.WideShapes Go.ChangeAt Go.RowKit Go.Maps
set_option linter.unusedVariables false
set_option maxRecDepth 20000
theorem told_any (w : World) (f : Ft) : Calls Tryz.prog 66 #[.iface 36 f.val] w fun e w' => e = .returned f.val ∧ Kp noB w w' := by
  unfold Ft.val
  have hta : ∀ (x : Value) (w : World), (Instr.typeAssert (.iface 36 x) 20 36 true).run Tryz.prog w = .ok (.tuple #[x, .bool true]) w := fun _ _ => by kernel_rfl
  go_enter Tryz.func66, Tryz.ntmps66
  go_wp2
  refine bodyPost_ret (v := .agg #[.int .i64 f.vec, .int .i64 f.code, .int .u32 f.cr2]) (by simp [results, Tryz.results66, go_sem]) rfl ⟨rfl, ?_⟩
  exact (Kp.alloc noB w _).trans (Kp.alloc noB _ _)
theorem xcatch_pan (X : Nat) (g f : Ft) (older : List PanicEntry) (w : World) (h : RowT w X g) :
    CallsD Tryz.prog 65 #[.pointer (some ⟨X, 0, none⟩)] (.panicking ({ v := .iface 36 f.val, recovered := false } :: older)) w fun e u' w' =>
      e = .returned (.tuple #[]) ∧ u' = .panicking ({ v := .iface 36 f.val, recovered := true } :: older) ∧ ∃ w1, Kp noB w w1 ∧ w' = setFt w1 X f := by
  have HT : Hid _ := told_any w f
  unfold Ft.val at HT
  unfold setFt
  refine callsD_of_wpS Tryz.func65 rfl fun c₀ cs hu => ?_
  apply wpS_seq
  apply wpS_region
  simp [wpOpsS, go_sem, recoverD, hu, Tryz.ntmps65, Exit.thenS]
  obtain ⟨v, hv⟩ : ∃ v : Value, v = .agg #[.int .i64 f.vec, .int .i64 f.code, .int .u32 f.cr2] := ⟨_, rfl⟩
  have hv' : f.val = v := hv.symm
  rw [hv']
  change Code.wpS _ _ _ { tmps := #[.pointer (some ⟨X, 0, none⟩), .iface 36 v, .iface 36 v, undef, undef, undef, undef], defers := [] } _ _
  refine wpS_of_wp ?_
  rw [hv]
  clear hv hv'
  go_wp2_with fail
  refine Calls.mono HT.out ?_; rintro e w1 ⟨rfl, k1⟩
  have r1 := h.kp k1 (fun f => f)
  have c0 := r1.c0; have c1 := r1.c1; have c2 := r1.c2
  have f0 := r1.fz 0; have f1 := r1.fz 1; have f2 := r1.fz 2
  have HK : Hid (Kp noB w w1) := k1
  clear k1 r1 HT
  go_wp2
  simp [bodyPostS, results, Tryz.results65]
  exact ⟨w1, HK.out, rfl⟩
theorem xcatch_idle (X : Nat) (w : World) :
    CallsD Tryz.prog 65 #[.pointer (some ⟨X, 0, none⟩)] .returning w fun e u' w' => e = .returned (.tuple #[]) ∧ u' = .returning ∧ w' = w := by
  refine callsD_of_wpS Tryz.func65 rfl fun c₀ cs hu => ?_
  apply wpS_seq
  apply wpS_region
  simp [wpOpsS, go_sem, recoverD, hu, Tryz.ntmps65, Exit.thenS]
  change Code.wpS _ _ _ { tmps := #[.pointer (some ⟨X, 0, none⟩), .nilIface, .nilIface, undef, undef, undef, undef], defers := [] } _ _
  refine wpS_of_wp ?_
  go_wp2
  cases c₀
  simp_all [bodyPostS, results, Tryz.results65]
/-- What is done without a panic. -/
theorem xfaultOf_ok (w : World) (k : Nat) (a : Value) (S : Nat → Prop) (P : World → Prop) (hS : ∀ j, S j → j < w.heap.size) (hP : ∀ W W', P W → Kp (fun j => w.heap.size ≤ j) W W' → P W')
    (hk : ∀ W, (callFunc k #[a]).run Tryz.prog W = .ok (.enter k #[a]) W)
    (H : Hid (∀ W, Kp noB w W → Calls Tryz.prog k #[a] W fun e w' => e = .returned (.tuple #[]) ∧ Kp S W w' ∧ P w')) :
    Calls Tryz.prog 34 #[.func (.func k) #[a] #[]] w fun e w' => e = .returned noFt.val ∧ Kp S w w' ∧ P w' := by
  have hmf : ∀ (fn : Fn) (first cap : Array Value) (w : World), (Instr.makeFunc fn first cap).run Tryz.prog w = .ok (.func fn first cap) w := fun _ _ _ _ => rfl
  obtain ⟨W0, hW0⟩ : ∃ W, W = w.alloc (.cells #[.int .i64 0, .int .i64 0, .int .u32 0] 36) := ⟨_, rfl⟩
  obtain ⟨X, hX⟩ : ∃ X, w.heap.size = X := ⟨_, rfl⟩
  have k0 : Kp noB w W0 := by rw [hW0]; exact Kp.alloc _ _ _
  have rX : RowT W0 X ⟨0, 0, 0⟩ := by rw [hW0, ← hX]; exact (MapKept.heap_alloc w _).1
  go_enter_defers Tryz.func34, Tryz.ntmps34
  go_wp2_with fail
  rw [← hW0]
  refine (none_any _).mono ?_; rintro e w2 ⟨rfl, k2⟩
  have r2 := rX.kp k2 (fun f => f)
  have c0 := r2.c0; have c1 := r2.c1; have c2 := r2.c2
  have f0 := r2.fz 0; have f1 := r2.fz 1; have f2 := r2.fz 2
  clear hW0
  go_wp2_with fail
  have k3 : Kp noB w (setFt w2 X noFt) := by
    have := k0.trans k2
    exact (((this.own' (i := 0) (by omega) _).own' (i := 1) (by omega) _).own' (i := 2) (by omega) _)
  have r3 := r2.set noFt
  change Calls Tryz.prog k #[a] (setFt w2 X noFt) _
  refine Calls.mono (H.out _ k3) ?_; rintro e w4 ⟨rfl, k4, p4⟩
  have nX : ¬ S X := fun f => by have := hS _ f; omega
  have r4 := r3.kp k4 nX
  clear c0 c1 c2 f0 f1 f2
  have c0 := r4.c0; have c1 := r4.c1; have c2 := r4.c2
  have f0 := r4.fz 0; have f1 := r4.fz 1; have f2 := r4.fz 2
  have r5 := r4.set noFt
  have p5 := hP _ _ p4 ((kp_setFt w4 X noFt).mono (fun j _ e => by omega))
  have k5 : Kp S w (setFt w4 X noFt) := ((k3.mono (fun _ _ f => f.elim)).trans k4).over (kp_setFt w4 X noFt) (fun j hj e => absurd hj (by omega))
  clear r2 r3 k2 k0 rX k3 k4 p4
  have e0 : noFt.vec = -1 := rfl
  have e1 : noFt.code = -1 := rfl
  have e2 : noFt.cr2 = 0 := rfl
  go_wp2
  refine leaves_cons (f := 65) (args := #[.pointer (some ⟨X, 0, none⟩)]) (by simp) (by simp [go_sem]) ?_
  refine (xcatch_idle X _).mono ?_
  rintro e u' w'' ⟨rfl, rfl, rfl⟩
  have d0 := r5.c0; have d1 := r5.c1; have d2 := r5.c2
  unfold setFt at d0 d1 d2 k5 p5
  simp only [e0, e1, e2] at d0 d1 d2 k5 p5
  simp [Leaves, settle, results, Tryz.results34, go_sem, d0, d1, d2]
  exact ⟨rfl, k5, p5⟩
/-- What is done ends in a panic. -/
theorem xfaultOf_no (w : World) (k : Nat) (a : Value) (f : Ft) (S : Nat → Prop) (P : World → Prop) (hS : ∀ j, S j → j < w.heap.size) (hP : ∀ W W', P W → Kp (fun j => w.heap.size ≤ j) W W' → P W')
    (hk : ∀ W, (callFunc k #[a]).run Tryz.prog W = .ok (.enter k #[a]) W)
    (H : Hid (∀ W, Kp noB w W → Calls Tryz.prog k #[a] W fun e w' => e = .panicked (pan f) ∧ Kp S W w' ∧ P w')) :
    Calls Tryz.prog 34 #[.func (.func k) #[a] #[]] w fun e w' => e = .returned f.val ∧ Kp S w w' ∧ P w' := by
  have hmf : ∀ (fn : Fn) (first cap : Array Value) (w : World), (Instr.makeFunc fn first cap).run Tryz.prog w = .ok (.func fn first cap) w := fun _ _ _ _ => rfl
  obtain ⟨W0, hW0⟩ : ∃ W, W = w.alloc (.cells #[.int .i64 0, .int .i64 0, .int .u32 0] 36) := ⟨_, rfl⟩
  obtain ⟨X, hX⟩ : ∃ X, w.heap.size = X := ⟨_, rfl⟩
  have k0 : Kp noB w W0 := by rw [hW0]; exact Kp.alloc _ _ _
  have rX : RowT W0 X ⟨0, 0, 0⟩ := by rw [hW0, ← hX]; exact (MapKept.heap_alloc w _).1
  go_enter_defers Tryz.func34, Tryz.ntmps34
  go_wp2_with fail
  rw [← hW0]
  refine (none_any _).mono ?_; rintro e w2 ⟨rfl, k2⟩
  have r2 := rX.kp k2 (fun f => f)
  have c0 := r2.c0; have c1 := r2.c1; have c2 := r2.c2
  have f0 := r2.fz 0; have f1 := r2.fz 1; have f2 := r2.fz 2
  clear hW0
  go_wp2_with fail
  have k3 : Kp noB w (setFt w2 X noFt) := by
    have := k0.trans k2
    exact (((this.own' (i := 0) (by omega) _).own' (i := 1) (by omega) _).own' (i := 2) (by omega) _)
  have r3 := r2.set noFt
  change Calls Tryz.prog k #[a] (setFt w2 X noFt) _
  refine Calls.mono (H.out _ k3) ?_; rintro e w4 ⟨rfl, k4, p4⟩
  have nX : ¬ S X := fun f => by have := hS _ f; omega
  have r4 := r3.kp k4 nX
  refine leaves_cons (f := 65) (args := #[.pointer (some ⟨X, 0, none⟩)]) (by simp) (by simp [go_sem]) ?_
  refine (xcatch_pan X noFt f [] _ r4).mono ?_
  rintro e u' w'' ⟨rfl, rfl, w5, kw, rfl⟩
  have r5 := (r4.kp kw (fun f => f)).set f
  have p5 := hP _ _ (hP _ _ p4 (kw.mono (fun _ _ f => f.elim))) ((kp_setFt w5 X f).mono (fun j _ e => by omega))
  have k5 : Kp S w (setFt w5 X f) := (((k3.mono (fun _ _ f => f.elim)).trans k4).trans (kw.mono (fun _ _ f => f.elim))).over (kp_setFt w5 X f) (fun j hj e => absurd hj (by omega))
  have d0 := r5.c0; have d1 := r5.c1; have d2 := r5.c2
  simp [Leaves, settle, results, Tryz.results34, go_sem, d0, d1, d2]
  exact ⟨rfl, k5, p5⟩
end Go.Proofs.YtiagfmkinefidaaGreat.Rm
namespace Go.Proofs.YtiagfmkinefidaaGreat.Rm
open Go.ChangeShapes Go.WideShapes Go.ChangeAt Go.RowKit Go.Maps
set_option linter.unusedVariables false
set_option maxRecDepth 20000
theorem lacks_no (w : World) (E V B : Nat) (cs : Array Value) (h : EAt w E cs (.pointer (some ⟨V, 0, none⟩)) (.pointer (some ⟨B, 0, none⟩))) : Calls Tryz.prog 31 #[.pointer (some ⟨E, 0, none⟩)] w fun e w' => e = .returned (.bool false) ∧ w' = w := by
  have a := h.mp
  have b := h.bp
  go_enter Tryz.func31, Tryz.ntmps31
  go_wp2
  go_ret
  exact ⟨rfl, rfl⟩
theorem fault_any (w : World) (v c : Int) : Calls Tryz.prog 64 #[.int .i64 v, .int .i64 c] w fun e w' => e = .returned (.agg #[.int .i64 v, .int .i64 c, .int .u32 0]) ∧ Kp noB w w' := by
  go_enter Tryz.func64, Tryz.ntmps64
  go_wp2
  refine bodyPost_ret (v := .agg #[.int .i64 v, .int .i64 c, .int .u32 0]) (by simp [results, Tryz.results64, go_sem]) rfl ⟨rfl, ?_⟩
  exact Kp.alloc noB w _
theorem prot_any (w : World) : Calls Tryz.prog 32 #[] w fun e w' => e = .returned (.agg #[.int .i64 13, .int .i64 0, .int .u32 0]) ∧ Kp noB w w' := by
  obtain ⟨W0, hW0⟩ : ∃ W, W = w.alloc (.cells #[.int .i64 0, .int .i64 0, .int .u32 0] 36) := ⟨_, rfl⟩
  obtain ⟨X, hX⟩ : ∃ X, w.heap.size = X := ⟨_, rfl⟩
  have k0 : Kp noB w W0 := by rw [hW0]; exact Kp.alloc _ _ _
  have rX : RowT W0 X ⟨0, 0, 0⟩ := by rw [hW0, ← hX]; exact (MapKept.heap_alloc w _).1
  go_enter Tryz.func32, Tryz.ntmps32
  go_wp2_with fail
  rw [← hW0]
  refine (fault_any _ _ _).mono ?_; rintro e w2 ⟨rfl, k2⟩
  have r2 := rX.kp k2 (fun f => f)
  have f0 := r2.fz 0; have f1 := r2.fz 1; have f2 := r2.fz 2
  have c0 := r2.c0; have c1 := r2.c1; have c2 := r2.c2
  have r3 := r2.set ⟨13, 0, 0⟩
  have k3 : Kp noB w (setFt w2 X ⟨13, 0, 0⟩) := ((((k0.trans k2).own' (i := 0) (by omega) _).own' (i := 1) (by omega) _).own' (i := 2) (by omega) _)
  have d0 := r3.c0; have d1 := r3.c1; have d2 := r3.c2
  unfold setFt at d0 d1 d2 k3
  simp only at d0 d1 d2 k3
  clear r2 r3 rX k0 k2 hW0
  go_wp2
  refine bodyPost_ret (v := .agg #[.int .i64 13, .int .i64 0, .int .u32 0]) (by simp [results, Tryz.results32, go_sem, d0, d1, d2]) rfl ⟨rfl, k3⟩
theorem indiv_any (w : World) : Calls Tryz.prog 425 #[] w fun e w' => e = .returned (.agg #[.int .i64 0, .int .i64 (-1), .int .u32 0]) ∧ Kp noB w w' := by
  obtain ⟨W0, hW0⟩ : ∃ W, W = w.alloc (.cells #[.int .i64 0, .int .i64 0, .int .u32 0] 36) := ⟨_, rfl⟩
  obtain ⟨X, hX⟩ : ∃ X, w.heap.size = X := ⟨_, rfl⟩
  have k0 : Kp noB w W0 := by rw [hW0]; exact Kp.alloc _ _ _
  have rX : RowT W0 X ⟨0, 0, 0⟩ := by rw [hW0, ← hX]; exact (MapKept.heap_alloc w _).1
  go_enter Tryz.func425, Tryz.ntmps425
  go_wp2_with fail
  rw [← hW0]
  refine (fault_any _ _ _).mono ?_; rintro e w2 ⟨rfl, k2⟩
  have r2 := rX.kp k2 (fun f => f)
  have f0 := r2.fz 0; have f1 := r2.fz 1; have f2 := r2.fz 2
  have c0 := r2.c0; have c1 := r2.c1; have c2 := r2.c2
  have r3 := r2.set ⟨0, (-1), 0⟩
  have k3 : Kp noB w (setFt w2 X ⟨0, (-1), 0⟩) := ((((k0.trans k2).own' (i := 0) (by omega) _).own' (i := 1) (by omega) _).own' (i := 2) (by omega) _)
  have d0 := r3.c0; have d1 := r3.c1; have d2 := r3.c2
  unfold setFt at d0 d1 d2 k3
  simp only at d0 d1 d2 k3
  clear r2 r3 rX k0 k2 hW0
  go_wp2
  refine bodyPost_ret (v := .agg #[.int .i64 0, .int .i64 (-1), .int .u32 0]) (by simp [results, Tryz.results425, go_sem, d0, d1, d2]) rfl ⟨rfl, k3⟩
def OcAt (w : World) (q : Nat) (f : Ft) (so : Int) (ir : Bool) : Prop := w.heap[q]? = some (.cells #[.int .i64 f.vec, .int .i64 f.code, .int .u32 f.cr2, .int .i64 so, .bool ir] 56 (0, 0))
theorem OcAt.lt {w : World} {q : Nat} {f : Ft} {so : Int} {ir : Bool} (h : OcAt w q f so ir) : q < w.heap.size := (Array.getElem?_eq_some_iff.1 h).1
theorem OcAt.kp {S : Nat → Prop} {w w' : World} {q : Nat} {f : Ft} {so : Int} {ir : Bool} (h : OcAt w q f so ir) (k : Kp S w w') (hS : ¬ S q) : OcAt w' q f so ir := (k.block q h.lt hS).trans h
theorem OcAt.c {w : World} {q : Nat} {f : Ft} {so : Int} {ir : Bool} (h : OcAt w q f so ir) : w.cell? ⟨q, 0, none⟩ = some (.int .i64 f.vec) ∧ w.cell? ⟨q, 1, none⟩ = some (.int .i64 f.code) ∧ w.cell? ⟨q, 2, none⟩ = some (.int .u32 f.cr2) ∧ w.cell? ⟨q, 3, none⟩ = some (.int .i64 so) ∧ w.cell? ⟨q, 4, none⟩ = some (.bool ir) := by
  simp only [cell_at h]
  exact ⟨rfl, rfl, rfl, rfl, rfl⟩
theorem OcAt.fz {w : World} {q : Nat} {f : Ft} {so : Int} {ir : Bool} (h : OcAt w q f so ir) (j : Nat) : w.frozen? ⟨q, j, none⟩ = false := frozen_at h
def setOc (w : World) (q : Nat) (f : Ft) (so : Int) (ir : Bool) : World := ((((w.setCell ⟨q, 0, none⟩ (.int .i64 f.vec)).setCell ⟨q, 1, none⟩ (.int .i64 f.code)).setCell ⟨q, 2, none⟩ (.int .u32 f.cr2)).setCell ⟨q, 3, none⟩ (.int .i64 so)).setCell ⟨q, 4, none⟩ (.bool ir)
theorem OcAt.set {w : World} {q : Nat} {f : Ft} {so : Int} {ir : Bool} (h : OcAt w q f so ir) (g : Ft) (s : Int) (i : Bool) : OcAt (setOc w q g s i) q g s i := heap_setCell_at (heap_setCell_at (heap_setCell_at (heap_setCell_at (heap_setCell_at h _) _) _) _) _
theorem kp_setOc (w : World) (q : Nat) (f : Ft) (so : Int) (ir : Bool) : Kp (fun j => j = q) w (setOc w q f so ir) := by
  have k : ∀ (W : World) (o : Nat) (v : Value), Kp (fun j => j = q) W (W.setCell ⟨q, o, none⟩ v) := fun W o v => Kp.setCell (S := fun j => j = q) W (p := ⟨q, o, none⟩) rfl v
  exact ((((k _ _ _).trans (k _ _ _)).trans (k _ _ _)).trans (k _ _ _)).trans (k _ _ _)
theorem do_build (E : Nat) (x : Dc.Ins) (W : World) : (Instr.build 113 #[(0, .pointer (some ⟨E, 0, none⟩)), (1, .pointer (some ⟨E, 0, none⟩)), (2, .agg (Dc.insV x)), (4, .agg #[.int .i64 (-1), .int .i64 (-1), .int .u32 0, .int .i64 (-1), .bool false])]).run Tryz.prog W = .ok (.agg (dC E x 0 (-1) false)) W :=
  run_build W _ _ _ (by kernel_rfl)
set_option maxHeartbeats 16000000 in
theorem do_ok (w : World) (E V B : Nat) (cs : Array Value) (hE : EAt w E cs (.pointer (some ⟨V, 0, none⟩)) (.pointer (some ⟨B, 0, none⟩))) (x : Dc.Ins) (so : Int) (ir : Bool) (S : Nat → Prop) (P : World → Prop) (hS : ∀ j, S j → j < w.heap.size) (hP : ∀ W W', P W → Kp (fun j => w.heap.size ≤ j) W W' → P W')
    (H : Hid (∀ W D, Kp noB w W → w.heap.size ≤ D → D < W.heap.size → DAt W D E x 0 (-1) false → Calls Tryz.prog 35 #[.pointer (some ⟨D, 0, none⟩)] W fun e w' => e = .returned (.tuple #[]) ∧ Kp (fun j => j = D ∨ S j) W w' ∧ P w' ∧ ∃ a, DAt w' D E x a so ir)) :
    Calls Tryz.prog 13 #[.pointer (some ⟨E, 0, none⟩), .agg (Dc.insV x)] w fun e w' => e = .returned (.agg #[.int .i64 (-1), .int .i64 (-1), .int .u32 0, .int .i64 so, .bool ir]) ∧ Kp S w w' ∧ P w' := by
  obtain ⟨T, nn, Z, hV⟩ := vlP
  obtain ⟨vl, vs, va, vb⟩ := hV.ops
  have g1 := hV.agg; have g2 := hV.size; have g3 := hV.zero
  obtain ⟨T2, n2, Z2, fs2, ps2, hF⟩ := Dc.vlF
  obtain ⟨ul, us, ub, ua, ue⟩ := hF.ops
  have ux : ∀ x, Op.box 40 x = Op.box T2 x := by rw [hF.v.t]; exact fun _ => rfl
  have e1 := hF.agg; have e2 := hF.size
  have hb := do_build E x
  have hmf : ∀ (fn : Fn) (first cap : Array Value) (w : World), (Instr.makeFunc fn first cap).run Tryz.prog w = .ok (.func fn first cap) w := fun _ _ _ _ => rfl
  obtain ⟨I, hI⟩ : ∃ I, I = Dc.insV x := ⟨_, rfl⟩
  have hIx : (w.alloc (.cells I T2)).heap[w.heap.size]? = some (.cells I T2 (0, 0)) := (MapKept.heap_alloc w _).1
  have hIs : I.size = n2 := by rw [hI]; exact hF.v.cells x
  rw [← hI] at hb ⊢
  obtain ⟨X, hX⟩ : ∃ X, X = w.heap.size := ⟨_, rfl⟩
  obtain ⟨W0, hW0⟩ : ∃ W, W = (w.alloc (.cells I T2)).alloc (.cells #[.int .i64 0, .int .i64 0, .int .u32 0, .int .i64 0, .bool false] 56) := ⟨_, rfl⟩
  have kA := Kp.alloc noB w (.cells I T2)
  have kB := Kp.alloc noB (w.alloc (.cells I T2)) (.cells #[.int .i64 0, .int .i64 0, .int .u32 0, .int .i64 0, .bool false] 56)
  have s1 : (w.alloc (.cells I T2)).heap.size = X + 1 := by simp [hX]
  have rI : W0.heap[X]? = some (.cells I T2 (0, 0)) := by rw [hW0, hX]; exact (kB.block _ (by simp) id).trans hIx
  have rO : W0.heap[X + 1]? = some (.cells #[.int .i64 0, .int .i64 0, .int .u32 0, .int .i64 0, .bool false] 56 (0, 0)) := by
    have := (MapKept.heap_alloc (w.alloc (.cells I T2)) (.cells #[.int .i64 0, .int .i64 0, .int .u32 0, .int .i64 0, .bool false] 56)).1
    rw [s1] at this
    rw [hW0]
    exact this
  have k0 : Kp noB w W0 := by rw [hW0]; exact kA.trans kB
  have E0 := hE.kp0 k0
  have HX : Hid (X = w.heap.size) := hX
  have HF : Hid _ := hF
  have HV : Hid _ := hV
  have HI : Hid (I = Dc.insV x) := hI
  clear hF hV hI kA kB hIx s1
  go_enter Tryz.func13, Tryz.ntmps13
  simp only [vl, vs, va, ul, ux]
  go_wp2_with fail
  rw [← hW0, ← hX]
  refine Calls.mono (lacks_no W0 E V B cs E0) ?_; rintro e w2 ⟨rfl, hw⟩; subst hw
  clear hW0 hX
  have g4 := E0.get HV.out
  have wf := E0.2
  have g5 := HV.out.new wf w2
  have g6 : cs.size = nn := by rw [wf.s, HV.out.s]
  obtain ⟨W3, hW3⟩ : ∃ W, W = w2.alloc (.cells cs T) := ⟨_, rfl⟩
  obtain ⟨Y, hY⟩ : ∃ Y, Y = w2.heap.size := ⟨_, rfl⟩
  have kC := Kp.alloc noB w2 (.cells cs T)
  have pY : W3.heap[Y]? = some (.cells cs T (0, 0)) := by rw [hW3, hY]; exact (MapKept.heap_alloc w2 _).1
  rw [← hW3] at kC
  have E3 := E0.kp0 kC
  have rI3 := (kC.block X (Array.getElem?_eq_some_iff.1 rI).1 id).trans rI
  have rO3 := (kC.block (X + 1) (Array.getElem?_eq_some_iff.1 rO).1 id).trans rO
  have k3 := k0.trans kC
  have HL : Hid (∀ W, Kp noB W3 W → (loadCellsFrom ⟨X, 0, none⟩ 0 n2 #[]).run Tryz.prog W = .ok I W) := fun W k => by
    have := (k.block X (Array.getElem?_eq_some_iff.1 rI3).1 id).trans rI3
    rw [HI.out] at this ⊢
    exact HF.out.get this
  have HL0 : Hid ((loadCellsFrom ⟨X, 0, none⟩ 0 n2 #[]).run Tryz.prog W3.drew = .ok I W3.drew) := HL.out _ (Kp.refl noB W3).drew
  unfold Dc.insV at HI
  rw [HI.out] at HL HL0
  go_upto_region 4 with fail
  rw [← hW3, ← hY]
  clear hW3 hY g4 g5 rI rO kC E0 k0
  go_region_held3 (fun W => (loadCellsFrom ⟨X, 0, none⟩ 0 n2 #[]).run Tryz.prog W = .ok #[.int .i64 x.op, .int .i64 x.sub, .int .i64 x.size,  .int .i64 x.a.kind, .int .i64 x.a.reg, .int .i64 x.a.size, .int .i64 x.a.seg, .int .i64 x.a.base, .int .i64 x.a.index, .int .i64 x.a.scale, .int .u32 x.a.disp, .int .u32 x.a.imm,  .int .i64 x.b.kind, .int .i64 x.b.reg, .int .i64 x.b.size, .int .i64 x.b.seg, .int .i64 x.b.base, .int .i64 x.b.index, .int .i64 x.b.scale, .int .u32 x.b.disp, .int .u32 x.b.imm,  .int .i64 x.c.kind, .int .i64 x.c.reg, .int .i64 x.c.size, .int .i64 x.c.seg, .int .i64 x.c.base, .int .i64 x.c.index, .int .i64 x.c.scale, .int .u32 x.c.disp, .int .u32 x.c.imm,  .int .i64 x.rep, .int .i64 x.len] W) (first | with_reducible exact HL0.out | exact HL.out _ (unDrew k5) | exact HL.out _ ((unDrew k5).trans (Kp.alloc noB _ _))) (first | (go_at_call 33; refine Calls.mono (none_any _) ?_; rintro e w5 ⟨rfl, k5⟩))
  obtain ⟨D, hD⟩ : ∃ D, D = w5.heap.size := ⟨_, rfl⟩
  obtain ⟨W6, hW6⟩ : ∃ W, W = w5.alloc (.cells (dC E x 0 (-1) false) 113) := ⟨_, rfl⟩
  have d6 : DAt W6 D E x 0 (-1) false := by rw [hW6, hD]; exact (MapKept.heap_alloc w5 _).1
  have k6 : Kp noB W3 W6 := by rw [hW6]; exact (unDrew k5).trans (Kp.alloc noB _ _)
  have o6 : OcAt W6 (X + 1) ⟨0, 0, 0⟩ 0 false := OcAt.kp rO3 k6 id
  have hlt : w.heap.size ≤ D ∧ D < W6.heap.size ∧ X + 1 < D := ⟨by rw [hD]; exact Nat.le_trans k3.size (unDrew k5).size, d6.lt, by
    have := o6.lt
    have h1 := (unDrew k5).size
    have h2 := (Array.getElem?_eq_some_iff.1 rO3).1
    rw [hD]; omega⟩
  replace k6 := k3.trans k6
  have HC : Hid (Calls Tryz.prog 34 #[.func (.func 35) #[.pointer (some ⟨D, 0, none⟩)] #[]] W6 fun e w' => e = .returned noFt.val ∧ Kp (fun j => j = D ∨ S j) W6 w' ∧ P w' ∧ ∃ a, DAt w' D E x a so ir) := by
    refine xfaultOf_ok W6 _ _ (fun j => j = D ∨ S j) (fun w' => P w' ∧ ∃ a, DAt w' D E x a so ir) (fun j hj => ?_) (fun W W' p k => ⟨hP _ _ p.1 (k.mono (fun j _ g => Nat.le_trans k6.size g)), p.2.imp fun a d => d.kp k (by have := d6.lt; omega)⟩) (fun W => by kernel_rfl) (fun W kW => ?_)
    · rcases hj with e | e
      · rw [e]; exact hlt.2.1
      · exact Nat.lt_of_lt_of_le (hS j e) k6.size
    · exact H.out W D (k6.trans kW) hlt.1 (Nat.lt_of_lt_of_le hlt.2.1 kW.size) (d6.kp0 kW)
  unfold dC ptr at hW6
  have hsz : W6.heap.size = D + 1 := by rw [hW6, hD]; simp
  have HA : Hid (w5.alloc _ = W6) := hW6.symm
  have HD : Hid (D = w5.heap.size) := hD
  clear hW6 hD hb HL HL0 g1 g2 g3 e1 e2 hIs rI3 rO3
  go_wp2_with fail
  rw [HA.out, ← HD.out]
  refine Calls.mono HC.out ?_; rintro e w7 ⟨rfl, k7, p7, a7, d7⟩
  have hq : ∀ w, (binOp .neq 36 (.agg #[.int .i64 (-1), .int .i64 (-1), .int .u32 0]) (.agg #[.int .i64 (-1), .int .i64 (-1), .int .u32 0])).run Tryz.prog w = .ok (.bool false) w := fun w => by kernel_rfl
  have e0 : noFt.val = .agg #[.int .i64 (-1), .int .i64 (-1), .int .u32 0] := rfl
  rw [e0]
  have kF := Kp.alloc noB w7 (.cells #[.int .i64 (-1), .int .i64 (-1), .int .u32 0] 36)
  obtain ⟨W8, hW8⟩ : ∃ W, W = w7.alloc (.cells #[.int .i64 (-1), .int .i64 (-1), .int .u32 0] 36) := ⟨_, rfl⟩
  obtain ⟨F, hF8⟩ : ∃ F, F = w7.heap.size := ⟨_, rfl⟩
  have rF : RowT W8 F noFt := by rw [hW8, hF8]; exact (MapKept.heap_alloc w7 _).1
  have nO : ¬ (X + 1 = D ∨ S (X + 1)) := by
    have := HX.out
    rintro (f | f)
    · omega
    · have := hS _ f; omega
  have o7 := (o6.kp k7 nO)
  rw [← hW8] at kF
  have o8 := o7.kp kF id
  have d8 := d7.kp0 kF
  have k8 : Kp (fun j => j = D ∨ S j) w W8 := (k6.mono (fun _ _ f => f.elim)).trans (k7.trans (kF.mono (fun _ _ f => f.elim)))
  have p8 : P W8 := hP _ _ p7 (kF.mono (fun _ _ f => f.elim))
  have HS8 : Hid (W8.drew.cell? ⟨F, 0, none⟩ = some (.int .i64 (-1)) ∧ W8.drew.cell? ⟨F, 1, none⟩ = some (.int .i64 (-1)) ∧ W8.drew.cell? ⟨F, 2, none⟩ = some (.int .u32 0)) := ⟨rF.c0, rF.c1, rF.c2⟩
  have HR8 : Hid (∀ W, Kp noB W8 W → W.cell? ⟨F, 0, none⟩ = some (.int .i64 (-1)) ∧ W.cell? ⟨F, 1, none⟩ = some (.int .i64 (-1)) ∧ W.cell? ⟨F, 2, none⟩ = some (.int .u32 0)) := fun W k => ⟨(rF.kp k id).c0, (rF.kp k id).c1, (rF.kp k id).c2⟩
  go_upto_region 6 with fail
  rw [← hW8, ← hF8]
  clear hW8 hF8 rF o7 d7 HC k6 k7 p7 o6 d6
  go_region_held3 (fun W => W.cell? ⟨F, 0, none⟩ = some (.int .i64 (-1)) ∧ W.cell? ⟨F, 1, none⟩ = some (.int .i64 (-1)) ∧ W.cell? ⟨F, 2, none⟩ = some (.int .u32 0)) (first | with_reducible exact HS8.out | exact HR8.out _ (unDrew k9)) (first | (go_at_call 33; refine Calls.mono (none_any _) ?_; rintro e w9 ⟨rfl, k9⟩))
  have k9' := unDrew k9
  have o9 := o8.kp k9' id
  have d9 := d8.kp0 k9'
  have p9 := hP _ _ p8 (k9'.mono (fun _ _ f => f.elim))
  have kX := k8.trans (k9'.mono (fun _ _ f => f.elim))
  obtain ⟨u0, u1, u2, u3, u4⟩ := o9.c
  have z0 := o9.fz 0; have z1 := o9.fz 1; have z2 := o9.fz 2; have z3 := o9.fz 3; have z4 := o9.fz 4
  have x0 : w9.cell? ⟨D, 35, none⟩ = some (.int .i64 (-1)) := d9.c rfl
  have x1 : w9.cell? ⟨D, 36, none⟩ = some (.int .i64 (-1)) := d9.c rfl
  have x2 : w9.cell? ⟨D, 37, none⟩ = some (.int .u32 0) := d9.c rfl
  have x3 : w9.cell? ⟨D, 38, none⟩ = some (.int .i64 so) := d9.c rfl
  have x4 : w9.cell? ⟨D, 39, none⟩ = some (.bool ir) := d9.c rfl
  have oZ := o9.set noFt so ir
  have kZ := kp_setOc w9 (X + 1) noFt so ir
  have pZ := hP _ _ p9 (kZ.mono (fun j _ e => by have := HX.out; omega))
  have kQ : Kp S w (setOc w9 (X + 1) noFt so ir) := ⟨kZ.os.trans kX.os, kZ.tape.trans kX.tape, kZ.output.trans kX.output, Nat.le_trans kX.size kZ.size, fun i hi hs => (kZ.block i (Nat.lt_of_lt_of_le hi kX.size) (by have := HX.out; show ¬ i = X + 1; omega)).trans (kX.block i hi (by rintro (f | f); omega; exact hs f))⟩
  obtain ⟨y0, y1, y2, y3, y4⟩ := oZ.c
  unfold setOc at y0 y1 y2 y3 y4 pZ kQ
  have n0 : noFt.vec = -1 := rfl
  have n1 : noFt.code = -1 := rfl
  have n2' : noFt.cr2 = 0 := rfl
  simp only [n0, n1, n2'] at y0 y1 y2 y3 y4 pZ kQ
  clear oZ kZ kX p9 d9 o9 k9' k9 p8 k8 d8 o8 HS8 HR8 nO
  go_wp2
  refine bodyPost_ret (v := .agg #[.int .i64 (-1), .int .i64 (-1), .int .u32 0, .int .i64 so, .bool ir]) (by simp [results, Tryz.results13, go_sem, y0, y1, y2, y3, y4]) rfl ⟨rfl, kQ, pZ⟩
end Go.Proofs.YtiagfmkinefidaaGreat.Rm
namespace Go.Proofs.YtiagfmkinefidaaGreat.Rm
open Go.ChangeShapes Go.WideShapes Go.ChangeAt Go.RowKit Go.Maps
set_option linter.unusedVariables false
set_option maxRecDepth 20000
theorem lower_reg (w : World) (D E : Nat) (x : Dc.Ins) (a so : Int) (ir : Bool) (hD : DAt w D E x a so ir) (s M : Int) (hz : x.size = s) (hs : (s = 1 ∧ M = 256) ∨ (s = 2 ∧ M = 65536) ∨ (s = 4 ∧ M = 4294967296)) :
    Calls Tryz.prog 422 #[.pointer (some ⟨D, 0, none⟩)] w (RegQ w E s 0) := by
  have HC : Hid (∀ W, Kp noB w W → Calls Tryz.prog 426 #[.pointer (some ⟨D, 0, none⟩), .int .i64 0, .int .i64 s] W (RegQ W E s 0)) := fun W k => reg_any W D E x a so ir (DAt.kp0 hD k) 0 (by decide) s M hs
  obtain ⟨P, hP⟩ : ∃ P, P = w.heap.size := ⟨_, rfl⟩
  obtain ⟨W0, hW0⟩ : ∃ W, W = w.alloc (.cells #[.nilFunc, .nilFunc, .nilFunc] 271) := ⟨_, rfl⟩
  have k0 : Kp noB w W0 := by rw [hW0]; exact Kp.alloc _ _ _
  have rP : PlB W0 P .nilFunc .nilFunc .nilFunc := by rw [hW0, hP]; exact (MapKept.heap_alloc w _).1
  have D0 := DAt.kp0 hD k0
  have d4 : (w.alloc (.cells #[.nilFunc, .nilFunc, .nilFunc] 271)).cell? ⟨D, 4, none⟩ = some (.int .i64 s) := by rw [← hW0, ← hz]; exact D0.c rfl
  clear D0 hD hs hz
  go_enter Tryz.func422, Tryz.ntmps422
  go_wp2_with fail
  rw [← hW0, ← hP]
  refine Calls.mono (HC.out _ k0) ?_; rintro e w1 ⟨l0, l1, l2, rfl, q1, q2, q3⟩
  clear hW0 HC d4
  have r1 := rP.kp q3 id
  have hl : l0 ≠ P ∧ l1 ≠ P ∧ l2 ≠ P := by have := (Array.getElem?_eq_some_iff.1 rP).1; omega
  obtain ⟨p0, p1, p2⟩ := r1.c
  have z0 := r1.fz 0; have z1 := r1.fz 1; have z2 := r1.fz 2
  have HR : Hid (∀ u1 u2 u3, RegQ w E s 0 (.returned (regV l0 l1 l2)) (setPl w1 (P) u1 u2 u3) ∧ PlB (setPl w1 (P) u1 u2 u3) (P) u1 u2 u3) := fun u1 u2 u3 =>
    ⟨⟨l0, l1, l2, rfl, q1.kp (kp_setPl w1 (P) u1 u2 u3) hl.1 hl.2.1 hl.2.2, ⟨Nat.le_trans k0.size q2.1, Nat.le_trans k0.size q2.2.1, Nat.le_trans k0.size q2.2.2⟩, (k0.trans q3).over (kp_setPl w1 (P) u1 u2 u3) (fun j hj e => absurd hj (by omega))⟩, r1.set u1 u2 u3⟩
  clear q1 q2 q3 r1 rP k0 hP
  unfold regV at HR ⊢
  obtain ⟨y, z⟩ := HR.out (.func (.func 493) #[] #[.pointer (some ⟨l0, 0, none⟩), .pointer (some ⟨l1, 0, none⟩), .pointer (some ⟨l2, 0, none⟩)]) (.func (.func 494) #[] #[]) (.func (.func 495) #[] #[.pointer (some ⟨l0, 0, none⟩), .pointer (some ⟨l1, 0, none⟩), .pointer (some ⟨l2, 0, none⟩)])
  obtain ⟨y0, y1, y2⟩ := z.c
  have HZ : Hid _ := y
  unfold setPl at y0 y1 y2 HZ
  clear y z HR
  go_wp2
  refine bodyPost_ret (v := regV l0 l1 l2) (by simp [results, Tryz.results422, go_sem, y0, y1, y2, regV]) rfl HZ.out
theorem upper_one (w : World) (D E : Nat) (x : Dc.Ins) (a so : Int) (ir : Bool) (hD : DAt w D E x a so ir) (hz : x.size = 1) :
    Calls Tryz.prog 423 #[.pointer (some ⟨D, 0, none⟩)] w (RegQ w E 1 4) := by
  have HC : Hid (∀ W, Kp noB w W → Calls Tryz.prog 426 #[.pointer (some ⟨D, 0, none⟩), .int .i64 4, .int .i64 1] W (RegQ W E 1 4)) := fun W k => reg_any W D E x a so ir (DAt.kp0 hD k) 4 (by decide) 1 256 (.inl ⟨rfl, rfl⟩)
  obtain ⟨P, hP⟩ : ∃ P, P = w.heap.size := ⟨_, rfl⟩
  obtain ⟨W0, hW0⟩ : ∃ W, W = w.alloc (.cells #[.nilFunc, .nilFunc, .nilFunc] 271) := ⟨_, rfl⟩
  have k0 : Kp noB w W0 := by rw [hW0]; exact Kp.alloc _ _ _
  have rP : PlB W0 P .nilFunc .nilFunc .nilFunc := by rw [hW0, hP]; exact (MapKept.heap_alloc w _).1
  have D0 := DAt.kp0 hD k0
  have d4 : (w.alloc (.cells #[.nilFunc, .nilFunc, .nilFunc] 271)).cell? ⟨D, 4, none⟩ = some (.int .i64 1) := by rw [← hW0, ← hz]; exact D0.c rfl
  clear D0 hD hz
  go_enter Tryz.func423, Tryz.ntmps423
  go_wp2_with fail
  rw [← hW0, ← hP]
  refine Calls.mono (HC.out _ k0) ?_; rintro e w1 ⟨l0, l1, l2, rfl, q1, q2, q3⟩
  clear hW0 HC d4
  have r1 := rP.kp q3 id
  have hl : l0 ≠ P ∧ l1 ≠ P ∧ l2 ≠ P := by have := (Array.getElem?_eq_some_iff.1 rP).1; omega
  obtain ⟨p0, p1, p2⟩ := r1.c
  have z0 := r1.fz 0; have z1 := r1.fz 1; have z2 := r1.fz 2
  have HR : Hid (∀ u1 u2 u3, RegQ w E 1 4 (.returned (regV l0 l1 l2)) (setPl w1 (P) u1 u2 u3) ∧ PlB (setPl w1 (P) u1 u2 u3) (P) u1 u2 u3) := fun u1 u2 u3 =>
    ⟨⟨l0, l1, l2, rfl, q1.kp (kp_setPl w1 (P) u1 u2 u3) hl.1 hl.2.1 hl.2.2, ⟨Nat.le_trans k0.size q2.1, Nat.le_trans k0.size q2.2.1, Nat.le_trans k0.size q2.2.2⟩, (k0.trans q3).over (kp_setPl w1 (P) u1 u2 u3) (fun j hj e => absurd hj (by omega))⟩, r1.set u1 u2 u3⟩
  clear q1 q2 q3 r1 rP k0 hP
  unfold regV at HR ⊢
  obtain ⟨y, z⟩ := HR.out (.func (.func 493) #[] #[.pointer (some ⟨l0, 0, none⟩), .pointer (some ⟨l1, 0, none⟩), .pointer (some ⟨l2, 0, none⟩)]) (.func (.func 494) #[] #[]) (.func (.func 495) #[] #[.pointer (some ⟨l0, 0, none⟩), .pointer (some ⟨l1, 0, none⟩), .pointer (some ⟨l2, 0, none⟩)])
  obtain ⟨y0, y1, y2⟩ := z.c
  have HZ : Hid _ := y
  unfold setPl at y0 y1 y2 HZ
  clear y z HR
  go_wp2
  refine bodyPost_ret (v := regV l0 l1 l2) (by simp [results, Tryz.results423, go_sem, y0, y1, y2, regV]) rfl HZ.out
theorem mdSize1 (w : World) : Calls Tryz.prog 481 #[.int .i64 1] w fun e w' => e = .returned (.bool true) ∧ w' = w := by
  go_enter Tryz.func481, Tryz.ntmps481
  go_wp2
  go_ret
  exact ⟨rfl, rfl⟩
theorem mdWidth1 (w : World) : Calls Tryz.prog 482 #[.int .i64 1] w fun e w' => e = .returned (.agg #[.int .i64 1, .int .u64 8]) ∧ Kp noB w w' := by
  go_enter Tryz.func482, Tryz.ntmps482
  go_wp2
  refine bodyPost_ret (v := .agg #[.int .i64 1, .int .u64 8]) (by simp [results, Tryz.results482, go_sem]) rfl ⟨rfl, ?_⟩
  exact Kp.alloc noB w _
theorem mdCut1 (w : World) : Calls Tryz.prog 488 #[.agg #[.int .i64 1, .int .u64 8], .int .u64 0] w fun e w' => e = .returned (.int .u32 0) ∧ Kp noB w w' := by
  go_enter Tryz.func488, Tryz.ntmps488
  go_wp2
  go_ret
  exact ⟨ret_int (by kernel_rfl), Kp.alloc _ _ _⟩
theorem div_zero (w : World) (A B : Int) : Calls Tryz.prog 424 #[.bool false, .int .i64 1, .int .u32 A, .int .u32 B, .int .u32 0] w fun e w' => e = .returned (.tuple #[.int .u32 0, .int .u32 0, .bool false, .int .i64 0]) ∧ Kp noB w w' := by
  go_enter Tryz.func424, Tryz.ntmps424
  go_wp2_with fail
  refine Calls.mono (mdSize1 w) ?_; rintro e w1 ⟨rfl, hw⟩; subst hw
  go_wp2_with fail
  refine Calls.mono (mdWidth1 w1) ?_; rintro e w2 ⟨rfl, k2⟩
  have Hk : Hid _ := k2.trans (Kp.alloc noB w2 (.cells #[.int .i64 1, .int .u64 8] 358))
  clear k2
  go_wp2_with fail
  refine Calls.mono (mdCut1 _) ?_; rintro e w3 ⟨rfl, k3⟩
  have Hk3 : Hid _ := Hk.out.trans k3
  clear k3 Hk
  go_wp2
  refine bodyPost_ret (v := .tuple #[.int .u32 0, .int .u32 0, .bool false, .int .i64 0]) (by simp [results, Tryz.results424, go_sem]) rfl ⟨rfl, Hk3.out⟩
/-- An interrupt that is asked for. -/
theorem int_ok (w : World) (D E : Nat) (DE : D ≠ E) (x : Dc.Ins) (a so : Int) (ir : Bool) (cs : Array Value) (pm pb : Value) (hD : DAt w D E x a so ir) (hE : EAt w E cs pm pb) (h2 : (x.sub == 2) = false) (i0 : 0 ≤ x.a.imm) (i1 : x.a.imm < 4294967296) :
    Calls Tryz.prog 201 #[.pointer (some ⟨D, 0, none⟩)] w fun e w' => e = .returned (.tuple #[]) ∧ DAt w' D E x a x.a.imm ir ∧ EAt w' E cs pm pb ∧ Kp (inE D E) w w' := by
  have b3 : w.cell? ⟨D, 3, none⟩ = some (.int .i64 x.sub) := hD.c rfl
  have b13 : w.cell? ⟨D, 13, none⟩ = some (.int .u32 x.a.imm) := hD.c rfl
  have b38 : w.cell? ⟨D, 38, none⟩ = some (.int .i64 so) := hD.c rfl
  have f38 := hD.fz 38
  have hw : IntKind.i64.wrap x.a.imm = x.a.imm := by simp [IntKind.wrap, IntKind.bits, IntKind.signed]; omega
  have HZ : Hid (DAt (w.setCell ⟨D, 38, none⟩ (.int .i64 x.a.imm)) D E x a x.a.imm ir ∧ EAt (w.setCell ⟨D, 38, none⟩ (.int .i64 x.a.imm)) E cs pm pb ∧ Kp (inE D E) w (w.setCell ⟨D, 38, none⟩ (.int .i64 x.a.imm))) :=
    ⟨hD.setSo _, EAt.kp hE (Kp.setCell (S := fun j => j = D) w (p := ⟨D, 38, none⟩) rfl _) (fun f => DE f.symm), Kp.setCell _ (.inl rfl) _⟩
  clear hD hE
  go_enter Tryz.func201, Tryz.ntmps201
  go_wp2
  go_end0
  exact ⟨rfl, HZ.out⟩
end Go.Proofs.YtiagfmkinefidaaGreat.Rm
namespace Go.Proofs.YtiagfmkinefidaaGreat.Rm
open Go.ChangeShapes Go.WideShapes Go.ChangeAt Go.RowKit Go.Maps
set_option linter.unusedVariables false
set_option maxRecDepth 20000
theorem onOf {o : Oper} {listed : Array Bool} {i : Nat} (hb : ∀ e ∈ o.after, Region.binds .any e = true → listed.getD e.on false = true) (h : (o.after.toList.any fun e => Region.binds .any e && e.on == i) = true) : listed.getD i false = true := by
  obtain ⟨e, h1, h2⟩ := List.any_eq_true.1 h
  simp only [Bool.and_eq_true, beq_iff_eq] at h2
  rw [← h2.2]
  exact hb e (Array.mem_toList_iff.1 h1) h2.1
set_option maxHeartbeats 4000000 in
theorem divide_no (w : World) (D E : Nat) (x : Dc.Ins) (a so : Int) (ir : Bool) (cs : Array Value) (pm pb : Value) (hD : DAt w D E x a so ir) (hE : EAt w E cs pm pb) (n : Nat) (hn : n < 8) (hsub : x.sub = 0) (hz : x.size = 1) (ak : x.a.kind = 1) (ar : x.a.reg = n) (az : x.a.size = 1) (q r : Int) (q0 : 0 ≤ q) (q1 : q < 4294967296) (r0 : 0 ≤ r) (r1 : r < 4294967296) (hq : cs[regK 1 n]? = some (.int .u32 q)) (hr : cs[0]? = some (.int .u32 r)) (hv : getR 1 n q = 0) :
    Calls Tryz.prog 166 #[.pointer (some ⟨D, 0, none⟩)] w fun e w' => e = .panicked (pan ⟨0, -1, 0⟩) ∧ Kp noB w w' := by
  unfold pan Ft.val
  have HA := a_reg w D E x a so ir hD n hn ak ar 256 (.inl ⟨az, rfl⟩)
  rw [az] at HA
  have HD : Hid (DAt w D E x a so ir) := hD
  have HE : Hid (EAt w E cs pm pb) := hE
  have Hx : Hid (x.sub = 0 ∧ x.size = 1) := ⟨hsub, hz⟩
  have Hq : Hid (cs[regK 1 n]? = some (.int .u32 q) ∧ cs[0]? = some (.int .u32 r) ∧ getR 1 n q = 0 ∧ 0 ≤ q ∧ q < 4294967296 ∧ 0 ≤ r ∧ r < 4294967296) := ⟨hq, hr, hv, q0, q1, r0, r1⟩
  have HAh : Hid _ := HA
  have hf0 := fld0
  clear HA hD hE hsub hz hq hr hv q0 q1 r0 r1 ak ar az hn
  go_enter Tryz.func166, Tryz.ntmps166
  go_wp2_with fail
  refine Calls.mono HAh.out ?_; rintro e w1 ⟨l0, l1, l2, rfl, u1, u2, u3⟩
  have HC : Hid _ := regRead_any w1 l0 l1 l2 E 1 n (.inl rfl) u1 q Hq.out.2.2.2.1 Hq.out.2.2.2.2.1 ((HE.out.kp0 u3).cell Hq.out.1)
  have Hk1 : Hid _ := u3
  rw [Hq.out.2.2.1] at HC
  unfold regV
  clear HAh u1 u2 u3
  go_wp2_with fail
  refine Calls.mono HC.out ?_; rintro e w2 ⟨rfl, k2⟩
  have Hk2 : Hid _ := Hk1.out.trans k2
  clear k2 HC Hk1
  have HSK : Hid (∀ W, Kp noB w2 W → DAt W D E x a so ir ∧ EAt W E cs pm pb) := fun W k => ⟨HD.out.kp0 (Hk2.out.trans k), HE.out.kp0 (Hk2.out.trans k)⟩
  go_upto_region 1 with fail
  refine OrdFree.region_vals (τ := (Nat × Nat × Nat) × (Nat × Nat × Nat)) (fun t => [(.pointer (some ⟨D, 0, none⟩)), (.pointer (some ⟨D, 0, none⟩)), (.pointer (some ⟨D, 2, none⟩)), (.pointer (some ⟨D, 3, none⟩)), (.int .i64 0), (.bool false), (.pointer (some ⟨D, 0, none⟩)), (.pointer (some ⟨D, 0, none⟩)), (.pointer (some ⟨D, 2, none⟩)), (.pointer (some ⟨D, 4, none⟩)), (.int .i64 1), (.pointer (some ⟨D, 0, none⟩)), (.agg #[(.func (.func 493) #[] #[.pointer (some ⟨t.1.1, 0, none⟩), .pointer (some ⟨t.1.2.1, 0, none⟩), .pointer (some ⟨t.1.2.2, 0, none⟩)]), (.func (.func 494) #[] #[]), (.func (.func 495) #[] #[.pointer (some ⟨t.1.1, 0, none⟩), .pointer (some ⟨t.1.2.1, 0, none⟩), .pointer (some ⟨t.1.2.2, 0, none⟩)])]), (.func (.func 493) #[] #[.pointer (some ⟨t.1.1, 0, none⟩), .pointer (some ⟨t.1.2.1, 0, none⟩), .pointer (some ⟨t.1.2.2, 0, none⟩)]), (.int .u32 (getR 1 0 r)), (.pointer (some ⟨D, 0, none⟩)), (.agg #[(.func (.func 493) #[] #[.pointer (some ⟨t.2.1, 0, none⟩), .pointer (some ⟨t.2.2.1, 0, none⟩), .pointer (some ⟨t.2.2.2, 0, none⟩)]), (.func (.func 494) #[] #[]), (.func (.func 495) #[] #[.pointer (some ⟨t.2.1, 0, none⟩), .pointer (some ⟨t.2.2.1, 0, none⟩), .pointer (some ⟨t.2.2.2, 0, none⟩)])]), (.func (.func 493) #[] #[.pointer (some ⟨t.2.1, 0, none⟩), .pointer (some ⟨t.2.2.1, 0, none⟩), .pointer (some ⟨t.2.2.2, 0, none⟩)]), (.int .u32 (getR 1 4 r)), (.int .u32 0), (.tuple #[.int .u32 0, .int .u32 0, .bool false, .int .i64 0]), (.tuple #[.int .u32 0, .int .u32 0, .bool false, .int .i64 0]), (.int .u32 0), (.int .u32 0), (.bool false), (.int .i64 0), (.int .u32 0), (.int .u32 0), (.bool false), (.int .i64 0)]) (fun t listed W => Kp noB w2 W ∧ (listed.getD 12 false = true → RegP W t.1.1 t.1.2.1 t.1.2.2 E 1 0) ∧ (listed.getD 16 false = true → RegP W t.2.1 t.2.2.1 t.2.2.2 E 1 4)) ((0, 0, 0), (0, 0, 0)) (by kernel_rfl) (by kernel_rfl) (by kernel_rfl) (by kernel_rfl) (fun _ => rfl) (fun t => by simp only [OrdFree.puts, Act.put, List.setIfInBounds_toArray, List.set_cons_zero, List.set_cons_succ]; rfl) (And.intro (Kp.refl noB w2).drew (And.intro (fun f => by cases f) (fun f => by cases f))) ?_ ?_
  · refine ⟨?_, ?_, ?_, ?_, ?_, ?_, ?_, ?_, ?_, ?_, ?_, ?_, ?_, ?_, ?_, ?_, ?_, ?_, ?_, ?_, ?_, ?_, ?_, ?_, ?_, ?_, ?_, ?_, ?_, ?_, trivial⟩
    all_goals (intro t listed W hzz hSh hl hI hb K hK hK0; obtain ⟨kk, hp, hm⟩ := hI; obtain ⟨dD, eE⟩ := HSK.out W kk; have d3 : W.cell? ⟨D, 3, none⟩ = some (.int .i64 0) := by rw [← Hx.out.1]; exact dD.c rfl)
    · go_simp
      exact hK0 W ⟨kk, (fun h => hp (by rwa [getD_set_ne false (by decide)] at h)), (fun h => hm (by rwa [getD_set_ne false (by decide)] at h))⟩
    · go_simp
      exact hK0 W ⟨kk, (fun h => hp (by rwa [getD_set_ne false (by decide)] at h)), (fun h => hm (by rwa [getD_set_ne false (by decide)] at h))⟩
    · go_simp
      exact hK0 W ⟨kk, (fun h => hp (by rwa [getD_set_ne false (by decide)] at h)), (fun h => hm (by rwa [getD_set_ne false (by decide)] at h))⟩
    · go_simp
      exact hK0 W ⟨kk, (fun h => hp (by rwa [getD_set_ne false (by decide)] at h)), (fun h => hm (by rwa [getD_set_ne false (by decide)] at h))⟩
    · go_simp
      exact hK0 W ⟨kk, (fun h => hp (by rwa [getD_set_ne false (by decide)] at h)), (fun h => hm (by rwa [getD_set_ne false (by decide)] at h))⟩
    · go_simp
      exact hK0 W ⟨kk, (fun h => hp (by rwa [getD_set_ne false (by decide)] at h)), (fun h => hm (by rwa [getD_set_ne false (by decide)] at h))⟩
    · go_simp
      exact hK0 W ⟨kk, (fun h => hp (by rwa [getD_set_ne false (by decide)] at h)), (fun h => hm (by rwa [getD_set_ne false (by decide)] at h))⟩
    · go_simp
      exact hK0 W ⟨kk, (fun h => hp (by rwa [getD_set_ne false (by decide)] at h)), (fun h => hm (by rwa [getD_set_ne false (by decide)] at h))⟩
    · go_simp
      exact hK0 W ⟨kk, (fun h => hp (by rwa [getD_set_ne false (by decide)] at h)), (fun h => hm (by rwa [getD_set_ne false (by decide)] at h))⟩
    · go_simp
      exact hK0 W ⟨kk, (fun h => hp (by rwa [getD_set_ne false (by decide)] at h)), (fun h => hm (by rwa [getD_set_ne false (by decide)] at h))⟩
    · have d4 : W.cell? ⟨D, 4, none⟩ = some (.int .i64 1) := by rw [← Hx.out.2]; exact dD.c rfl
      go_simp
      exact hK0 W ⟨kk, (fun h => hp (by rwa [getD_set_ne false (by decide)] at h)), (fun h => hm (by rwa [getD_set_ne false (by decide)] at h))⟩
    · go_simp
      exact hK0 W ⟨kk, (fun h => hp (by rwa [getD_set_ne false (by decide)] at h)), (fun h => hm (by rwa [getD_set_ne false (by decide)] at h))⟩
    · have nn := OrdFree.shut_no (j := 13) hSh hl (by kernel_rfl)
      go_simp
      refine Calls.mono (lower_reg W D E x a so ir dD 1 256 Hx.out.2 (.inl ⟨rfl, rfl⟩)) ?_
      rintro e w4 ⟨y0, y1, y2, rfl, v1, v2, v3⟩
      refine hK (.agg #[(.func (.func 493) #[] #[.pointer (some ⟨y0, 0, none⟩), .pointer (some ⟨y1, 0, none⟩), .pointer (some ⟨y2, 0, none⟩)]), (.func (.func 494) #[] #[]), (.func (.func 495) #[] #[.pointer (some ⟨y0, 0, none⟩), .pointer (some ⟨y1, 0, none⟩), .pointer (some ⟨y2, 0, none⟩)])]) _ ⟨((y0, y1, y2), t.2), rfl, OrdFree.vals_two (i := 12) (k := 13) (u := (.agg #[(.func (.func 493) #[] #[.pointer (some ⟨y0, 0, none⟩), .pointer (some ⟨y1, 0, none⟩), .pointer (some ⟨y2, 0, none⟩)]), (.func (.func 494) #[] #[]), (.func (.func 495) #[] #[.pointer (some ⟨y0, 0, none⟩), .pointer (some ⟨y1, 0, none⟩), .pointer (some ⟨y2, 0, none⟩)])])) (v := (.func (.func 493) #[] #[.pointer (some ⟨y0, 0, none⟩), .pointer (some ⟨y1, 0, none⟩), .pointer (some ⟨y2, 0, none⟩)])) rfl hl nn, kk.trans v3, (fun _ => v1), (fun h => (hm (by rwa [getD_set_ne false (by decide)] at h)).kp0 v3)⟩
    · go_simp
      exact hK0 W ⟨kk, (fun h => hp (by rwa [getD_set_ne false (by decide)] at h)), (fun h => hm (by rwa [getD_set_ne false (by decide)] at h))⟩
    · have pp := hp (onOf (i := 12) hb (by kernel_rfl))
      go_simp
      refine Calls.mono (regRead_any W _ _ _ E 1 0 (.inl rfl) pp r Hq.out.2.2.2.2.2.1 Hq.out.2.2.2.2.2.2 (eE.cell Hq.out.2.1)) ?_
      rintro e w4 ⟨rfl, v3⟩
      exact hK0 w4 ⟨kk.trans v3, fun h => (hp (by rwa [getD_set_ne false (by decide)] at h)).kp0 v3, fun h => (hm (by rwa [getD_set_ne false (by decide)] at h)).kp0 v3⟩
    · go_simp
      exact hK0 W ⟨kk, (fun h => hp (by rwa [getD_set_ne false (by decide)] at h)), (fun h => hm (by rwa [getD_set_ne false (by decide)] at h))⟩
    · have nn := OrdFree.shut_no (j := 17) hSh hl (by kernel_rfl)
      go_simp
      refine Calls.mono (upper_one W D E x a so ir dD Hx.out.2) ?_
      rintro e w4 ⟨y0, y1, y2, rfl, v1, v2, v3⟩
      refine hK (.agg #[(.func (.func 493) #[] #[.pointer (some ⟨y0, 0, none⟩), .pointer (some ⟨y1, 0, none⟩), .pointer (some ⟨y2, 0, none⟩)]), (.func (.func 494) #[] #[]), (.func (.func 495) #[] #[.pointer (some ⟨y0, 0, none⟩), .pointer (some ⟨y1, 0, none⟩), .pointer (some ⟨y2, 0, none⟩)])]) _ ⟨(t.1, (y0, y1, y2)), rfl, OrdFree.vals_two (i := 16) (k := 17) (u := (.agg #[(.func (.func 493) #[] #[.pointer (some ⟨y0, 0, none⟩), .pointer (some ⟨y1, 0, none⟩), .pointer (some ⟨y2, 0, none⟩)]), (.func (.func 494) #[] #[]), (.func (.func 495) #[] #[.pointer (some ⟨y0, 0, none⟩), .pointer (some ⟨y1, 0, none⟩), .pointer (some ⟨y2, 0, none⟩)])])) (v := (.func (.func 493) #[] #[.pointer (some ⟨y0, 0, none⟩), .pointer (some ⟨y1, 0, none⟩), .pointer (some ⟨y2, 0, none⟩)])) rfl hl nn, kk.trans v3, (fun h => (hp (by rwa [getD_set_ne false (by decide)] at h)).kp0 v3), (fun _ => v1)⟩
    · go_simp
      exact hK0 W ⟨kk, (fun h => hp (by rwa [getD_set_ne false (by decide)] at h)), (fun h => hm (by rwa [getD_set_ne false (by decide)] at h))⟩
    · have pp := hm (onOf (i := 16) hb (by kernel_rfl))
      go_simp
      refine Calls.mono (regRead_any W _ _ _ E 1 4 (.inl rfl) pp r Hq.out.2.2.2.2.2.1 Hq.out.2.2.2.2.2.2 (eE.cell Hq.out.2.1)) ?_
      rintro e w4 ⟨rfl, v3⟩
      exact hK0 w4 ⟨kk.trans v3, fun h => (hp (by rwa [getD_set_ne false (by decide)] at h)).kp0 v3, fun h => (hm (by rwa [getD_set_ne false (by decide)] at h)).kp0 v3⟩
    · go_simp
      exact hK0 W ⟨kk, (fun h => hp (by rwa [getD_set_ne false (by decide)] at h)), (fun h => hm (by rwa [getD_set_ne false (by decide)] at h))⟩
    · go_simp
      refine Calls.mono (div_zero W _ _) ?_
      rintro e w4 ⟨rfl, v3⟩
      exact hK0 w4 ⟨kk.trans v3, fun h => (hp (by rwa [getD_set_ne false (by decide)] at h)).kp0 v3, fun h => (hm (by rwa [getD_set_ne false (by decide)] at h)).kp0 v3⟩
    · go_simp
      exact hK0 W ⟨kk, (fun h => hp (by rwa [getD_set_ne false (by decide)] at h)), (fun h => hm (by rwa [getD_set_ne false (by decide)] at h))⟩
    · go_simp
      exact hK0 W ⟨kk, (fun h => hp (by rwa [getD_set_ne false (by decide)] at h)), (fun h => hm (by rwa [getD_set_ne false (by decide)] at h))⟩
    · go_simp
      exact hK0 W ⟨kk, (fun h => hp (by rwa [getD_set_ne false (by decide)] at h)), (fun h => hm (by rwa [getD_set_ne false (by decide)] at h))⟩
    · go_simp
      exact hK0 W ⟨kk, (fun h => hp (by rwa [getD_set_ne false (by decide)] at h)), (fun h => hm (by rwa [getD_set_ne false (by decide)] at h))⟩
    · go_simp
      exact hK0 W ⟨kk, (fun h => hp (by rwa [getD_set_ne false (by decide)] at h)), (fun h => hm (by rwa [getD_set_ne false (by decide)] at h))⟩
    · go_simp
      exact hK0 W ⟨kk, (fun h => hp (by rwa [getD_set_ne false (by decide)] at h)), (fun h => hm (by rwa [getD_set_ne false (by decide)] at h))⟩
    · go_simp
      exact hK0 W ⟨kk, (fun h => hp (by rwa [getD_set_ne false (by decide)] at h)), (fun h => hm (by rwa [getD_set_ne false (by decide)] at h))⟩
    · go_simp
      exact hK0 W ⟨kk, (fun h => hp (by rwa [getD_set_ne false (by decide)] at h)), (fun h => hm (by rwa [getD_set_ne false (by decide)] at h))⟩
    · go_simp
      exact hK0 W ⟨kk, (fun h => hp (by rwa [getD_set_ne false (by decide)] at h)), (fun h => hm (by rwa [getD_set_ne false (by decide)] at h))⟩
  · rename_i Kx hKx
    rintro t listed W hal ⟨kk, hp, hm⟩
    refine hKx _ _ ?_
    have Hk3 : Hid _ := Hk2.out.trans kk
    clear hp hm kk hal hKx HSK
    go_wp2_with fail
    refine Calls.mono (need_zero _) ?_; rintro e w7 ⟨rfl, hw⟩; subst hw
    go_wp2_with fail
    refine Calls.mono (indiv_any _) ?_; rintro e w8 ⟨rfl, k8⟩
    have Hk8 : Hid _ := Hk3.out.trans k8
    clear k8
    go_wp2
    exact ⟨rfl, rfl, Hk8.out⟩
end Go.Proofs.YtiagfmkinefidaaGreat.Rm
namespace Go.Proofs.YtiagfmkinefidaaGreat.Rm
open Go.ChangeShapes Go.WideShapes Go.ChangeAt Go.RowKit Go.Maps
set_option linter.unusedVariables false
set_option maxRecDepth 20000
set_option maxHeartbeats 16000000 in
theorem do_no (w : World) (E V B : Nat) (cs : Array Value) (hE : EAt w E cs (.pointer (some ⟨V, 0, none⟩)) (.pointer (some ⟨B, 0, none⟩))) (x : Dc.Ins) (f : Ft) (hf : ∀ w, (binOp .neq 36 (.agg #[.int .i64 f.vec, .int .i64 f.code, .int .u32 f.cr2]) (.agg #[.int .i64 (-1), .int .i64 (-1), .int .u32 0])).run Tryz.prog w = .ok (.bool true) w) (S : Nat → Prop) (P : World → Prop) (hS : ∀ j, S j → j < w.heap.size) (hP : ∀ W W', P W → Kp (fun j => j = E ∨ w.heap.size ≤ j) W W' → P W')
    (H : Hid (∀ W D, Kp noB w W → w.heap.size ≤ D → D < W.heap.size → DAt W D E x 0 (-1) false → Calls Tryz.prog 35 #[.pointer (some ⟨D, 0, none⟩)] W fun e w' => e = .panicked (pan f) ∧ Kp (fun j => j = D ∨ S j) W w' ∧ P w' ∧ ∃ c, EAt w' E c (.pointer (some ⟨V, 0, none⟩)) (.pointer (some ⟨B, 0, none⟩)))) :
    Calls Tryz.prog 13 #[.pointer (some ⟨E, 0, none⟩), .agg (Dc.insV x)] w fun e w' => e = .returned (.agg #[.int .i64 f.vec, .int .i64 f.code, .int .u32 f.cr2, .int .i64 (-1), .bool false]) ∧ Kp (fun j => j = E ∨ S j) w w' ∧ P w' ∧ EAt w' E cs (.pointer (some ⟨V, 0, none⟩)) (.pointer (some ⟨B, 0, none⟩)) := by
  obtain ⟨T, nn, Z, hV⟩ := vlP
  obtain ⟨vl, vs, va, vb⟩ := hV.ops
  have g1 := hV.agg; have g2 := hV.size; have g3 := hV.zero
  obtain ⟨T2, n2, Z2, fs2, ps2, hF⟩ := Dc.vlF
  obtain ⟨ul, us, ub, ua, ue⟩ := hF.ops
  have ux : ∀ x, Op.box 40 x = Op.box T2 x := by rw [hF.v.t]; exact fun _ => rfl
  have e1 := hF.agg; have e2 := hF.size
  have hb := do_build E x
  have hmf : ∀ (fn : Fn) (first cap : Array Value) (w : World), (Instr.makeFunc fn first cap).run Tryz.prog w = .ok (.func fn first cap) w := fun _ _ _ _ => rfl
  obtain ⟨I, hI⟩ : ∃ I, I = Dc.insV x := ⟨_, rfl⟩
  have hIx : (w.alloc (.cells I T2)).heap[w.heap.size]? = some (.cells I T2 (0, 0)) := (MapKept.heap_alloc w _).1
  have hIs : I.size = n2 := by rw [hI]; exact hF.v.cells x
  rw [← hI] at hb ⊢
  obtain ⟨X, hX⟩ : ∃ X, X = w.heap.size := ⟨_, rfl⟩
  obtain ⟨W0, hW0⟩ : ∃ W, W = (w.alloc (.cells I T2)).alloc (.cells #[.int .i64 0, .int .i64 0, .int .u32 0, .int .i64 0, .bool false] 56) := ⟨_, rfl⟩
  have kA := Kp.alloc noB w (.cells I T2)
  have kB := Kp.alloc noB (w.alloc (.cells I T2)) (.cells #[.int .i64 0, .int .i64 0, .int .u32 0, .int .i64 0, .bool false] 56)
  have s1 : (w.alloc (.cells I T2)).heap.size = X + 1 := by simp [hX]
  have rI : W0.heap[X]? = some (.cells I T2 (0, 0)) := by rw [hW0, hX]; exact (kB.block _ (by simp) id).trans hIx
  have rO : W0.heap[X + 1]? = some (.cells #[.int .i64 0, .int .i64 0, .int .u32 0, .int .i64 0, .bool false] 56 (0, 0)) := by
    have := (MapKept.heap_alloc (w.alloc (.cells I T2)) (.cells #[.int .i64 0, .int .i64 0, .int .u32 0, .int .i64 0, .bool false] 56)).1
    rw [s1] at this
    rw [hW0]
    exact this
  have k0 : Kp noB w W0 := by rw [hW0]; exact kA.trans kB
  have E0 := hE.kp0 k0
  have HX : Hid (X = w.heap.size) := hX
  have HF : Hid _ := hF
  have HV : Hid _ := hV
  have HI : Hid (I = Dc.insV x) := hI
  clear hF hV hI kA kB hIx s1
  go_enter Tryz.func13, Tryz.ntmps13
  simp only [vl, vs, va, ul, ux]
  go_wp2_with fail
  rw [← hW0, ← hX]
  refine Calls.mono (lacks_no W0 E V B cs E0) ?_; rintro e w2 ⟨rfl, hw⟩; subst hw
  clear hW0 hX
  have g4 := E0.get HV.out
  have wf := E0.2
  have g5 := HV.out.new wf w2
  have g6 : cs.size = nn := by rw [wf.s, HV.out.s]
  obtain ⟨W3, hW3⟩ : ∃ W, W = w2.alloc (.cells cs T) := ⟨_, rfl⟩
  obtain ⟨Y, hY⟩ : ∃ Y, Y = w2.heap.size := ⟨_, rfl⟩
  have kC := Kp.alloc noB w2 (.cells cs T)
  have pY : W3.heap[Y]? = some (.cells cs T (0, 0)) := by rw [hW3, hY]; exact (MapKept.heap_alloc w2 _).1
  rw [← hW3] at kC
  have E3 := E0.kp0 kC
  have rI3 := (kC.block X (Array.getElem?_eq_some_iff.1 rI).1 id).trans rI
  have rO3 := (kC.block (X + 1) (Array.getElem?_eq_some_iff.1 rO).1 id).trans rO
  have k3 := k0.trans kC
  have HL : Hid (∀ W, Kp noB W3 W → (loadCellsFrom ⟨X, 0, none⟩ 0 n2 #[]).run Tryz.prog W = .ok I W) := fun W k => by
    have := (k.block X (Array.getElem?_eq_some_iff.1 rI3).1 id).trans rI3
    rw [HI.out] at this ⊢
    exact HF.out.get this
  have HL0 : Hid ((loadCellsFrom ⟨X, 0, none⟩ 0 n2 #[]).run Tryz.prog W3.drew = .ok I W3.drew) := HL.out _ (Kp.refl noB W3).drew
  unfold Dc.insV at HI
  rw [HI.out] at HL HL0
  go_upto_region 4 with fail
  rw [← hW3, ← hY]
  have HY : Hid (Y < W3.heap.size ∧ X + 1 < Y + 1 ∧ w.heap.size ≤ Y) := ⟨(Array.getElem?_eq_some_iff.1 pY).1, by have := (Array.getElem?_eq_some_iff.1 rO).1; rw [hY]; omega, by rw [hY]; exact k0.size⟩
  clear hW3 hY g4 g5 rI rO kC E0 k0
  go_region_held3 (fun W => (loadCellsFrom ⟨X, 0, none⟩ 0 n2 #[]).run Tryz.prog W = .ok #[.int .i64 x.op, .int .i64 x.sub, .int .i64 x.size,  .int .i64 x.a.kind, .int .i64 x.a.reg, .int .i64 x.a.size, .int .i64 x.a.seg, .int .i64 x.a.base, .int .i64 x.a.index, .int .i64 x.a.scale, .int .u32 x.a.disp, .int .u32 x.a.imm,  .int .i64 x.b.kind, .int .i64 x.b.reg, .int .i64 x.b.size, .int .i64 x.b.seg, .int .i64 x.b.base, .int .i64 x.b.index, .int .i64 x.b.scale, .int .u32 x.b.disp, .int .u32 x.b.imm,  .int .i64 x.c.kind, .int .i64 x.c.reg, .int .i64 x.c.size, .int .i64 x.c.seg, .int .i64 x.c.base, .int .i64 x.c.index, .int .i64 x.c.scale, .int .u32 x.c.disp, .int .u32 x.c.imm,  .int .i64 x.rep, .int .i64 x.len] W) (first | with_reducible exact HL0.out | exact HL.out _ (unDrew k5) | exact HL.out _ ((unDrew k5).trans (Kp.alloc noB _ _))) (first | (go_at_call 33; refine Calls.mono (none_any _) ?_; rintro e w5 ⟨rfl, k5⟩))
  obtain ⟨D, hD⟩ : ∃ D, D = w5.heap.size := ⟨_, rfl⟩
  obtain ⟨W6, hW6⟩ : ∃ W, W = w5.alloc (.cells (dC E x 0 (-1) false) 113) := ⟨_, rfl⟩
  have d6 : DAt W6 D E x 0 (-1) false := by rw [hW6, hD]; exact (MapKept.heap_alloc w5 _).1
  have k6 : Kp noB W3 W6 := by rw [hW6]; exact (unDrew k5).trans (Kp.alloc noB _ _)
  have o6 : OcAt W6 (X + 1) ⟨0, 0, 0⟩ 0 false := OcAt.kp rO3 k6 id
  have hlt : w.heap.size ≤ D ∧ D < W6.heap.size ∧ X + 1 < D := ⟨by rw [hD]; exact Nat.le_trans k3.size (unDrew k5).size, d6.lt, by
    have := o6.lt
    have h1 := (unDrew k5).size
    have h2 := (Array.getElem?_eq_some_iff.1 rO3).1
    rw [hD]; omega⟩
  have kW : Hid (Kp noB W3 W6) := k6
  replace k6 := k3.trans k6
  have HC : Hid (Calls Tryz.prog 34 #[.func (.func 35) #[.pointer (some ⟨D, 0, none⟩)] #[]] W6 fun e w' => e = .returned f.val ∧ Kp (fun j => j = D ∨ S j) W6 w' ∧ P w' ∧ ∃ c, EAt w' E c (.pointer (some ⟨V, 0, none⟩)) (.pointer (some ⟨B, 0, none⟩))) := by
    have eE := (E3.kp0 (unDrew k5)).lt
    have eE6 : E < W6.heap.size := Nat.lt_of_lt_of_le eE (by rw [hW6, World.size_alloc]; omega)
    refine xfaultOf_no W6 _ _ f (fun j => j = D ∨ S j) (fun w' => P w' ∧ ∃ c, EAt w' E c (.pointer (some ⟨V, 0, none⟩)) (.pointer (some ⟨B, 0, none⟩))) (fun j hj => ?_) (fun W W' p k => ⟨hP _ _ p.1 (k.mono (fun j _ g => .inr (Nat.le_trans k6.size g))), p.2.imp fun a d => EAt.kp d k (by omega)⟩) (fun W => by kernel_rfl) (fun W kW => ?_)
    · rcases hj with e | e
      · rw [e]; exact hlt.2.1
      · exact Nat.lt_of_lt_of_le (hS j e) k6.size
    · exact H.out W D (k6.trans kW) hlt.1 (Nat.lt_of_lt_of_le hlt.2.1 kW.size) (d6.kp0 kW)
  unfold dC ptr at hW6
  have hsz : W6.heap.size = D + 1 := by rw [hW6, hD]; simp
  have HA : Hid (w5.alloc _ = W6) := hW6.symm
  have HD : Hid (D = w5.heap.size) := hD
  clear hW6 hD hb HL HL0 g3 e1 e2 hIs rI3 rO3
  go_wp2_with fail
  rw [HA.out, ← HD.out]
  refine Calls.mono HC.out ?_; rintro e w7 ⟨rfl, k7, p7, c7, d7⟩
  have e0 : f.val = .agg #[.int .i64 f.vec, .int .i64 f.code, .int .u32 f.cr2] := rfl
  rw [e0]
  have pY7 : w7.heap[Y]? = some (.cells cs T (0, 0)) := by
    have hy3 := (Array.getElem?_eq_some_iff.1 pY).1
    have hYD : Y < D := by have := HD.out; have := (unDrew k5).size; omega
    have hYX := HY.out
    refine (k7.block Y (by omega) ?_).trans ((kW.out.block Y hy3 id).trans pY)
    rintro (g | g)
    · omega
    · have := hS _ g; have := k3.size; omega
  have kF := Kp.alloc noB w7 (.cells #[.int .i64 f.vec, .int .i64 f.code, .int .u32 f.cr2] 36)
  obtain ⟨W8, hW8⟩ : ∃ W, W = w7.alloc (.cells #[.int .i64 f.vec, .int .i64 f.code, .int .u32 f.cr2] 36) := ⟨_, rfl⟩
  obtain ⟨F, hF8⟩ : ∃ F, F = w7.heap.size := ⟨_, rfl⟩
  have rF : RowT W8 F f := by rw [hW8, hF8]; exact (MapKept.heap_alloc w7 _).1
  have nO : ¬ (X + 1 = D ∨ S (X + 1)) := by
    have := HX.out
    rintro (g | g)
    · omega
    · have := hS _ g; omega
  have o7 := (o6.kp k7 nO)
  have hFX : X + 1 < F := by rw [hF8]; exact o7.lt
  rw [← hW8] at kF
  have o8 := o7.kp kF id
  have d8 := EAt.kp0 d7 kF
  have pY8 := (kF.block Y (Array.getElem?_eq_some_iff.1 pY7).1 id).trans pY7
  have k8 : Kp (fun j => j = D ∨ S j) w W8 := (k6.mono (fun _ _ f => f.elim)).trans (k7.trans (kF.mono (fun _ _ f => f.elim)))
  have p8 : P W8 := hP _ _ p7 (kF.mono (fun _ _ f => f.elim))
  have HS8 : Hid (W8.drew.cell? ⟨F, 0, none⟩ = some (.int .i64 f.vec) ∧ W8.drew.cell? ⟨F, 1, none⟩ = some (.int .i64 f.code) ∧ W8.drew.cell? ⟨F, 2, none⟩ = some (.int .u32 f.cr2)) := ⟨rF.c0, rF.c1, rF.c2⟩
  have HR8 : Hid (∀ W, Kp noB W8 W → W.cell? ⟨F, 0, none⟩ = some (.int .i64 f.vec) ∧ W.cell? ⟨F, 1, none⟩ = some (.int .i64 f.code) ∧ W.cell? ⟨F, 2, none⟩ = some (.int .u32 f.cr2)) := fun W k => ⟨(rF.kp k id).c0, (rF.kp k id).c1, (rF.kp k id).c2⟩
  have HRF : Hid (RowT W8 F f) := rF
  go_upto_region 6 with fail
  rw [← hW8, ← hF8]
  clear hW8 hF8 rF o7 d7 HC k6 k7 p7 o6 d6 pY7
  go_region_held3 (fun W => W.cell? ⟨F, 0, none⟩ = some (.int .i64 f.vec) ∧ W.cell? ⟨F, 1, none⟩ = some (.int .i64 f.code) ∧ W.cell? ⟨F, 2, none⟩ = some (.int .u32 f.cr2)) (first | with_reducible exact HS8.out | exact HR8.out _ (unDrew k9)) (first | (go_at_call 33; refine Calls.mono (none_any _) ?_; rintro e w9 ⟨rfl, k9⟩))
  have k9' := unDrew k9
  have o9 := o8.kp k9' id
  have d9 := EAt.kp0 d8 k9'
  have r9 := RowT.kp HRF.out k9' id
  have pY9 := (k9'.block Y (Array.getElem?_eq_some_iff.1 pY8).1 id).trans pY8
  have p9 := hP _ _ p8 (k9'.mono (fun _ _ f => f.elim))
  have kX := k8.trans (k9'.mono (fun _ _ f => f.elim))
  have gL : (loadCellsFrom ⟨Y, 0, none⟩ 0 nn #[]).run Tryz.prog w9 = .ok cs w9 := by
    rw [HV.out.t] at pY9
    exact HV.out.get ⟨pY9, wf⟩
  have gS := EAt.lay d9 wf
  have E10 := EAt.laid d9 wf
  have hne : E ≠ X + 1 ∧ E ≠ F := ⟨by have := HX.out; have := hE.lt; omega, by have := HX.out; have := hE.lt; omega⟩
  have kS := Kp.setRow (S := fun j => j = E) w9 rfl (cs ++ #[.pointer (some ⟨V, 0, none⟩), .pointer (some ⟨B, 0, none⟩)])
  have o10 := o9.kp kS (fun g => hne.1 g.symm)
  have r10 := RowT.kp r9 kS (fun g => hne.2 g.symm)
  have p10 := hP _ _ p9 (kS.mono (fun j _ g => .inl g))
  have k10 : Kp (fun j => j = D ∨ j = E ∨ S j) w (w9.setRow E (cs ++ #[.pointer (some ⟨V, 0, none⟩), .pointer (some ⟨B, 0, none⟩)])) := (kX.mono (fun j _ g => g.elim .inl (fun s => .inr (.inr s)))).over kS (fun j _ g => .inr (.inl g))
  obtain ⟨W10, hW10⟩ : ∃ W, W = w9.setRow E (cs ++ #[.pointer (some ⟨V, 0, none⟩), .pointer (some ⟨B, 0, none⟩)]) := ⟨_, rfl⟩
  rw [← hW10] at gS E10 kS o10 r10 p10 k10
  clear hW10 d9 o9 r9 p9 kX pY9 k9 k9' o8 d8 pY8 p8 k8 HS8 HR8 HRF nO pY kS
  obtain ⟨u0, u1, u2, u3, u4⟩ := o10.c
  have z0 := o10.fz 0; have z1 := o10.fz 1; have z2 := o10.fz 2; have z3 := o10.fz 3; have z4 := o10.fz 4
  have x0 := r10.c0; have x1 := r10.c1; have x2 := r10.c2
  have oZ := o10.set f (-1) false
  have kZ := kp_setOc W10 (X + 1) f (-1) false
  have pZ := hP _ _ p10 (kZ.mono (fun j _ e => .inr (by have := HX.out; omega)))
  have EZ := EAt.kp E10 kZ hne.1
  have kQ : Kp (fun j => j = E ∨ S j) w (setOc W10 (X + 1) f (-1) false) := ⟨kZ.os.trans k10.os, kZ.tape.trans k10.tape, kZ.output.trans k10.output, Nat.le_trans k10.size kZ.size, fun i hi hs => (kZ.block i (Nat.lt_of_lt_of_le hi k10.size) (by have := HX.out; show ¬ i = X + 1; omega)).trans (k10.block i hi (by rintro (g | g | g); omega; exact hs (.inl g); exact hs (.inr g)))⟩
  obtain ⟨y0, y1, y2, y3, y4⟩ := oZ.c
  unfold setOc at y0 y1 y2 y3 y4 pZ kQ EZ
  clear oZ kZ p10 k10 r10 o10 E10
  have HZ : Hid _ := And.intro kQ (And.intro pZ EZ)
  clear kQ pZ EZ
  go_wp2
  refine bodyPost_ret (v := .agg #[.int .i64 f.vec, .int .i64 f.code, .int .u32 f.cr2, .int .i64 (-1), .bool false]) (by simp [results, Tryz.results13, go_sem, y0, y1, y2, y3, y4]) rfl ⟨rfl, HZ.out⟩
end Go.Proofs.YtiagfmkinefidaaGreat.Rm
namespace Go.Proofs.YtiagfmkinefidaaGreat.Rm
open Go.ChangeShapes Go.WideShapes Go.ChangeAt Go.RowKit Go.Maps
set_option linter.unusedVariables false
set_option maxRecDepth 20000
def startC (cs : Array Value) (ip len : Int) : Array Value := (cs.setIfInBounds 8 (.int .u32 ((ip + len) % 4294967296))).setIfInBounds 80 (.bool false)
theorem all_any (w : World) (D E : Nat) (x : Dc.Ins) (a0 so : Int) (ir : Bool) (cs : Array Value) (pm pb : Value) (hD : DAt w D E x a0 so ir) (hE : EAt w E cs pm pb) (DE : D ≠ E) (ip : Int) (h8 : cs[8]? = some (.int .u32 ip)) (sh : Value) (h80 : cs[80]? = some sh) (ip0 : 0 ≤ ip) (ip1 : ip < 4294967296) (l0 : 0 ≤ x.len) (l1 : x.len < 16) (n : Nat)
    (hr : Hid (∀ W, Calls Tryz.prog 67 #[.int .i64 x.op] W fun e w' => e = .returned (.func (.func n) #[] #[]) ∧ Kp noB W w')) (hcall : ∀ a W, (callFunc n #[a]).run Tryz.prog W = .ok (.enter n #[a]) W) (Q : Ending → World → Prop) (hQ : Hid (∀ e w', Q e w' → e = .returned (.tuple #[]) ∨ ∃ p, e = .panicked p))
    (H : Hid (∀ W, DAt W D E x ip so ir → EAt W E (startC cs ip x.len) pm pb → Kp (inE D E) w W → Calls Tryz.prog n #[.pointer (some ⟨D, 0, none⟩)] W Q)) :
    Calls Tryz.prog 35 #[.pointer (some ⟨D, 0, none⟩)] w Q := by
  have heq : ∀ w, (binOp .eql 168 (.func (.func n) #[] #[]) .nilFunc).run Tryz.prog w = .ok (.bool false) w := fun w => by kernel_rfl
  have c2 : w.cell? ⟨D, 2, none⟩ = some (.int .i64 x.op) := hD.c rfl
  have HD : Hid (DAt w D E x a0 so ir) := hD
  have HE : Hid (EAt w E cs pm pb) := hE
  clear hD hE
  go_enter Tryz.func35, Tryz.ntmps35
  go_wp2_with fail
  refine Calls.mono (hr.out w) ?_; rintro e w1 ⟨rfl, k1⟩
  have D1 := HD.out.kp0 k1
  have E1 := HE.out.kp0 k1
  clear c2
  have b1 : w1.cell? ⟨D, 1, none⟩ = some (.pointer (some ⟨E, 0, none⟩)) := D1.c rfl
  have b33 : w1.cell? ⟨D, 33, none⟩ = some (.int .i64 x.len) := D1.c rfl
  have b34 : w1.cell? ⟨D, 34, none⟩ = some (.int .u32 a0) := D1.c rfl
  have f34 := D1.fz 34
  have e8 := E1.cell h8
  have f8 := E1.fz 8
  have e80 := E1.cell h80
  have f80 := E1.fz 80
  have hx : IntKind.u32.wrap x.len = x.len := by simp only [IntKind.wrap, IntKind.bits, IntKind.signed]; simp; omega
  have D2 := D1.setAt ip
  have kD : Kp (inE D E) w1 (w1.setCell ⟨D, 34, none⟩ (.int .u32 ip)) := Kp.setCell _ (.inl rfl) _
  have E2 := E1.kp (Kp.setCell (S := fun j => j = D) w1 (p := ⟨D, 34, none⟩) rfl (.int .u32 ip)) (fun f => DE f.symm)
  go_wp2_with fail
  obtain ⟨W2, hW2⟩ : ∃ W, W = w1.setCell ⟨D, 34, none⟩ (.int .u32 ip) := ⟨_, rfl⟩
  rw [← hW2] at D2 E2 kD ⊢
  have K2 : Kp (inE D E) w W2 := (k1.mono (fun _ _ f => f.elim)).trans kD
  clear hW2 b1 b33 b34 f34 e8 f8 e80 f80 D1 E1 k1 kD
  have b1 : W2.cell? ⟨D, 1, none⟩ = some (.pointer (some ⟨E, 0, none⟩)) := D2.c rfl
  have b33 : W2.cell? ⟨D, 33, none⟩ = some (.int .i64 x.len) := D2.c rfl
  have e8 := E2.cell h8
  have f8 := E2.fz 8
  have hs : IntKind.u32.wrap (ip + x.len) = (ip + x.len) % 4294967296 := by simp [IntKind.wrap, IntKind.bits, IntKind.signed]
  have E3 : EAt (W2.setCell ⟨E, 8, none⟩ (.int .u32 ((ip + x.len) % 4294967296))).drew E (cs.setIfInBounds 8 (.int .u32 ((ip + x.len) % 4294967296))) pm pb := (E2.set (k := 8) (by decide) (v := .int .u32 ((ip + x.len) % 4294967296)) rfl).kp0 (Kp.refl noB _).drew
  have D3 : DAt (W2.setCell ⟨E, 8, none⟩ (.int .u32 ((ip + x.len) % 4294967296))).drew D E x ip so ir := (DAt.kp D2 (Kp.setCell (S := fun j => j = E) W2 (p := ⟨E, 8, none⟩) rfl (.int .u32 ((ip + x.len) % 4294967296))) DE).kp0 (Kp.refl noB _).drew
  have K3 : Kp (inE D E) w (W2.setCell ⟨E, 8, none⟩ (.int .u32 ((ip + x.len) % 4294967296))).drew := (K2.trans (Kp.setCell _ (.inr rfl) _)).drew
  go_region
  obtain ⟨W3, hW3⟩ : ∃ W, W = (W2.setCell ⟨E, 8, none⟩ (.int .u32 ((ip + x.len) % 4294967296))).drew := ⟨_, rfl⟩
  rw [← hW3] at D3 E3 K3 ⊢
  clear hW3 b1 b33 e8 f8 K2
  have b1 : W3.cell? ⟨D, 1, none⟩ = some (.pointer (some ⟨E, 0, none⟩)) := D3.c rfl
  have e80 := E3.cell (k := 80) (v := sh) (by rw [Array.getElem?_setIfInBounds_ne (by decide)]; exact h80)
  have f80 := E3.fz 80
  have E4 := E3.set (k := 80) (by decide) (v := .bool false) rfl
  have D4 := DAt.kp D3 (Kp.setCell (S := fun j => j = E) W3 (p := ⟨E, 80, none⟩) rfl (.bool false)) DE
  have HC : Hid _ := H.out _ D4 E4 (K3.trans (Kp.setCell _ (.inr rfl) _))
  clear E4 D4 K3 E3 D3 D2 E2
  go_wp2_with fail
  refine Calls.mono HC.out ?_; rintro e w5 hq
  have HQ : Hid _ := hq
  rcases hQ.out _ _ hq with rfl | ⟨p, rfl⟩
  · clear hq
    go_wp2
    go_end0
    exact HQ.out
  · exact ⟨rfl, HQ.out⟩
end Go.Proofs.YtiagfmkinefidaaGreat.Rm
