/- Faults: what deep code panics with is told. -/
import Derived.Test.YtmmnnafjikilpaaVmWrite
namespace Go.Proofs.Ytmmnnafjikilpaa
open Go.ChangeShapes Go.WideShapes Go.ChangeAt Go.RowKit Go.Maps
set_option linter.unusedVariables false
set_option maxRecDepth 20000

def RowT (W : World) (X : Nat) (f : Ft) : Prop := W.heap[X]? = some (.cells #[.int .i64 f.vec, .int .i64 f.code, .int .u32 f.cr2] 25 (0, 0))
theorem RowT.lt {W : World} {X : Nat} {f : Ft} (r : RowT W X f) : X < W.heap.size := (Array.getElem?_eq_some_iff.1 r).1
theorem RowT.kp {S : Nat → Prop} {W W' : World} {X : Nat} {f : Ft} (r : RowT W X f) (k : Kp S W W') (hS : ¬ S X) : RowT W' X f := (k.block X r.lt hS).trans r
theorem RowT.c0 {W : World} {X : Nat} {f : Ft} (r : RowT W X f) : W.cell? ⟨X, 0, none⟩ = some (.int .i64 f.vec) := by rw [cell_at r]; rfl
theorem RowT.c1 {W : World} {X : Nat} {f : Ft} (r : RowT W X f) : W.cell? ⟨X, 1, none⟩ = some (.int .i64 f.code) := by rw [cell_at r]; rfl
theorem RowT.c2 {W : World} {X : Nat} {f : Ft} (r : RowT W X f) : W.cell? ⟨X, 2, none⟩ = some (.int .u32 f.cr2) := by rw [cell_at r]; rfl
theorem RowT.fz {W : World} {X : Nat} {f : Ft} (r : RowT W X f) (j : Nat) : W.frozen? ⟨X, j, none⟩ = false := frozen_at r
def setFt (W : World) (X : Nat) (f : Ft) : World := ((W.setCell ⟨X, 0, none⟩ (.int .i64 f.vec)).setCell ⟨X, 1, none⟩ (.int .i64 f.code)).setCell ⟨X, 2, none⟩ (.int .u32 f.cr2)
theorem RowT.set {W : World} {X : Nat} {f : Ft} (r : RowT W X f) (g : Ft) : RowT (setFt W X g) X g := heap_setCell_at (heap_setCell_at (heap_setCell_at r _) _) _
theorem kp_setFt (W : World) (X : Nat) (f : Ft) : Kp (fun j => j = X) W (setFt W X f) :=
  ((Kp.setCell (S := fun j => j = X) W (p := ⟨X, 0, none⟩) rfl _).trans (Kp.setCell (S := fun j => j = X) _ (p := ⟨X, 1, none⟩) rfl _)).trans (Kp.setCell (S := fun j => j = X) _ (p := ⟨X, 2, none⟩) rfl _)

theorem none_any (w : World) : Calls Try.prog 9 #[] w fun e w' => e = .returned (.agg #[.int .i64 (-1), .int .i64 (-1), .int .u32 0]) ∧ Kp noB w w' := by
  go_enter Try.func9, Try.ntmps9
  go_wp2
  refine bodyPost_ret (v := .agg #[.int .i64 (-1), .int .i64 (-1), .int .u32 0]) (by simp [results, Try.results9, go_sem]) rfl ⟨rfl, ?_⟩
  exact Kp.alloc noB w _

theorem catch_pan (X : Nat) (g f : Ft) (older : List PanicEntry) (w : World) (h : RowT w X g) :
    CallsD Try.prog 49 #[.pointer (some ⟨X, 0, none⟩)] (.panicking ({ v := .iface 25 f.val, recovered := false } :: older)) w fun e u' w' =>
      e = .returned (.tuple #[]) ∧ u' = .panicking ({ v := .iface 25 f.val, recovered := true } :: older) ∧ w' = setFt w X f := by
  have c0 := h.c0; have c1 := h.c1; have c2 := h.c2
  have f0 := h.fz 0; have f1 := h.fz 1; have f2 := h.fz 2
  unfold Ft.val setFt
  refine callsD_of_wpS Try.func49 rfl fun c₀ cs hu => ?_
  apply wpS_seq
  apply wpS_region
  simp [wpOpsS, go_sem, recoverD, hu, Try.ntmps49, Exit.thenS]
  obtain ⟨v, hv⟩ : ∃ v : Value, v = .agg #[.int .i64 f.vec, .int .i64 f.code, .int .u32 f.cr2] := ⟨_, rfl⟩
  rw [← hv]
  change Code.wpS _ _ _ { tmps := #[.pointer (some ⟨X, 0, none⟩), .iface 25 v, .iface 25 v, undef, undef, undef, undef], defers := [] } _ _
  refine wpS_of_wp ?_
  rw [hv]
  have hta : ∀ (x : Value) (w : World), (Instr.typeAssert (.iface 25 x) 20 25 false).run Try.prog w = .ok x w := fun _ _ => by kernel_rfl
  go_wp2
  simp [bodyPostS, results, Try.results49]

theorem catch_idle (X : Nat) (w : World) :
    CallsD Try.prog 49 #[.pointer (some ⟨X, 0, none⟩)] .returning w fun e u' w' => e = .returned (.tuple #[]) ∧ u' = .returning ∧ w' = w := by
  refine callsD_of_wpS Try.func49 rfl fun c₀ cs hu => ?_
  apply wpS_seq
  apply wpS_region
  simp [wpOpsS, go_sem, recoverD, hu, Try.ntmps49, Exit.thenS]
  change Code.wpS _ _ _ { tmps := #[.pointer (some ⟨X, 0, none⟩), .nilIface, .nilIface, undef, undef, undef, undef], defers := [] } _ _
  refine wpS_of_wp ?_
  go_wp2
  cases c₀
  simp_all [bodyPostS, results, Try.results49]

/-- What is done without a panic. -/
theorem faultOf_ok (w : World) (k : Nat) (cap : Array Value) (S : Nat → Prop) (P : World → Prop) (hS : ∀ j, S j → j < w.heap.size) (hP : ∀ W W', P W → Kp (fun j => w.heap.size ≤ j) W W' → P W')
    (hk : ∀ W, (callFunc k cap).run Try.prog W = .ok (.enter k cap) W)
    (H : Hid (∀ W, Kp noB w W → Calls Try.prog k cap W fun e w' => e = .returned (.tuple #[]) ∧ Kp S W w' ∧ P w')) :
    Calls Try.prog 31 #[.func (.func k) #[] cap] w fun e w' => e = .returned noFt.val ∧ Kp S w w' ∧ P w' := by
  have hmf : ∀ (fn : Fn) (first cap : Array Value) (w : World), (Instr.makeFunc fn first cap).run Try.prog w = .ok (.func fn first cap) w := fun _ _ _ _ => rfl
  obtain ⟨W0, hW0⟩ : ∃ W, W = w.alloc (.cells #[.int .i64 0, .int .i64 0, .int .u32 0] 25) := ⟨_, rfl⟩
  obtain ⟨X, hX⟩ : ∃ X, w.heap.size = X := ⟨_, rfl⟩
  have k0 : Kp noB w W0 := by rw [hW0]; exact Kp.alloc _ _ _
  have rX : RowT W0 X ⟨0, 0, 0⟩ := by rw [hW0, ← hX]; exact (MapKept.heap_alloc w _).1
  go_enter_defers Try.func31, Try.ntmps31
  go_wp2_with fail
  rw [← hW0]
  refine (none_any _).mono ?_; rintro e w2 ⟨rfl, k2⟩
  have r2 := rX.kp k2 (fun f => f)
  have c0 := r2.c0; have c1 := r2.c1; have c2 := r2.c2
  have f0 := r2.fz 0; have f1 := r2.fz 1; have f2 := r2.fz 2
  clear hW0
  go_wp2_with fail
  have k3 : Kp noB w (setFt w2 X noFt) := by
    have := k0.trans k2
    exact (((this.own' (i := 0) (by omega) _).own' (i := 1) (by omega) _).own' (i := 2) (by omega) _)
  have r3 := r2.set noFt
  change Calls Try.prog k cap (setFt w2 X noFt) _
  refine Calls.mono (H.out _ k3) ?_; rintro e w4 ⟨rfl, k4, p4⟩
  have nX : ¬ S X := fun f => by have := hS _ f; omega
  have r4 := r3.kp k4 nX
  clear c0 c1 c2 f0 f1 f2
  have c0 := r4.c0; have c1 := r4.c1; have c2 := r4.c2
  have f0 := r4.fz 0; have f1 := r4.fz 1; have f2 := r4.fz 2
  have r5 := r4.set noFt
  have p5 := hP _ _ p4 ((kp_setFt w4 X noFt).mono (fun j _ e => by omega))
  have k5 : Kp S w (setFt w4 X noFt) := ((k3.mono (fun _ _ f => f.elim)).trans k4).over (kp_setFt w4 X noFt) (fun j hj e => absurd hj (by omega))
  clear r2 r3 k2 k0 rX k3 k4 p4
  have e0 : noFt.vec = -1 := rfl
  have e1 : noFt.code = -1 := rfl
  have e2 : noFt.cr2 = 0 := rfl
  go_wp2
  refine leaves_cons (f := 49) (args := #[.pointer (some ⟨X, 0, none⟩)]) (by simp) (by simp [go_sem]) ?_
  refine (catch_idle X _).mono ?_
  rintro e u' w'' ⟨rfl, rfl, rfl⟩
  have d0 := r5.c0; have d1 := r5.c1; have d2 := r5.c2
  unfold setFt at d0 d1 d2 k5 p5
  simp only [e0, e1, e2] at d0 d1 d2 k5 p5
  simp [Leaves, settle, results, Try.results31, go_sem, d0, d1, d2]
  exact ⟨rfl, k5, p5⟩

/-- What is done ends in a panic. -/
theorem faultOf_no (w : World) (k : Nat) (cap : Array Value) (f : Ft) (S : Nat → Prop) (P : World → Prop) (hS : ∀ j, S j → j < w.heap.size) (hP : ∀ W W', P W → Kp (fun j => w.heap.size ≤ j) W W' → P W')
    (hk : ∀ W, (callFunc k cap).run Try.prog W = .ok (.enter k cap) W)
    (H : Hid (∀ W, Kp noB w W → Calls Try.prog k cap W fun e w' => e = .panicked (pan f) ∧ Kp S W w' ∧ P w')) :
    Calls Try.prog 31 #[.func (.func k) #[] cap] w fun e w' => e = .returned f.val ∧ Kp S w w' ∧ P w' := by
  have hmf : ∀ (fn : Fn) (first cap : Array Value) (w : World), (Instr.makeFunc fn first cap).run Try.prog w = .ok (.func fn first cap) w := fun _ _ _ _ => rfl
  obtain ⟨W0, hW0⟩ : ∃ W, W = w.alloc (.cells #[.int .i64 0, .int .i64 0, .int .u32 0] 25) := ⟨_, rfl⟩
  obtain ⟨X, hX⟩ : ∃ X, w.heap.size = X := ⟨_, rfl⟩
  have k0 : Kp noB w W0 := by rw [hW0]; exact Kp.alloc _ _ _
  have rX : RowT W0 X ⟨0, 0, 0⟩ := by rw [hW0, ← hX]; exact (MapKept.heap_alloc w _).1
  go_enter_defers Try.func31, Try.ntmps31
  go_wp2_with fail
  rw [← hW0]
  refine (none_any _).mono ?_; rintro e w2 ⟨rfl, k2⟩
  have r2 := rX.kp k2 (fun f => f)
  have c0 := r2.c0; have c1 := r2.c1; have c2 := r2.c2
  have f0 := r2.fz 0; have f1 := r2.fz 1; have f2 := r2.fz 2
  clear hW0
  go_wp2_with fail
  have k3 : Kp noB w (setFt w2 X noFt) := by
    have := k0.trans k2
    exact (((this.own' (i := 0) (by omega) _).own' (i := 1) (by omega) _).own' (i := 2) (by omega) _)
  have r3 := r2.set noFt
  change Calls Try.prog k cap (setFt w2 X noFt) _
  refine Calls.mono (H.out _ k3) ?_; rintro e w4 ⟨rfl, k4, p4⟩
  have nX : ¬ S X := fun f => by have := hS _ f; omega
  have r4 := r3.kp k4 nX
  have r5 := r4.set f
  have p5 := hP _ _ p4 ((kp_setFt w4 X f).mono (fun j _ e => by omega))
  have k5 : Kp S w (setFt w4 X f) := ((k3.mono (fun _ _ f => f.elim)).trans k4).over (kp_setFt w4 X f) (fun j hj e => absurd hj (by omega))
  refine leaves_cons (f := 49) (args := #[.pointer (some ⟨X, 0, none⟩)]) (by simp) (by simp [go_sem]) ?_
  refine (catch_pan X noFt f [] _ r4).mono ?_
  rintro e u' w'' ⟨rfl, rfl, rfl⟩
  have d0 := r5.c0; have d1 := r5.c1; have d2 := r5.c2
  simp [Leaves, settle, results, Try.results31, go_sem, d0, d1, d2]
  exact ⟨rfl, k5, p5⟩
end Go.Proofs.Ytmmnnafjikilpaa
