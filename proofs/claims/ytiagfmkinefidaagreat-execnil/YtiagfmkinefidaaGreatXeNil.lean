/- Execution: what is asked of no environment, or of one that lacks a memory or a bus, is refused. -/
import Derived.Test.YtiagfmkinefidaaGreatEx14
namespace Go.Proofs.YtiagfmkinefidaaGreat.Rm
open Go.ChangeShapes Go.WideShapes Go.ChangeAt Go.RowKit Go.Maps
set_option linter.unusedVariables false
set_option maxRecDepth 20000

theorem nlacks_nil (w : World) : Calls Tryz.prog 31 #[.pointer none] w fun e w' => e = .returned (.bool true) ∧ w' = w := by
  go_enter Tryz.func31, Tryz.ntmps31
  go_wp2
  go_ret
  exact ⟨rfl, rfl⟩
theorem nlacks_mem (w : World) (E : Nat) (cs : Array Value) (bp : Value) (h : EAt w E cs (.pointer none) bp) : Calls Tryz.prog 31 #[.pointer (some ⟨E, 0, none⟩)] w fun e w' => e = .returned (.bool true) ∧ w' = w := by
  have a := h.mp
  go_enter Tryz.func31, Tryz.ntmps31
  go_wp2
  go_ret
  exact ⟨rfl, rfl⟩
theorem nlacks_bus (w : World) (E V : Nat) (cs : Array Value) (h : EAt w E cs (.pointer (some ⟨V, 0, none⟩)) (.pointer none)) : Calls Tryz.prog 31 #[.pointer (some ⟨E, 0, none⟩)] w fun e w' => e = .returned (.bool true) ∧ w' = w := by
  have a := h.mp
  have b := h.bp
  go_enter Tryz.func31, Tryz.ntmps31
  go_wp2
  go_ret
  exact ⟨rfl, rfl⟩

def Lacks (w : World) (p : Option Addr) : Prop := ∀ W, Kp noB w W → Calls Tryz.prog 31 #[.pointer p] W fun e w' => e = .returned (.bool true) ∧ w' = W

theorem load_lacks (w : World) (p : Option Addr) (H : Hid (Lacks w p)) (a b : Int) : Calls Tryz.prog 15 #[.pointer p, .int .i64 a, .int .u16 b] w fun e w' => e = .returned (.agg #[.int .i64 13, .int .i64 0, .int .u32 0]) ∧ Kp noB w w' := by
  go_enter Tryz.func15, Tryz.ntmps15
  go_wp2_with fail
  obtain ⟨X, hX⟩ : ∃ X, w.heap.size + 1 + 1 + 1 = X := ⟨_, rfl⟩
  obtain ⟨W0, hW0⟩ : ∃ W, W = ((((w.alloc (.cells #[.pointer p] 51)).alloc (.cells #[.int .i64 a] 3)).alloc (.cells #[.int .u16 b] 25)).alloc (.cells #[.int .i64 0, .int .i64 0, .int .u32 0] 36)) := ⟨_, rfl⟩
  have k0 : Kp noB w W0 := by rw [hW0]; exact ((((Kp.alloc noB w _).trans (Kp.alloc noB _ _)).trans (Kp.alloc noB _ _)).trans (Kp.alloc noB _ _))
  have rX : RowT W0 X ⟨0, 0, 0⟩ := by
    have := (MapKept.heap_alloc (((w.alloc (.cells #[.pointer p] 51)).alloc (.cells #[.int .i64 a] 3)).alloc (.cells #[.int .u16 b] 25)) (.cells #[.int .i64 0, .int .i64 0, .int .u32 0] 36)).1
    simp only [World.size_alloc, hX] at this
    rw [hW0]
    exact this
  rw [← hW0, hX]
  refine Calls.mono (H.out W0 k0) ?_; rintro e w2 ⟨rfl, hw⟩; subst hw
  have hlt : w.heap.size ≤ X := by omega
  clear hW0 hX H
  go_wp2_with fail
  refine Calls.mono (prot_any _) ?_; rintro e w3 ⟨rfl, k3⟩
  have r2 := rX.kp (S := noB) k3 (fun f => f)
  have f0 := r2.fz 0; have f1 := r2.fz 1; have f2 := r2.fz 2
  have r3 := r2.set ⟨13, 0, 0⟩
  have kq : Kp noB w (setFt w3 X ⟨13, 0, 0⟩) := ((((k0.trans k3).own' (i := 0) hlt _).own' (i := 1) hlt _).own' (i := 2) hlt _)
  have d0 := r3.c0; have d1 := r3.c1; have d2 := r3.c2
  have c0 := r2.c0; have c1 := r2.c1; have c2 := r2.c2
  unfold setFt at d0 d1 d2 kq
  simp only at d0 d1 d2 kq
  clear r2 r3 rX k0 k3
  go_wp2
  refine bodyPost_ret (v := .agg #[.int .i64 13, .int .i64 0, .int .u32 0]) (by simp [results, Tryz.results15, go_sem, d0, d1, d2]) rfl ⟨rfl, kq⟩

def dsZ : Array Value := #[.int .u32 0, .int .u32 0, .int .i64 0, .bool false, .int .i64 0, .bool false, .bool false]
def setDs (w : World) (b : Nat) : World := ((((((w.setCell ⟨b, 0, none⟩ (.int .u32 0)).setCell ⟨b, 1, none⟩ (.int .u32 0)).setCell ⟨b, 2, none⟩ (.int .i64 0)).setCell ⟨b, 3, none⟩ (.bool false)).setCell ⟨b, 4, none⟩ (.int .i64 0)).setCell ⟨b, 5, none⟩ (.bool false)).setCell ⟨b, 6, none⟩ (.bool false)
def DsAt (w : World) (b : Nat) : Prop := w.heap[b]? = some (.cells dsZ 27 (0, 0))
theorem DsAt.set {w : World} {b : Nat} (h : DsAt w b) : DsAt (setDs w b) b := heap_setCell_at (heap_setCell_at (heap_setCell_at (heap_setCell_at (heap_setCell_at (heap_setCell_at (heap_setCell_at h _) _) _) _) _) _) _
theorem DsAt.c {w : World} {q : Nat} (h : DsAt w q) : w.cell? ⟨q, 0, none⟩ = some (.int .u32 0) ∧ w.cell? ⟨q, 1, none⟩ = some (.int .u32 0) ∧ w.cell? ⟨q, 2, none⟩ = some (.int .i64 0) ∧ w.cell? ⟨q, 3, none⟩ = some (.bool false) ∧ w.cell? ⟨q, 4, none⟩ = some (.int .i64 0) ∧ w.cell? ⟨q, 5, none⟩ = some (.bool false) ∧ w.cell? ⟨q, 6, none⟩ = some (.bool false) := by
  unfold DsAt at h
  simp only [cell_at h]
  exact ⟨rfl, rfl, rfl, rfl, rfl, rfl, rfl⟩
theorem DsAt.fz {w : World} {q : Nat} (h : DsAt w q) (j : Nat) : w.frozen? ⟨q, j, none⟩ = false := frozen_at h
theorem kp_setDs (w : World) (q : Nat) : Kp (fun j => j = q) w (setDs w q) := by
  have k : ∀ (W : World) (o : Nat) (v : Value), Kp (fun j => j = q) W (W.setCell ⟨q, o, none⟩ v) := fun W o v => Kp.setCell (S := fun j => j = q) W (p := ⟨q, o, none⟩) rfl v
  exact ((((((k _ _ _).trans (k _ _ _)).trans (k _ _ _)).trans (k _ _ _)).trans (k _ _ _)).trans (k _ _ _)).trans (k _ _ _)
set_option maxHeartbeats 4000000 in
theorem find_lacks (w : World) (p : Option Addr) (H : Hid (Lacks w p)) (b : Int) : Calls Tryz.prog 14 #[.pointer p, .int .u16 b] w fun e w' => e = .returned (.tuple #[.agg dsZ, .agg #[.int .i64 13, .int .i64 0, .int .u32 0]]) ∧ Kp noB w w' := by
  go_enter Tryz.func14, Tryz.ntmps14
  go_wp2_with fail
  obtain ⟨W0, hW0⟩ : ∃ W, W = ((w.alloc (.cells #[.pointer p] 51)).alloc (.cells #[.int .u16 b] 25)) := ⟨_, rfl⟩
  obtain ⟨X, hX⟩ : ∃ X, w.heap.size + 1 + 1 = X := ⟨_, rfl⟩
  have k0 : Kp noB w W0 := by rw [hW0]; exact (Kp.alloc noB w _).trans (Kp.alloc noB _ _)
  have hs0 : W0.heap.size = X := by rw [hW0, ← hX]; simp
  obtain ⟨W1, hW1⟩ : ∃ W, W = W0.alloc (.cells #[.int .u32 0, .int .u32 0, .int .i64 0, .bool false, .int .i64 0, .bool false, .bool false] 27) := ⟨_, rfl⟩
  have rD : W1.heap[X]? = some (.cells dsZ 27 (0, 0)) := by rw [hW1, ← hs0]; exact (MapKept.heap_alloc W0 _).1
  have k1 : Kp noB W0 W1 := by rw [hW1]; exact Kp.alloc noB _ _
  have hs1 : W1.heap.size = X + 1 := by rw [hW1, World.size_alloc, hs0]
  obtain ⟨W2, hW2⟩ : ∃ W, W = W1.alloc (.cells #[.int .i64 0, .int .i64 0, .int .u32 0] 36) := ⟨_, rfl⟩
  have rX : RowT W2 (X + 1) ⟨0, 0, 0⟩ := by rw [hW2, ← hs1]; exact (MapKept.heap_alloc W1 _).1
  have k2 : Kp noB W1 W2 := by rw [hW2]; exact Kp.alloc noB _ _
  have rD2 := (k2.block X (by omega) id).trans rD
  have kk := (k0.trans k1).trans k2
  rw [← hW0, ← hW1, ← hW2, hX]
  refine Calls.mono (H.out W2 kk) ?_; rintro e w2 ⟨rfl, hw⟩; subst hw
  clear hW0 hW1 hW2 k0 k1 k2 rD hs0 hs1 H
  go_wp2_with fail
  refine Calls.mono (prot_any _) ?_; rintro e w3 ⟨rfl, k3⟩
  have D3 : DsAt w3 X := (k3.block X (Array.getElem?_eq_some_iff.1 rD2).1 id).trans rD2
  have r3 := rX.kp (S := noB) k3 (fun f => f)
  have k4 := kk.trans k3
  have kA := kp_setDs w3 X
  have kB := kp_setFt (setDs w3 X) (X + 1) ⟨13, 0, 0⟩
  have D4 := D3.set
  have r4 := r3.kp kA (by omega)
  have D5 : DsAt (setFt (setDs w3 X) (X + 1) ⟨13, 0, 0⟩) X := (kB.block X (Array.getElem?_eq_some_iff.1 D4).1 (by omega)).trans D4
  have r5 := r4.set ⟨13, 0, 0⟩
  obtain ⟨p0, p1, p2, p3, p4, p5, p6⟩ := D3.c
  have q0 := D3.fz 0; have q1 := D3.fz 1; have q2 := D3.fz 2; have q3 := D3.fz 3; have q4 := D3.fz 4; have q5 := D3.fz 5; have q6 := D3.fz 6
  have c0 := r4.c0; have c1 := r4.c1; have c2 := r4.c2
  have f0 := r4.fz 0; have f1 := r4.fz 1; have f2 := r4.fz 2
  obtain ⟨u0, u1, u2, u3, u4, u5, u6⟩ := D5.c
  have d0 := r5.c0; have d1 := r5.c1; have d2 := r5.c2
  have kQ : Kp noB w (setFt (setDs w3 X) (X + 1) ⟨13, 0, 0⟩) := ⟨kB.os.trans (kA.os.trans k4.os), kB.tape.trans (kA.tape.trans k4.tape), kB.output.trans (kA.output.trans k4.output), Nat.le_trans k4.size (Nat.le_trans kA.size kB.size), fun i hi hs => (kB.block i (Nat.lt_of_lt_of_le (Nat.lt_of_lt_of_le hi k4.size) kA.size) (by show ¬ i = X + 1; omega)).trans ((kA.block i (Nat.lt_of_lt_of_le hi k4.size) (by show ¬ i = X; omega)).trans (k4.block i hi (fun f => f.elim)))⟩
  unfold setFt setDs at u0 u1 u2 u3 u4 u5 u6 d0 d1 d2 kQ
  unfold setDs at c0 c1 c2 f0 f1 f2
  clear D3 D4 D5 r3 r4 r5 kA kB k4 k3 kk rX rD2 hX
  go_wp2
  refine bodyPost_ret (v := .tuple #[.agg dsZ, .agg #[.int .i64 13, .int .i64 0, .int .u32 0]]) (by simp [results, Tryz.results14, go_sem, dsZ, u0, u1, u2, u3, u4, u5, u6, d0, d1, d2]) rfl ⟨rfl, kQ⟩
set_option maxHeartbeats 16000000 in
theorem do_lacks (w : World) (p : Option Addr) (H : Hid (Lacks w p)) (x : Dc.Ins) : Calls Tryz.prog 13 #[.pointer p, .agg (Dc.insV x)] w fun e w' => e = .returned (.agg #[.int .i64 13, .int .i64 0, .int .u32 0, .int .i64 (-1), .bool false]) ∧ Kp noB w w' := by
  obtain ⟨T, nn, Z, hV⟩ := vlP
  obtain ⟨vl, vs, va, vb⟩ := hV.ops
  obtain ⟨T2, n2, Z2, fs2, ps2, hF⟩ := Dc.vlF
  obtain ⟨ul, us, ub, ua, ue⟩ := hF.ops
  have ux : ∀ x, Op.box 40 x = Op.box T2 x := by rw [hF.v.t]; exact fun _ => rfl
  have e1 := hF.agg; have e2 := hF.size
  obtain ⟨I, hI⟩ : ∃ I, I = Dc.insV x := ⟨_, rfl⟩
  have hIs : I.size = n2 := by rw [hI]; exact hF.v.cells x
  rw [← hI]
  obtain ⟨X, hX⟩ : ∃ X, X = w.heap.size := ⟨_, rfl⟩
  obtain ⟨W0, hW0⟩ : ∃ W, W = (w.alloc (.cells I T2)).alloc (.cells #[.int .i64 0, .int .i64 0, .int .u32 0, .int .i64 0, .bool false] 56) := ⟨_, rfl⟩
  have kA := Kp.alloc noB w (.cells I T2)
  have kB := Kp.alloc noB (w.alloc (.cells I T2)) (.cells #[.int .i64 0, .int .i64 0, .int .u32 0, .int .i64 0, .bool false] 56)
  have s1 : (w.alloc (.cells I T2)).heap.size = X + 1 := by simp [hX]
  have rO : W0.heap[X + 1]? = some (.cells #[.int .i64 0, .int .i64 0, .int .u32 0, .int .i64 0, .bool false] 56 (0, 0)) := by
    have := (MapKept.heap_alloc (w.alloc (.cells I T2)) (.cells #[.int .i64 0, .int .i64 0, .int .u32 0, .int .i64 0, .bool false] 56)).1
    rw [s1] at this
    rw [hW0]
    exact this
  have o0 : OcAt W0 (X + 1) ⟨0, 0, 0⟩ 0 false := rO
  have k0 : Kp noB w W0 := by rw [hW0]; exact kA.trans kB
  have HX : Hid (X = w.heap.size) := hX
  clear hF hV hI kA kB s1
  go_enter Tryz.func13, Tryz.ntmps13
  simp only [vl, vs, va, ul, ux]
  go_wp2_with fail
  rw [← hW0, ← hX]
  refine Calls.mono (H.out W0 k0) ?_; rintro e w2 ⟨rfl, hw⟩; subst hw
  clear hW0 hX
  go_wp2_with fail
  refine Calls.mono (prot_any _) ?_; rintro e w3 ⟨rfl, k3⟩
  have o3 := o0.kp k3 id
  have k4 := k0.trans k3
  have z0 := o3.fz 0; have z1 := o3.fz 1; have z2 := o3.fz 2; have z3 := o3.fz 3; have z4 := o3.fz 4
  obtain ⟨y0, y1, y2, y3, y4⟩ := o3.c
  have oZ := o3.set ⟨13, 0, 0⟩ (-1) false
  have kZ := kp_setOc w3 (X + 1) ⟨13, 0, 0⟩ (-1) false
  have hlt : w.heap.size ≤ X + 1 := by have := HX.out; omega
  have kQ : Kp noB w (setOc w3 (X + 1) ⟨13, 0, 0⟩ (-1) false) := ⟨kZ.os.trans k4.os, kZ.tape.trans k4.tape, kZ.output.trans k4.output, Nat.le_trans k4.size kZ.size, fun i hi hs => (kZ.block i (Nat.lt_of_lt_of_le hi k4.size) (by show ¬ i = X + 1; omega)).trans (k4.block i hi (fun f => f.elim))⟩
  obtain ⟨u0, u1, u2, u3, u4⟩ := oZ.c
  unfold setOc at u0 u1 u2 u3 u4 kQ
  clear oZ kZ k4 o3 o0 rO H k3 k0
  go_wp2
  refine bodyPost_ret (v := .agg #[.int .i64 13, .int .i64 0, .int .u32 0, .int .i64 (-1), .bool false]) (by simp [results, Tryz.results13, go_sem, u0, u1, u2, u3, u4]) rfl ⟨rfl, kQ⟩
end Go.Proofs.YtiagfmkinefidaaGreat.Rm
