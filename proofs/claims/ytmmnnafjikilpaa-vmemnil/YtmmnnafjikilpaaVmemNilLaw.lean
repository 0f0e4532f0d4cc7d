/- The walk of the statement VmemNil: no memory, and no processor, are refused. -/
import Derived.Test.YtmmnnafjikilpaaVk
import Derived.Test.YtmmnnafjikilpaaVb
namespace Go.Proofs.Ytmmnnafjikilpaa
open Go.ChangeShapes Go.WideShapes Go.ChangeAt Go.RowKit Go.Maps
set_option linter.unusedVariables false
set_option maxRecDepth 20000

set_option maxHeartbeats 16000000 in
theorem VmemNil_walk (w : World) (cs : Array Value) (wf : WfC cs) (kd sg off z v : Int) (ho : OpOk kd sg off z v) :
    Calls Try.prog 6 #[.agg cs, .agg (op5 kd sg off z v)] w fun e w' => e = .returned (.bool true) ∧ Below w.heap.size w w' := by
  obtain ⟨T, n, Z, h⟩ := vlP
  obtain ⟨vl, vs, va, vb⟩ := h.ops
  have g1 := h.agg; have g2 := h.size; have g3 := h.zero
  have hsz : cs.size = n := by rw [wf.s, h.s]
  have HV : Hid (VlP T n Z) := h
  unfold op5
  go_enter Try.func6, Try.ntmps6
  simp only [vl, vs, va, vb] at *
  obtain ⟨W0, hW0⟩ : ∃ W, W = (w.alloc (.cells cs T)).alloc (.cells (op5 kd sg off z v) 40) := ⟨_, rfl⟩
  have k0 : Kp noB w W0 := by rw [hW0]; exact (Kp.alloc _ _ _).trans (Kp.alloc _ _ _)
  obtain ⟨X, hX⟩ : ∃ X, X = w.heap.size := ⟨_, rfl⟩
  have HX : Hid (X = w.heap.size) := hX
  have rO : RowO W0 (X + 1) kd sg off z v := by
    have := (MapKept.heap_alloc (w.alloc (.cells cs T)) (.cells (op5 kd sg off z v) 40)).1
    rw [show (w.alloc (.cells cs T)).heap.size = X + 1 by simp [hX]] at this
    rw [hW0]; exact this
  unfold op5 at hW0
  go_wp2_with fail
  rw [← hW0, ← hX]
  clear hW0 hX h wf hsz
  refine (vmAwake_any W0).mono ?_; rintro e w1 ⟨rfl, k1⟩
  replace rO := rO.kp k1 (fun f => f)
  have HXs : Hid (X = w.heap.size ∧ X + 1 < w1.heap.size) := ⟨HX.out, rO.lt⟩
  replace k1 := k0.trans k1
  clear k0
  go_wp2_with fail
  refine (vNew_nil w1 3).mono ?_; rintro e w' ⟨rfl, hw⟩; replace hw := hw.symm; subst hw
  have f13 : (ftV 13).val = .agg #[.int .i64 13, .int .i64 0, .int .u32 0] := rfl
  obtain ⟨c0, c1, c2, c3, c4⟩ := rO.all
  have cF := load_need (w1) none (some ⟨X, 0, none⟩) sg off z (needN _ _)
  rw [f13] at cF
  go_wp2_with fail
  refine cF.mono ?_; rintro e w2 ⟨rfl, k2⟩
  clear cF c0 c1 c2 c3 c4
  have HS2 : Hid _ := k2.size
  have kA := Kp.alloc noB w2 (.cells #[.int .i64 13, .int .i64 0, .int .u32 0] 25)
  have r2 : RowT (w2.alloc (.cells #[.int .i64 13, .int .i64 0, .int .u32 0] 25)) w2.heap.size (ftV 13) := (MapKept.heap_alloc w2 _).1
  replace rO := (rO.kp k2 (fun f => f)).kp kA (fun f => f)
  replace k1 := (k1.trans k2).trans kA
  clear k2 kA
  obtain ⟨c0, c1, c2, c3, c4⟩ := rO.all
  have cF := sys_need (w2.alloc (.cells #[.int .i64 13, .int .i64 0, .int .u32 0] 25)) none (some ⟨X, 0, none⟩) off z (needN _ _)
  rw [f13] at cF
  go_wp2_with fail
  refine cF.mono ?_; rintro e w3 ⟨rfl, k3⟩
  clear cF c0 c1 c2 c3 c4
  have HS3 : Hid _ := k3.size
  have kA := Kp.alloc noB w3 (.cells #[.int .i64 13, .int .i64 0, .int .u32 0] 25)
  have r3 : RowT (w3.alloc (.cells #[.int .i64 13, .int .i64 0, .int .u32 0] 25)) w3.heap.size (ftV 13) := (MapKept.heap_alloc w3 _).1
  replace rO := (rO.kp k3 (fun f => f)).kp kA (fun f => f)
  replace r2 := (r2.kp k3 (fun f => f)).kp kA (fun f => f)
  replace k1 := (k1.trans k3).trans kA
  clear k3 kA
  obtain ⟨c0, c1, c2, c3, c4⟩ := rO.all
  have cF := cde_need (w3.alloc (.cells #[.int .i64 13, .int .i64 0, .int .u32 0] 25)) none (some ⟨X, 0, none⟩) off (needN _ _)
  rw [f13] at cF
  go_wp2_with fail
  refine cF.mono ?_; rintro e w4 ⟨rfl, k4⟩
  clear cF c0 c1 c2 c3 c4
  have HS4 : Hid _ := k4.size
  have kA := Kp.alloc noB w4 (.cells #[.int .i64 13, .int .i64 0, .int .u32 0] 25)
  have r4 : RowT (w4.alloc (.cells #[.int .i64 13, .int .i64 0, .int .u32 0] 25)) w4.heap.size (ftV 13) := (MapKept.heap_alloc w4 _).1
  replace rO := (rO.kp k4 (fun f => f)).kp kA (fun f => f)
  replace r2 := (r2.kp k4 (fun f => f)).kp kA (fun f => f)
  replace r3 := (r3.kp k4 (fun f => f)).kp kA (fun f => f)
  replace k1 := (k1.trans k4).trans kA
  clear k4 kA
  obtain ⟨c0, c1, c2, c3, c4⟩ := rO.all
  go_wp2_with fail
  refine (vFlush_nil _).mono ?_; rintro e w' ⟨rfl, hw⟩; replace hw := hw.symm; subst hw
  go_wp2_with fail
  refine (vDrop_nil _ _).mono ?_; rintro e w' ⟨rfl, hw⟩; replace hw := hw.symm; subst hw
  clear c0 c1 c2 c3 c4
  have kB := Kp.alloc noB (w4.alloc (.cells #[.int .i64 13, .int .i64 0, .int .u32 0] 25)) (.cells #[.int .i64 13, .int .i64 0, .int .u32 0] 25)
  have r5 : RowT ((w4.alloc (.cells #[.int .i64 13, .int .i64 0, .int .u32 0] 25)).alloc (.cells #[.int .i64 13, .int .i64 0, .int .u32 0] 25)) (w4.alloc (.cells #[.int .i64 13, .int .i64 0, .int .u32 0] 25)).heap.size (ftV 13) := (MapKept.heap_alloc _ _).1
  replace rO := rO.kp kB (fun f => f)
  replace r2 := r2.kp kB (fun f => f)
  replace r3 := r3.kp kB (fun f => f)
  replace r4 := r4.kp kB (fun f => f)
  replace k1 := k1.trans kB
  clear kB
  obtain ⟨W5, hW5⟩ : ∃ W, W = (w4.alloc (.cells #[.int .i64 13, .int .i64 0, .int .u32 0] 25)).alloc (.cells #[.int .i64 13, .int .i64 0, .int .u32 0] 25) := ⟨_, rfl⟩
  obtain ⟨x2, h2⟩ : ∃ x, x = w2.heap.size := ⟨_, rfl⟩
  obtain ⟨x3, h3⟩ : ∃ x, x = w3.heap.size := ⟨_, rfl⟩
  obtain ⟨x4, h4⟩ : ∃ x, x = w4.heap.size := ⟨_, rfl⟩
  have h5 : (w4.alloc (.cells #[.int .i64 13, .int .i64 0, .int .u32 0] 25)).heap.size = x4 + 1 := by simp [h4]
  rw [h5] at r5
  have HX2 : Hid (w.heap.size ≤ x2 ∧ X + 1 ≠ x2 ∧ w.heap.size ≤ x3 ∧ X + 1 ≠ x3 ∧ w.heap.size ≤ x4 ∧ X + 1 ≠ x4) := by
    have q0 := HXs.out
    have q1 := HS2.out
    have q2 : w2.heap.size ≤ w3.heap.size := Nat.le_trans (by simp) HS3.out
    have q3 : w3.heap.size ≤ w4.heap.size := Nat.le_trans (by simp) HS4.out
    exact ⟨by omega, by omega, by omega, by omega, by omega, by omega⟩
  rw [← hW5] at rO r2 r3 r4 r5 k1
  rw [← h2] at r2
  rw [← h3] at r3
  rw [← h4] at r4
  have N0 : NlI w (X + 1) x2 x3 x4 (x4 + 1) kd sg off z v W5 := ⟨rO, r2, r3, r4, r5, k1⟩
  clear rO r2 r3 r4 r5 k1 h5
  go_upto_region 11 with fail
  rw [← hW5, ← h2, ← h3, ← h4]
  clear hW5 h2 h3 h4
  have HL : Hid (x2 < W5.heap.size ∧ x3 < W5.heap.size ∧ x4 < W5.heap.size) := ⟨N0.a.lt, N0.b.lt, N0.c.lt⟩
  have HC1 : Hid (∀ W, NlI w (X + 1) x2 x3 x4 (x4 + 1) kd sg off z v W → Calls Try.prog 12 #[.pointer none, .pointer (some ⟨X, 0, none⟩), .int .i64 sg, .int .u32 off, .int .i64 z] W fun e w' => e = .returned (.agg #[.int .i64 13, .int .i64 0, .int .u32 0]) ∧ NlI w (X + 1) x2 x3 x4 (x4 + 1) kd sg off z v w') := fun W h => (check_need W none _ sg off z (needN _ _)).mono fun e w' ⟨a, b⟩ => ⟨a, h.kp b⟩
  have HC2 : Hid (∀ W, NlI w (X + 1) x2 x3 x4 (x4 + 1) kd sg off z v W → Calls Try.prog 15 #[.pointer none, .pointer (some ⟨X, 0, none⟩), .int .i64 sg, .int .u32 off, .int .i64 z, .int .u32 1] W fun e w' => e = .returned (.agg #[.int .i64 13, .int .i64 0, .int .u32 0]) ∧ NlI w (X + 1) x2 x3 x4 (x4 + 1) kd sg off z v w') := fun W h => (store_need W none _ sg off z 1 (needN _ _)).mono fun e w' ⟨a, b⟩ => ⟨a, h.kp b⟩
  have HC3 : Hid (∀ W, NlI w (X + 1) x2 x3 x4 (x4 + 1) kd sg off z v W → Calls Try.prog 18 #[.pointer none, .pointer (some ⟨X, 0, none⟩), .int .u32 off, .int .i64 z, .int .u32 1] W fun e w' => e = .returned (.agg #[.int .i64 13, .int .i64 0, .int .u32 0]) ∧ NlI w (X + 1) x2 x3 x4 (x4 + 1) kd sg off z v w') := fun W h => (setSys_need W none _ off z 1 (needN _ _)).mono fun e w' ⟨a, b⟩ => ⟨a, h.kp b⟩
  have HN : Hid (NlI w (X + 1) x2 x3 x4 (x4 + 1) kd sg off z v W5) := N0
  have HD : Hid (NlI w (X + 1) x2 x3 x4 (x4 + 1) kd sg off z v { W5 with drawn := W5.drawn + 1 }) := N0.kp ((Kp.refl noB W5).drew)
  clear N0
  refine OrdG.region_vals (τ := Unit) (fun t => [(.int .u32 0), (.bool false), (.bool false), (.agg #[.int .i64 13, .int .i64 0, .int .u32 0]), (.agg #[.int .i64 13, .int .i64 0, .int .u32 0]), (.bool false), (.bool false), (.bool false), (.int .u32 0), (.bool false), (.bool false), (.bool false), (.agg #[.int .i64 13, .int .i64 0, .int .u32 0]), (.agg #[.int .i64 13, .int .i64 0, .int .u32 0]), (.bool false), (.bool false), (.bool false), (.int .u8 0), (.bool false), (.bool false), (.bool false), (.int .u32 0), (.bool false), (.bool false), (.bool false), (.agg #[.int .i64 13, .int .i64 0, .int .u32 0]), (.agg #[.int .i64 13, .int .i64 0, .int .u32 0]), (.bool false), (.bool false), (.bool false), (.pointer none), (.pointer (some ⟨X + 1, 1, none⟩)), (.int .i64 sg), (.pointer (some ⟨X + 1, 2, none⟩)), (.int .u32 off), (.pointer (some ⟨X + 1, 3, none⟩)), (.int .i64 z), (.agg #[.int .i64 13, .int .i64 0, .int .u32 0]), (.agg #[.int .i64 13, .int .i64 0, .int .u32 0]), (.bool false), (.bool false), (.bool false), (.pointer none), (.pointer (some ⟨X + 1, 1, none⟩)), (.int .i64 sg), (.pointer (some ⟨X + 1, 2, none⟩)), (.int .u32 off), (.pointer (some ⟨X + 1, 3, none⟩)), (.int .i64 z), (.agg #[.int .i64 13, .int .i64 0, .int .u32 0]), (.agg #[.int .i64 13, .int .i64 0, .int .u32 0]), (.bool false), (.bool false), (.bool false), (.pointer none), (.pointer (some ⟨X + 1, 2, none⟩)), (.int .u32 off), (.pointer (some ⟨X + 1, 3, none⟩)), (.int .i64 z), (.agg #[.int .i64 13, .int .i64 0, .int .u32 0]), (.agg #[.int .i64 13, .int .i64 0, .int .u32 0]), (.bool false), (.bool false)]) (fun t listed w' => NlI w (X + 1) x2 x3 x4 (x4 + 1) kd sg off z v w') () (by kernel_rfl) (by kernel_rfl) (by kernel_rfl) (by kernel_rfl) (fun _ => rfl) (fun t => by simp only [OrdG.puts, Act.put, List.setIfInBounds_toArray, List.set_cons_zero, List.set_cons_succ]; rfl) (fun _ => by kernel_rfl) HD.out ?_ ?_
  · refine ⟨?_, ?_, ?_, ?_, ?_, ?_, ?_, ?_, ?_, ?_, ?_, ?_, ?_, ?_, ?_, ?_, ?_, ?_, ?_, ?_, ?_, ?_, ?_, ?_, ?_, ?_, ?_, ?_, ?_, ?_, ?_, ?_, ?_, ?_, ?_, ?_, ?_, ?_, ?_, ?_, ?_, ?_, ?_, ?_, ?_, ?_, ?_, ?_, ?_, ?_, ?_, ?_, ?_, ?_, ?_, ?_, ?_, ?_, ?_, ?_, ?_, ?_, ?_, trivial⟩
    all_goals (intro t listed W' hz hSh hl hI hb KK hK hK0; change NlI w (X + 1) x2 x3 x4 (x4 + 1) kd sg off z v W' at hI)
    · go_simp
      exact hK0 _ hI
    · go_simp
      exact hK0 _ hI
    · go_simp
      exact hK0 _ hI
    · obtain ⟨c0, c1, c2, c3, c4⟩ := hI.o.all; obtain ⟨a0, a1, a2⟩ := hI.a.c13; obtain ⟨b0, b1, b2⟩ := hI.b.c13; obtain ⟨d0, d1, d2⟩ := hI.c.c13; obtain ⟨e0, e1, e2⟩ := hI.d.c13
      go_simp
      exact hK0 _ hI
    · obtain ⟨c0, c1, c2, c3, c4⟩ := hI.o.all; obtain ⟨a0, a1, a2⟩ := hI.a.c13; obtain ⟨b0, b1, b2⟩ := hI.b.c13; obtain ⟨d0, d1, d2⟩ := hI.c.c13; obtain ⟨e0, e1, e2⟩ := hI.d.c13
      go_simp
      exact hK0 _ hI
    · go_simp
      exact hK0 _ hI
    · go_simp
      exact hK0 _ hI
    · go_simp
      exact hK0 _ hI
    · go_simp
      exact hK0 _ hI
    · go_simp
      exact hK0 _ hI
    · go_simp
      exact hK0 _ hI
    · go_simp
      exact hK0 _ hI
    · obtain ⟨c0, c1, c2, c3, c4⟩ := hI.o.all; obtain ⟨a0, a1, a2⟩ := hI.a.c13; obtain ⟨b0, b1, b2⟩ := hI.b.c13; obtain ⟨d0, d1, d2⟩ := hI.c.c13; obtain ⟨e0, e1, e2⟩ := hI.d.c13
      go_simp
      exact hK0 _ hI
    · obtain ⟨c0, c1, c2, c3, c4⟩ := hI.o.all; obtain ⟨a0, a1, a2⟩ := hI.a.c13; obtain ⟨b0, b1, b2⟩ := hI.b.c13; obtain ⟨d0, d1, d2⟩ := hI.c.c13; obtain ⟨e0, e1, e2⟩ := hI.d.c13
      go_simp
      exact hK0 _ hI
    · go_simp
      exact hK0 _ hI
    · go_simp
      exact hK0 _ hI
    · go_simp
      exact hK0 _ hI
    · go_simp
      exact hK0 _ hI
    · go_simp
      exact hK0 _ hI
    · go_simp
      exact hK0 _ hI
    · go_simp
      exact hK0 _ hI
    · go_simp
      exact hK0 _ hI
    · go_simp
      exact hK0 _ hI
    · go_simp
      exact hK0 _ hI
    · go_simp
      exact hK0 _ hI
    · obtain ⟨c0, c1, c2, c3, c4⟩ := hI.o.all; obtain ⟨a0, a1, a2⟩ := hI.a.c13; obtain ⟨b0, b1, b2⟩ := hI.b.c13; obtain ⟨d0, d1, d2⟩ := hI.c.c13; obtain ⟨e0, e1, e2⟩ := hI.d.c13
      go_simp
      exact hK0 _ hI
    · obtain ⟨c0, c1, c2, c3, c4⟩ := hI.o.all; obtain ⟨a0, a1, a2⟩ := hI.a.c13; obtain ⟨b0, b1, b2⟩ := hI.b.c13; obtain ⟨d0, d1, d2⟩ := hI.c.c13; obtain ⟨e0, e1, e2⟩ := hI.d.c13
      go_simp
      exact hK0 _ hI
    · go_simp
      exact hK0 _ hI
    · go_simp
      exact hK0 _ hI
    · go_simp
      exact hK0 _ hI
    · go_simp
      exact hK0 _ hI
    · go_simp
      exact hK0 _ hI
    · obtain ⟨c0, c1, c2, c3, c4⟩ := hI.o.all; obtain ⟨a0, a1, a2⟩ := hI.a.c13; obtain ⟨b0, b1, b2⟩ := hI.b.c13; obtain ⟨d0, d1, d2⟩ := hI.c.c13; obtain ⟨e0, e1, e2⟩ := hI.d.c13
      go_simp
      exact hK0 _ hI
    · go_simp
      exact hK0 _ hI
    · obtain ⟨c0, c1, c2, c3, c4⟩ := hI.o.all; obtain ⟨a0, a1, a2⟩ := hI.a.c13; obtain ⟨b0, b1, b2⟩ := hI.b.c13; obtain ⟨d0, d1, d2⟩ := hI.c.c13; obtain ⟨e0, e1, e2⟩ := hI.d.c13
      go_simp
      exact hK0 _ hI
    · go_simp
      exact hK0 _ hI
    · obtain ⟨c0, c1, c2, c3, c4⟩ := hI.o.all; obtain ⟨a0, a1, a2⟩ := hI.a.c13; obtain ⟨b0, b1, b2⟩ := hI.b.c13; obtain ⟨d0, d1, d2⟩ := hI.c.c13; obtain ⟨e0, e1, e2⟩ := hI.d.c13
      go_simp
      exact hK0 _ hI
    · have H1 : Hid _ := HC1.out W' hI
      clear hI
      go_simp
      refine Calls.mono H1.out ?_; rintro e z5 ⟨rfl, h1⟩
      exact hK0 _ h1
    · obtain ⟨c0, c1, c2, c3, c4⟩ := hI.o.all; obtain ⟨a0, a1, a2⟩ := hI.a.c13; obtain ⟨b0, b1, b2⟩ := hI.b.c13; obtain ⟨d0, d1, d2⟩ := hI.c.c13; obtain ⟨e0, e1, e2⟩ := hI.d.c13
      go_simp
      exact hK0 _ hI
    · go_simp
      exact hK0 _ hI
    · go_simp
      exact hK0 _ hI
    · go_simp
      exact hK0 _ hI
    · go_simp
      exact hK0 _ hI
    · go_simp
      exact hK0 _ hI
    · obtain ⟨c0, c1, c2, c3, c4⟩ := hI.o.all; obtain ⟨a0, a1, a2⟩ := hI.a.c13; obtain ⟨b0, b1, b2⟩ := hI.b.c13; obtain ⟨d0, d1, d2⟩ := hI.c.c13; obtain ⟨e0, e1, e2⟩ := hI.d.c13
      go_simp
      exact hK0 _ hI
    · go_simp
      exact hK0 _ hI
    · obtain ⟨c0, c1, c2, c3, c4⟩ := hI.o.all; obtain ⟨a0, a1, a2⟩ := hI.a.c13; obtain ⟨b0, b1, b2⟩ := hI.b.c13; obtain ⟨d0, d1, d2⟩ := hI.c.c13; obtain ⟨e0, e1, e2⟩ := hI.d.c13
      go_simp
      exact hK0 _ hI
    · go_simp
      exact hK0 _ hI
    · obtain ⟨c0, c1, c2, c3, c4⟩ := hI.o.all; obtain ⟨a0, a1, a2⟩ := hI.a.c13; obtain ⟨b0, b1, b2⟩ := hI.b.c13; obtain ⟨d0, d1, d2⟩ := hI.c.c13; obtain ⟨e0, e1, e2⟩ := hI.d.c13
      go_simp
      exact hK0 _ hI
    · have H1 : Hid _ := HC2.out W' hI
      clear hI
      go_simp
      refine Calls.mono H1.out ?_; rintro e z5 ⟨rfl, h1⟩
      exact hK0 _ h1
    · obtain ⟨c0, c1, c2, c3, c4⟩ := hI.o.all; obtain ⟨a0, a1, a2⟩ := hI.a.c13; obtain ⟨b0, b1, b2⟩ := hI.b.c13; obtain ⟨d0, d1, d2⟩ := hI.c.c13; obtain ⟨e0, e1, e2⟩ := hI.d.c13
      go_simp
      exact hK0 _ hI
    · go_simp
      exact hK0 _ hI
    · go_simp
      exact hK0 _ hI
    · go_simp
      exact hK0 _ hI
    · go_simp
      exact hK0 _ hI
    · go_simp
      exact hK0 _ hI
    · obtain ⟨c0, c1, c2, c3, c4⟩ := hI.o.all; obtain ⟨a0, a1, a2⟩ := hI.a.c13; obtain ⟨b0, b1, b2⟩ := hI.b.c13; obtain ⟨d0, d1, d2⟩ := hI.c.c13; obtain ⟨e0, e1, e2⟩ := hI.d.c13
      go_simp
      exact hK0 _ hI
    · go_simp
      exact hK0 _ hI
    · obtain ⟨c0, c1, c2, c3, c4⟩ := hI.o.all; obtain ⟨a0, a1, a2⟩ := hI.a.c13; obtain ⟨b0, b1, b2⟩ := hI.b.c13; obtain ⟨d0, d1, d2⟩ := hI.c.c13; obtain ⟨e0, e1, e2⟩ := hI.d.c13
      go_simp
      exact hK0 _ hI
    · have H1 : Hid _ := HC3.out W' hI
      clear hI
      go_simp
      refine Calls.mono H1.out ?_; rintro e z5 ⟨rfl, h1⟩
      exact hK0 _ h1
    · obtain ⟨c0, c1, c2, c3, c4⟩ := hI.o.all; obtain ⟨a0, a1, a2⟩ := hI.a.c13; obtain ⟨b0, b1, b2⟩ := hI.b.c13; obtain ⟨d0, d1, d2⟩ := hI.c.c13; obtain ⟨e0, e1, e2⟩ := hI.d.c13
      go_simp
      exact hK0 _ hI
    · go_simp
      exact hK0 _ hI
    · go_simp
      exact hK0 _ hI
  · intro t listed W' hall hI
    change NlI w (X + 1) x2 x3 x4 (x4 + 1) kd sg off z v W' at hI
    have HN' : Hid (NlI w (X + 1) x2 x3 x4 (x4 + 1) kd sg off z v W') := hI
    clear hI hall HN HD HC1 HC2 HC3
    have cB := both_any W' none none 0 0 0 0 (fun _ => 0) (fun _ => 0) (fun _ => 0) (by omega) (by omega) (fun i hi => absurd hi (by omega)) (fun i hi => absurd hi (by omega))
    have e0 : memOf (fun _ => 0) (fun _ => 0) (fun _ => 0) 0 0 = mA := rfl
    rw [e0] at cB
    go_wp2_with fail
    refine cB.mono ?_; rintro e w9 ⟨B, R, rfl, hb9, hout, k9⟩
    have hr9 := hb9.ram
    clear cB hb9
    have cN := vNew_ok w9 B 3 (by omega) mA hr9 mA_n.2
    go_wp2_with fail
    refine cN.mono ?_; rintro e w10 ⟨V, rfl, hV, v10, k10⟩
    have N1 := (HN'.out.kp k9).kp k10
    have HI : Hid (∀ j, inVm V w9.heap.size B 16 j → W'.heap.size ≤ j) := fun j hj => by
      have := k9.size
      rcases hj with f | f | f
      · omega
      · exact hout j (.inl f)
      · rcases f with e | e <;> omega
    have HY : Hid (x2 < W'.heap.size ∧ x3 < W'.heap.size ∧ x4 < W'.heap.size ∧ X + 1 < W'.heap.size) := ⟨HN'.out.a.lt, HN'.out.b.lt, HN'.out.c.lt, HN'.out.o.lt⟩
    obtain ⟨K, hK⟩ : ∃ K, K = w9.heap.size := ⟨_, rfl⟩
    rw [← hK] at v10 HI
    clear cN k9 k10 hV hr9 hout hK HN'
    have HZ : Hid (NlZ w X x2 x3 x4) := ⟨HX2.out.1, HX2.out.2.1, HX2.out.2.2.1, HX2.out.2.2.2.1, HX2.out.2.2.2.2.1, HX2.out.2.2.2.2.2⟩
    obtain ⟨c0, c1, c2, c3, c4⟩ := N1.o.all
    have cF := load_need w10 (some ⟨V, 0, none⟩) none sg off z (needC v10)
    rw [f13] at cF
    go_wp2_with fail
    refine cF.mono ?_; rintro e w11 ⟨rfl, k11⟩
    clear cF c0 c1 c2 c3 c4
    have N2 := N1.kp k11
    obtain ⟨a0, a1, a2⟩ := N2.a.c13
    have fz := N2.a.fz
    replace N1 := N2.set N2.a (y := x2) HZ.out.a1 HZ.out.a2
    replace v10 := (v10.kp0 k11).kp (kp_setFt w11 x2 (ftV 13)) (fun j hj e => by have := HI.out j (by rw [mA_n.1] at hj; exact hj); have := HY.out; omega)
    obtain ⟨W11, hW11⟩ : ∃ W, W = setFt w11 x2 (ftV 13) := ⟨_, rfl⟩
    rw [← hW11] at N1 v10
    unfold setFt ftV at hW11
    simp only at hW11
    clear N2 k11
    go_upto_region 16 with fail
    rw [← hW11]
    clear hW11 a0 a1 a2 fz
    obtain ⟨c0, c1, c2, c3, c4⟩ := N1.o.all
    have cF := sys_need W11 (some ⟨V, 0, none⟩) none off z (needC v10)
    rw [f13] at cF
    go_wp2_with fail
    refine cF.mono ?_; rintro e w12 ⟨rfl, k12⟩
    clear cF c0 c1 c2 c3 c4
    have N2 := N1.kp k12
    obtain ⟨a0, a1, a2⟩ := N2.b.c13
    have fz := N2.b.fz
    replace N1 := N2.set N2.b (y := x3) HZ.out.b1 HZ.out.b2
    replace v10 := (v10.kp0 k12).kp (kp_setFt w12 x3 (ftV 13)) (fun j hj e => by have := HI.out j (by rw [mA_n.1] at hj; exact hj); have := HY.out; omega)
    obtain ⟨W12, hW12⟩ : ∃ W, W = setFt w12 x3 (ftV 13) := ⟨_, rfl⟩
    rw [← hW12] at N1 v10
    unfold setFt ftV at hW12
    simp only at hW12
    clear N2 k12
    go_upto_region 17 with fail
    rw [← hW12]
    clear hW12 a0 a1 a2 fz
    obtain ⟨c0, c1, c2, c3, c4⟩ := N1.o.all
    have cF := cde_need W12 (some ⟨V, 0, none⟩) none off (needC v10)
    rw [f13] at cF
    go_wp2_with fail
    refine cF.mono ?_; rintro e w13 ⟨rfl, k13⟩
    clear cF c0 c1 c2 c3 c4
    have N2 := N1.kp k13
    obtain ⟨a0, a1, a2⟩ := N2.c.c13
    have fz := N2.c.fz
    replace N1 := N2.set N2.c (y := x4) HZ.out.c1 HZ.out.c2
    replace v10 := (v10.kp0 k13).kp (kp_setFt w13 x4 (ftV 13)) (fun j hj e => by have := HI.out j (by rw [mA_n.1] at hj; exact hj); have := HY.out; omega)
    obtain ⟨W13, hW13⟩ : ∃ W, W = setFt w13 x4 (ftV 13) := ⟨_, rfl⟩
    rw [← hW13] at N1 v10
    unfold setFt ftV at hW13
    simp only at hW13
    clear N2 k13
    go_upto_region 18 with fail
    rw [← hW13]
    clear hW13 a0 a1 a2 fz
    have HD : Hid (NlV w (X + 1) x2 x3 x4 kd sg off z v V K B { W13 with drawn := W13.drawn + 1 }) := ⟨N1.kp ((Kp.refl noB W13).drew), v10.kp0 ((Kp.refl noB W13).drew)⟩
    have HC1 : Hid (∀ W, NlV w (X + 1) x2 x3 x4 kd sg off z v V K B W → Calls Try.prog 12 #[.pointer (some ⟨V, 0, none⟩), .pointer none, .int .i64 sg, .int .u32 off, .int .i64 z] W fun e w' => e = .returned (.agg #[.int .i64 13, .int .i64 0, .int .u32 0]) ∧ NlV w (X + 1) x2 x3 x4 kd sg off z v V K B w') := fun W h => (check_need W (some ⟨V, 0, none⟩) none sg off z (needC h.v)).mono fun e w' ⟨a, b⟩ => ⟨a, h.kp b⟩
    have HC2 : Hid (∀ W, NlV w (X + 1) x2 x3 x4 kd sg off z v V K B W → Calls Try.prog 15 #[.pointer (some ⟨V, 0, none⟩), .pointer none, .int .i64 sg, .int .u32 off, .int .i64 z, .int .u32 1] W fun e w' => e = .returned (.agg #[.int .i64 13, .int .i64 0, .int .u32 0]) ∧ NlV w (X + 1) x2 x3 x4 kd sg off z v V K B w') := fun W h => (store_need W (some ⟨V, 0, none⟩) none sg off z 1 (needC h.v)).mono fun e w' ⟨a, b⟩ => ⟨a, h.kp b⟩
    have HC3 : Hid (∀ W, NlV w (X + 1) x2 x3 x4 kd sg off z v V K B W → Calls Try.prog 18 #[.pointer (some ⟨V, 0, none⟩), .pointer none, .int .u32 off, .int .i64 z, .int .u32 1] W fun e w' => e = .returned (.agg #[.int .i64 13, .int .i64 0, .int .u32 0]) ∧ NlV w (X + 1) x2 x3 x4 kd sg off z v V K B w') := fun W h => (setSys_need W (some ⟨V, 0, none⟩) none off z 1 (needC h.v)).mono fun e w' ⟨a, b⟩ => ⟨a, h.kp b⟩
    have HC0 : Hid (∀ W, NlV w (X + 1) x2 x3 x4 kd sg off z v V K B W → Calls Try.prog 23 #[.pointer none] W fun e w' => e = .returned (.pointer none) ∧ NlV w (X + 1) x2 x3 x4 kd sg off z v V K B w') := fun W h => (vRam_nil W).mono fun e w' ⟨a, b⟩ => ⟨a, by rw [b]; exact h⟩
    clear N1 v10 HI HY HZ f13
    refine OrdG.region_vals (τ := Unit) (B := fun _ => { tmps := #[Value.agg cs, Value.agg #[Value.int IntKind.i64 kd, Value.int IntKind.i64 sg, Value.int IntKind.u32 off, Value.int IntKind.i64 z, Value.int IntKind.u32 v], Value.pointer (some { block := X, off := 0 }), Value.pointer (some { block := X + 1, off := 0 }), (.bool true), Value.bool true, Value.pointer none, Value.int IntKind.i64 1, Value.int IntKind.u32 0, Value.pointer (some { block := x2, off := 0 }), Value.int IntKind.u32 0, Value.pointer (some { block := x3, off := 0 }), Value.int IntKind.u8 0, Value.int IntKind.u32 0, Value.pointer (some { block := x4, off := 0 }), Value.pointer (some { block := x4 + 1, off := 0 }), Value.pointer (some { block := B + 3, off := 0 }), Value.pointer (some { block := R.r, off := 0 }), Value.pointer (some { block := V, off := 0 }), Value.int IntKind.i64 0, Value.bool true, Value.bool true, Value.bool false, Value.tuple #[Value.pointer none, Value.int IntKind.i64 1], Value.tuple #[Value.pointer none, Value.int IntKind.i64 1], Value.pointer none, Value.int IntKind.i64 1, Value.tuple #[Value.int IntKind.u32 0, Value.agg #[Value.int IntKind.i64 13, Value.int IntKind.i64 0, Value.int IntKind.u32 0]], Value.pointer none, Value.pointer (some { block := X + 1, off := 1 }), Value.int IntKind.i64 sg, Value.pointer (some { block := X + 1, off := 2 }), Value.int IntKind.u32 off, Value.pointer (some { block := X + 1, off := 3 }), Value.int IntKind.i64 z, Value.tuple #[Value.int IntKind.u32 0, Value.agg #[Value.int IntKind.i64 13, Value.int IntKind.i64 0, Value.int IntKind.u32 0]], Value.int IntKind.u32 0, Value.agg #[Value.int IntKind.i64 13, Value.int IntKind.i64 0, Value.int IntKind.u32 0], Value.tuple #[Value.int IntKind.u32 0, Value.agg #[Value.int IntKind.i64 13, Value.int IntKind.i64 0, Value.int IntKind.u32 0]], Value.pointer none, Value.pointer (some { block := X + 1, off := 2 }), Value.int IntKind.u32 off, Value.pointer (some { block := X + 1, off := 3 }), Value.int IntKind.i64 z, Value.tuple #[Value.int IntKind.u32 0, Value.agg #[Value.int IntKind.i64 13, Value.int IntKind.i64 0, Value.int IntKind.u32 0]], Value.int IntKind.u32 0, Value.agg #[Value.int IntKind.i64 13, Value.int IntKind.i64 0, Value.int IntKind.u32 0], Value.tuple #[Value.int IntKind.u8 0, Value.int IntKind.u32 0, Value.agg #[Value.int IntKind.i64 13, Value.int IntKind.i64 0, Value.int IntKind.u32 0]], Value.pointer none, Value.pointer (some { block := X + 1, off := 2 }), Value.int IntKind.u32 off, Value.tuple #[Value.int IntKind.u8 0, Value.int IntKind.u32 0, Value.agg #[Value.int IntKind.i64 13, Value.int IntKind.i64 0, Value.int IntKind.u32 0]], Value.int IntKind.u8 0, Value.int IntKind.u32 0, Value.agg #[Value.int IntKind.i64 13, Value.int IntKind.i64 0, Value.int IntKind.u32 0], Value.pointer none, Value.tuple #[], Value.pointer none, Value.pointer (some { block := X + 1, off := 2 }), Value.int IntKind.u32 off, Value.tuple #[], Value.agg #[Value.int IntKind.i64 13, Value.int IntKind.i64 0, Value.int IntKind.u32 0], Value.int IntKind.u32 0, Value.bool false, Value.bool false, Value.agg #[Value.int IntKind.i64 13, Value.int IntKind.i64 0, Value.int IntKind.u32 0], Value.agg #[Value.int IntKind.i64 13, Value.int IntKind.i64 0, Value.int IntKind.u32 0], Value.bool false, Value.bool false, Value.bool false, Value.int IntKind.u32 0, Value.bool false, Value.bool false, Value.bool false, Value.agg #[Value.int IntKind.i64 13, Value.int IntKind.i64 0, Value.int IntKind.u32 0], Value.agg #[Value.int IntKind.i64 13, Value.int IntKind.i64 0, Value.int IntKind.u32 0], Value.bool false, Value.bool false, Value.bool false, Value.int IntKind.u8 0, Value.bool false, Value.bool false, Value.bool false, Value.int IntKind.u32 0, Value.bool false, Value.bool false, Value.bool false, Value.agg #[Value.int IntKind.i64 13, Value.int IntKind.i64 0, Value.int IntKind.u32 0], Value.agg #[Value.int IntKind.i64 13, Value.int IntKind.i64 0, Value.int IntKind.u32 0], Value.bool false, Value.bool false, Value.bool false, Value.pointer none, Value.pointer (some { block := X + 1, off := 1 }), Value.int IntKind.i64 sg, Value.pointer (some { block := X + 1, off := 2 }), Value.int IntKind.u32 off, Value.pointer (some { block := X + 1, off := 3 }), Value.int IntKind.i64 z, Value.agg #[Value.int IntKind.i64 13, Value.int IntKind.i64 0, Value.int IntKind.u32 0], Value.agg #[Value.int IntKind.i64 13, Value.int IntKind.i64 0, Value.int IntKind.u32 0], Value.bool false, Value.bool false, Value.bool false, Value.pointer none, Value.pointer (some { block := X + 1, off := 1 }), Value.int IntKind.i64 sg, Value.pointer (some { block := X + 1, off := 2 }), Value.int IntKind.u32 off, Value.pointer (some { block := X + 1, off := 3 }), Value.int IntKind.i64 z, Value.agg #[Value.int IntKind.i64 13, Value.int IntKind.i64 0, Value.int IntKind.u32 0], Value.agg #[Value.int IntKind.i64 13, Value.int IntKind.i64 0, Value.int IntKind.u32 0], Value.bool false, Value.bool false, Value.bool false, Value.pointer none, Value.pointer (some { block := X + 1, off := 2 }), Value.int IntKind.u32 off, Value.pointer (some { block := X + 1, off := 3 }), Value.int IntKind.i64 z, Value.agg #[Value.int IntKind.i64 13, Value.int IntKind.i64 0, Value.int IntKind.u32 0], Value.agg #[Value.int IntKind.i64 13, Value.int IntKind.i64 0, Value.int IntKind.u32 0], Value.bool false, Value.bool false, Value.tuple #[Value.pointer (some { block := B + 3, off := 0 }), Value.pointer (some { block := R.r, off := 0 })], Value.tuple #[Value.pointer (some { block := B + 3, off := 0 }), Value.pointer (some { block := R.r, off := 0 })], Value.pointer (some { block := B + 3, off := 0 }), Value.pointer (some { block := R.r, off := 0 }), Value.tuple #[Value.pointer (some { block := V, off := 0 }), Value.int IntKind.i64 0], Value.pointer (some { block := B + 3, off := 0 }), Value.tuple #[Value.pointer (some { block := V, off := 0 }), Value.int IntKind.i64 0], Value.pointer (some { block := V, off := 0 }), Value.int IntKind.i64 0, Value.tuple #[Value.int IntKind.u32 0, Value.agg #[Value.int IntKind.i64 13, Value.int IntKind.i64 0, Value.int IntKind.u32 0]], Value.pointer (some { block := V, off := 0 }), Value.pointer (some { block := X + 1, off := 1 }), Value.int IntKind.i64 sg, Value.pointer (some { block := X + 1, off := 2 }), Value.int IntKind.u32 off, Value.pointer (some { block := X + 1, off := 3 }), Value.int IntKind.i64 z, Value.tuple #[Value.int IntKind.u32 0, Value.agg #[Value.int IntKind.i64 13, Value.int IntKind.i64 0, Value.int IntKind.u32 0]], Value.int IntKind.u32 0, Value.agg #[Value.int IntKind.i64 13, Value.int IntKind.i64 0, Value.int IntKind.u32 0], Value.tuple #[Value.int IntKind.u32 0, Value.agg #[Value.int IntKind.i64 13, Value.int IntKind.i64 0, Value.int IntKind.u32 0]], Value.pointer (some { block := V, off := 0 }), Value.pointer (some { block := X + 1, off := 2 }), Value.int IntKind.u32 off, Value.pointer (some { block := X + 1, off := 3 }), Value.int IntKind.i64 z, Value.tuple #[Value.int IntKind.u32 0, Value.agg #[Value.int IntKind.i64 13, Value.int IntKind.i64 0, Value.int IntKind.u32 0]], Value.int IntKind.u32 0, Value.agg #[Value.int IntKind.i64 13, Value.int IntKind.i64 0, Value.int IntKind.u32 0], Value.tuple #[Value.int IntKind.u8 0, Value.int IntKind.u32 0, Value.agg #[Value.int IntKind.i64 13, Value.int IntKind.i64 0, Value.int IntKind.u32 0]], Value.pointer (some { block := V, off := 0 }), Value.pointer (some { block := X + 1, off := 2 }), Value.int IntKind.u32 off, Value.tuple #[Value.int IntKind.u8 0, Value.int IntKind.u32 0, Value.agg #[Value.int IntKind.i64 13, Value.int IntKind.i64 0, Value.int IntKind.u32 0]], Value.int IntKind.u8 0, Value.int IntKind.u32 0, Value.agg #[Value.int IntKind.i64 13, Value.int IntKind.i64 0, Value.int IntKind.u32 0], (.pointer none), (.bool true), (.bool true), (.int .i64 1), (.bool true), (.bool true), (.bool true), (.pointer none), (.pointer none), (.bool true), (.bool true), (.bool true), (.int .u32 0), (.bool true), (.bool true), (.bool true), (.agg #[.int .i64 13, .int .i64 0, .int .u32 0]), (.agg #[.int .i64 13, .int .i64 0, .int .u32 0]), (.bool true), (.bool true), (.bool true), (.int .u32 0), (.bool true), (.bool true), (.bool true), (.agg #[.int .i64 13, .int .i64 0, .int .u32 0]), (.agg #[.int .i64 13, .int .i64 0, .int .u32 0]), (.bool true), (.bool true), (.bool true), (.int .u8 0), (.bool true), (.bool true), (.bool true), (.int .u32 0), (.bool true), (.bool true), (.bool true), (.agg #[.int .i64 13, .int .i64 0, .int .u32 0]), (.agg #[.int .i64 13, .int .i64 0, .int .u32 0]), (.bool true), (.bool true), (.bool true), (.pointer (some ⟨V, 0, none⟩)), (.pointer (some ⟨X + 1, 1, none⟩)), (.int .i64 sg), (.pointer (some ⟨X + 1, 2, none⟩)), (.int .u32 off), (.pointer (some ⟨X + 1, 3, none⟩)), (.int .i64 z), (.agg #[.int .i64 13, .int .i64 0, .int .u32 0]), (.agg #[.int .i64 13, .int .i64 0, .int .u32 0]), (.bool true), (.bool true), (.bool true), (.pointer (some ⟨V, 0, none⟩)), (.pointer (some ⟨X + 1, 1, none⟩)), (.int .i64 sg), (.pointer (some ⟨X + 1, 2, none⟩)), (.int .u32 off), (.pointer (some ⟨X + 1, 3, none⟩)), (.int .i64 z), (.agg #[.int .i64 13, .int .i64 0, .int .u32 0]), (.agg #[.int .i64 13, .int .i64 0, .int .u32 0]), (.bool true), (.bool true), (.bool true), (.pointer (some ⟨V, 0, none⟩)), (.pointer (some ⟨X + 1, 2, none⟩)), (.int .u32 off), (.pointer (some ⟨X + 1, 3, none⟩)), (.int .i64 z), (.agg #[.int .i64 13, .int .i64 0, .int .u32 0]), (.agg #[.int .i64 13, .int .i64 0, .int .u32 0]), (.bool true), (.bool true)], defers := [] }) (fun t => [(.pointer none), (.bool true), (.bool true), (.int .i64 1), (.bool true), (.bool true), (.bool true), (.pointer none), (.pointer none), (.bool true), (.bool true), (.bool true), (.int .u32 0), (.bool true), (.bool true), (.bool true), (.agg #[.int .i64 13, .int .i64 0, .int .u32 0]), (.agg #[.int .i64 13, .int .i64 0, .int .u32 0]), (.bool true), (.bool true), (.bool true), (.int .u32 0), (.bool true), (.bool true), (.bool true), (.agg #[.int .i64 13, .int .i64 0, .int .u32 0]), (.agg #[.int .i64 13, .int .i64 0, .int .u32 0]), (.bool true), (.bool true), (.bool true), (.int .u8 0), (.bool true), (.bool true), (.bool true), (.int .u32 0), (.bool true), (.bool true), (.bool true), (.agg #[.int .i64 13, .int .i64 0, .int .u32 0]), (.agg #[.int .i64 13, .int .i64 0, .int .u32 0]), (.bool true), (.bool true), (.bool true), (.pointer (some ⟨V, 0, none⟩)), (.pointer (some ⟨X + 1, 1, none⟩)), (.int .i64 sg), (.pointer (some ⟨X + 1, 2, none⟩)), (.int .u32 off), (.pointer (some ⟨X + 1, 3, none⟩)), (.int .i64 z), (.agg #[.int .i64 13, .int .i64 0, .int .u32 0]), (.agg #[.int .i64 13, .int .i64 0, .int .u32 0]), (.bool true), (.bool true), (.bool true), (.pointer (some ⟨V, 0, none⟩)), (.pointer (some ⟨X + 1, 1, none⟩)), (.int .i64 sg), (.pointer (some ⟨X + 1, 2, none⟩)), (.int .u32 off), (.pointer (some ⟨X + 1, 3, none⟩)), (.int .i64 z), (.agg #[.int .i64 13, .int .i64 0, .int .u32 0]), (.agg #[.int .i64 13, .int .i64 0, .int .u32 0]), (.bool true), (.bool true), (.bool true), (.pointer (some ⟨V, 0, none⟩)), (.pointer (some ⟨X + 1, 2, none⟩)), (.int .u32 off), (.pointer (some ⟨X + 1, 3, none⟩)), (.int .i64 z), (.agg #[.int .i64 13, .int .i64 0, .int .u32 0]), (.agg #[.int .i64 13, .int .i64 0, .int .u32 0]), (.bool true), (.bool true), (.bool true)]) (fun t listed w' => NlV w (X + 1) x2 x3 x4 kd sg off z v V K B w') () (by kernel_rfl) (by kernel_rfl) (by kernel_rfl) (by kernel_rfl) (fun _ => rfl) (fun _ => by kernel_rfl) (fun _ => by kernel_rfl) HD.out ?_ ?_
    · refine ⟨?_, ?_, ?_, ?_, ?_, ?_, ?_, ?_, ?_, ?_, ?_, ?_, ?_, ?_, ?_, ?_, ?_, ?_, ?_, ?_, ?_, ?_, ?_, ?_, ?_, ?_, ?_, ?_, ?_, ?_, ?_, ?_, ?_, ?_, ?_, ?_, ?_, ?_, ?_, ?_, ?_, ?_, ?_, ?_, ?_, ?_, ?_, ?_, ?_, ?_, ?_, ?_, ?_, ?_, ?_, ?_, ?_, ?_, ?_, ?_, ?_, ?_, ?_, ?_, ?_, ?_, ?_, ?_, ?_, ?_, ?_, ?_, ?_, ?_, ?_, ?_, ?_, trivial⟩
      all_goals (intro t listed W' hz hSh hl hI hb KK hK hK0; change NlV w (X + 1) x2 x3 x4 kd sg off z v V K B W' at hI)
      · go_simp
        exact hK0 _ hI
      · go_simp
        exact hK0 _ hI
      · go_simp
        exact hK0 _ hI
      · go_simp
        exact hK0 _ hI
      · go_simp
        exact hK0 _ hI
      · go_simp
        exact hK0 _ hI
      · go_simp
        exact hK0 _ hI
      · go_simp
        exact hK0 _ hI
      · have H1 : Hid _ := HC0.out W' hI
        clear hI
        go_simp
        refine Calls.mono H1.out ?_; rintro e z5 ⟨rfl, h1⟩
        exact hK0 _ h1
      · go_simp
        exact hK0 _ hI
      · go_simp
        exact hK0 _ hI
      · go_simp
        exact hK0 _ hI
      · go_simp
        exact hK0 _ hI
      · go_simp
        exact hK0 _ hI
      · go_simp
        exact hK0 _ hI
      · go_simp
        exact hK0 _ hI
      · obtain ⟨c0, c1, c2, c3, c4⟩ := hI.n.o.all; obtain ⟨a0, a1, a2⟩ := hI.n.a.c13; obtain ⟨b0, b1, b2⟩ := hI.n.b.c13; obtain ⟨d0, d1, d2⟩ := hI.n.c.c13; obtain ⟨e0, e1, e2⟩ := hI.n.d.c13
        go_simp
        exact hK0 _ hI
      · obtain ⟨c0, c1, c2, c3, c4⟩ := hI.n.o.all; obtain ⟨a0, a1, a2⟩ := hI.n.a.c13; obtain ⟨b0, b1, b2⟩ := hI.n.b.c13; obtain ⟨d0, d1, d2⟩ := hI.n.c.c13; obtain ⟨e0, e1, e2⟩ := hI.n.d.c13
        go_simp
        exact hK0 _ hI
      · go_simp
        exact hK0 _ hI
      · go_simp
        exact hK0 _ hI
      · go_simp
        exact hK0 _ hI
      · go_simp
        exact hK0 _ hI
      · go_simp
        exact hK0 _ hI
      · go_simp
        exact hK0 _ hI
      · go_simp
        exact hK0 _ hI
      · obtain ⟨c0, c1, c2, c3, c4⟩ := hI.n.o.all; obtain ⟨a0, a1, a2⟩ := hI.n.a.c13; obtain ⟨b0, b1, b2⟩ := hI.n.b.c13; obtain ⟨d0, d1, d2⟩ := hI.n.c.c13; obtain ⟨e0, e1, e2⟩ := hI.n.d.c13
        go_simp
        exact hK0 _ hI
      · obtain ⟨c0, c1, c2, c3, c4⟩ := hI.n.o.all; obtain ⟨a0, a1, a2⟩ := hI.n.a.c13; obtain ⟨b0, b1, b2⟩ := hI.n.b.c13; obtain ⟨d0, d1, d2⟩ := hI.n.c.c13; obtain ⟨e0, e1, e2⟩ := hI.n.d.c13
        go_simp
        exact hK0 _ hI
      · go_simp
        exact hK0 _ hI
      · go_simp
        exact hK0 _ hI
      · go_simp
        exact hK0 _ hI
      · go_simp
        exact hK0 _ hI
      · go_simp
        exact hK0 _ hI
      · go_simp
        exact hK0 _ hI
      · go_simp
        exact hK0 _ hI
      · go_simp
        exact hK0 _ hI
      · go_simp
        exact hK0 _ hI
      · go_simp
        exact hK0 _ hI
      · go_simp
        exact hK0 _ hI
      · obtain ⟨c0, c1, c2, c3, c4⟩ := hI.n.o.all; obtain ⟨a0, a1, a2⟩ := hI.n.a.c13; obtain ⟨b0, b1, b2⟩ := hI.n.b.c13; obtain ⟨d0, d1, d2⟩ := hI.n.c.c13; obtain ⟨e0, e1, e2⟩ := hI.n.d.c13
        go_simp
        exact hK0 _ hI
      · obtain ⟨c0, c1, c2, c3, c4⟩ := hI.n.o.all; obtain ⟨a0, a1, a2⟩ := hI.n.a.c13; obtain ⟨b0, b1, b2⟩ := hI.n.b.c13; obtain ⟨d0, d1, d2⟩ := hI.n.c.c13; obtain ⟨e0, e1, e2⟩ := hI.n.d.c13
        go_simp
        exact hK0 _ hI
      · go_simp
        exact hK0 _ hI
      · go_simp
        exact hK0 _ hI
      · go_simp
        exact hK0 _ hI
      · go_simp
        exact hK0 _ hI
      · go_simp
        exact hK0 _ hI
      · obtain ⟨c0, c1, c2, c3, c4⟩ := hI.n.o.all; obtain ⟨a0, a1, a2⟩ := hI.n.a.c13; obtain ⟨b0, b1, b2⟩ := hI.n.b.c13; obtain ⟨d0, d1, d2⟩ := hI.n.c.c13; obtain ⟨e0, e1, e2⟩ := hI.n.d.c13
        go_simp
        exact hK0 _ hI
      · go_simp
        exact hK0 _ hI
      · obtain ⟨c0, c1, c2, c3, c4⟩ := hI.n.o.all; obtain ⟨a0, a1, a2⟩ := hI.n.a.c13; obtain ⟨b0, b1, b2⟩ := hI.n.b.c13; obtain ⟨d0, d1, d2⟩ := hI.n.c.c13; obtain ⟨e0, e1, e2⟩ := hI.n.d.c13
        go_simp
        exact hK0 _ hI
      · go_simp
        exact hK0 _ hI
      · obtain ⟨c0, c1, c2, c3, c4⟩ := hI.n.o.all; obtain ⟨a0, a1, a2⟩ := hI.n.a.c13; obtain ⟨b0, b1, b2⟩ := hI.n.b.c13; obtain ⟨d0, d1, d2⟩ := hI.n.c.c13; obtain ⟨e0, e1, e2⟩ := hI.n.d.c13
        go_simp
        exact hK0 _ hI
      · have H1 : Hid _ := HC1.out W' hI
        clear hI
        go_simp
        refine Calls.mono H1.out ?_; rintro e z5 ⟨rfl, h1⟩
        exact hK0 _ h1
      · obtain ⟨c0, c1, c2, c3, c4⟩ := hI.n.o.all; obtain ⟨a0, a1, a2⟩ := hI.n.a.c13; obtain ⟨b0, b1, b2⟩ := hI.n.b.c13; obtain ⟨d0, d1, d2⟩ := hI.n.c.c13; obtain ⟨e0, e1, e2⟩ := hI.n.d.c13
        go_simp
        exact hK0 _ hI
      · go_simp
        exact hK0 _ hI
      · go_simp
        exact hK0 _ hI
      · go_simp
        exact hK0 _ hI
      · go_simp
        exact hK0 _ hI
      · go_simp
        exact hK0 _ hI
      · obtain ⟨c0, c1, c2, c3, c4⟩ := hI.n.o.all; obtain ⟨a0, a1, a2⟩ := hI.n.a.c13; obtain ⟨b0, b1, b2⟩ := hI.n.b.c13; obtain ⟨d0, d1, d2⟩ := hI.n.c.c13; obtain ⟨e0, e1, e2⟩ := hI.n.d.c13
        go_simp
        exact hK0 _ hI
      · go_simp
        exact hK0 _ hI
      · obtain ⟨c0, c1, c2, c3, c4⟩ := hI.n.o.all; obtain ⟨a0, a1, a2⟩ := hI.n.a.c13; obtain ⟨b0, b1, b2⟩ := hI.n.b.c13; obtain ⟨d0, d1, d2⟩ := hI.n.c.c13; obtain ⟨e0, e1, e2⟩ := hI.n.d.c13
        go_simp
        exact hK0 _ hI
      · go_simp
        exact hK0 _ hI
      · obtain ⟨c0, c1, c2, c3, c4⟩ := hI.n.o.all; obtain ⟨a0, a1, a2⟩ := hI.n.a.c13; obtain ⟨b0, b1, b2⟩ := hI.n.b.c13; obtain ⟨d0, d1, d2⟩ := hI.n.c.c13; obtain ⟨e0, e1, e2⟩ := hI.n.d.c13
        go_simp
        exact hK0 _ hI
      · have H1 : Hid _ := HC2.out W' hI
        clear hI
        go_simp
        refine Calls.mono H1.out ?_; rintro e z5 ⟨rfl, h1⟩
        exact hK0 _ h1
      · obtain ⟨c0, c1, c2, c3, c4⟩ := hI.n.o.all; obtain ⟨a0, a1, a2⟩ := hI.n.a.c13; obtain ⟨b0, b1, b2⟩ := hI.n.b.c13; obtain ⟨d0, d1, d2⟩ := hI.n.c.c13; obtain ⟨e0, e1, e2⟩ := hI.n.d.c13
        go_simp
        exact hK0 _ hI
      · go_simp
        exact hK0 _ hI
      · go_simp
        exact hK0 _ hI
      · go_simp
        exact hK0 _ hI
      · go_simp
        exact hK0 _ hI
      · go_simp
        exact hK0 _ hI
      · obtain ⟨c0, c1, c2, c3, c4⟩ := hI.n.o.all; obtain ⟨a0, a1, a2⟩ := hI.n.a.c13; obtain ⟨b0, b1, b2⟩ := hI.n.b.c13; obtain ⟨d0, d1, d2⟩ := hI.n.c.c13; obtain ⟨e0, e1, e2⟩ := hI.n.d.c13
        go_simp
        exact hK0 _ hI
      · go_simp
        exact hK0 _ hI
      · obtain ⟨c0, c1, c2, c3, c4⟩ := hI.n.o.all; obtain ⟨a0, a1, a2⟩ := hI.n.a.c13; obtain ⟨b0, b1, b2⟩ := hI.n.b.c13; obtain ⟨d0, d1, d2⟩ := hI.n.c.c13; obtain ⟨e0, e1, e2⟩ := hI.n.d.c13
        go_simp
        exact hK0 _ hI
      · have H1 : Hid _ := HC3.out W' hI
        clear hI
        go_simp
        refine Calls.mono H1.out ?_; rintro e z5 ⟨rfl, h1⟩
        exact hK0 _ h1
      · obtain ⟨c0, c1, c2, c3, c4⟩ := hI.n.o.all; obtain ⟨a0, a1, a2⟩ := hI.n.a.c13; obtain ⟨b0, b1, b2⟩ := hI.n.b.c13; obtain ⟨d0, d1, d2⟩ := hI.n.c.c13; obtain ⟨e0, e1, e2⟩ := hI.n.d.c13
        go_simp
        exact hK0 _ hI
      · go_simp
        exact hK0 _ hI
      · go_simp
        exact hK0 _ hI
      · go_simp
        exact hK0 _ hI
    · intro t listed W' hall hI
      change NlV w (X + 1) x2 x3 x4 kd sg off z v V K B W' at hI
      have HN : Hid (NlV w (X + 1) x2 x3 x4 kd sg off z v V K B W') := hI
      clear hI hall
      go_wp2
      go_ret
      exact ⟨rfl, HN.out.n.k.every⟩
end Go.Proofs.Ytmmnnafjikilpaa
