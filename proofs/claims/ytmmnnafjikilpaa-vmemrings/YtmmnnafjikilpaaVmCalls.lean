/- vmem's calls: with a fault, and without one. -/
import Derived.Test.YtmmnnafjikilpaaVmClo
namespace Go.Proofs.Ytmmnnafjikilpaa
open Go.ChangeShapes Go.WideShapes Go.ChangeAt Go.RowKit Go.Maps
set_option linter.unusedVariables false
set_option maxRecDepth 20000

theorem hmf : ∀ (fn : Fn) (first cap : Array Value) (w : World), (Instr.makeFunc fn first cap).run Try.prog w = .ok (.func fn first cap) w := fun _ _ _ _ => rfl
theorem Ft.val_is (f : Ft) : f.val = .agg #[.int .i64 f.vec, .int .i64 f.code, .int .u32 f.cr2] := rfl

theorem load_no (w : World) (pm pc : Option Addr) (k off z : Int) (f : Ft) (S : Nat → Prop) (P : World → Prop) (hS : ∀ j, S j → j < w.heap.size) (hP : ∀ W W', P W → Kp (fun j => w.heap.size ≤ j) W W' → P W')
    (H : Hid (∀ W, Kp noB w W → Calls Try.prog 33 #[.pointer pm, .pointer pc, .int .i64 k, .int .u32 off, .int .i64 z, .bool false] W fun e w' => e = .panicked (pan f) ∧ Kp S W w' ∧ P w')) :
    Calls Try.prog 16 #[.pointer pm, .pointer pc, .int .i64 k, .int .u32 off, .int .i64 z] w fun e w' => e = .returned (.tuple #[.int .u32 0, f.val]) ∧ Kp S w w' ∧ P w' := by
  have hmf := hmf
  obtain ⟨X, hX⟩ : ∃ X, w.heap.size = X := ⟨_, rfl⟩
  obtain ⟨W0, hW0⟩ : ∃ W, W = (((((((w.alloc (.cells #[.pointer pm] 45)).alloc (.cells #[.pointer pc] 50)).alloc (.cells #[.int .i64 k] 3)).alloc (.cells #[.int .u32 off] 23)).alloc (.cells #[.int .i64 z] 3)).alloc (.cells #[.int .i64 0, .int .i64 0, .int .u32 0] 25)).alloc (.cells #[.int .u32 0] 23)) := ⟨_, rfl⟩
  have HX : Hid (w.heap.size = X) := hX
  have hs0 : W0.heap.size = X + 7 := by rw [hW0]; simp [hX]
  have k0 : Kp noB w W0 := by
    rw [hW0]
    exact ((((((Kp.alloc noB w _).trans (Kp.alloc noB _ _)).trans (Kp.alloc noB _ _)).trans (Kp.alloc noB _ _)).trans (Kp.alloc noB _ _)).trans (Kp.alloc noB _ _)).trans (Kp.alloc noB _ _)
  have hb : BxLoad X (.pointer pm) (.pointer pc) k off z W0 := by
    rw [hW0, ← hX]
    refine ⟨?_, ?_, ?_, ?_, ?_⟩ <;> simp [go_sem]
  have rF : RowT W0 (X + 5) ⟨0, 0, 0⟩ := by
    have := (MapKept.heap_alloc (((((w.alloc (.cells #[.pointer pm] 45)).alloc (.cells #[.pointer pc] 50)).alloc (.cells #[.int .i64 k] 3)).alloc (.cells #[.int .u32 off] 23)).alloc (.cells #[.int .i64 z] 3)) (.cells #[.int .i64 0, .int .i64 0, .int .u32 0] 25)).1
    rw [show ((((((w.alloc (.cells #[.pointer pm] 45)).alloc (.cells #[.pointer pc] 50)).alloc (.cells #[.int .i64 k] 3)).alloc (.cells #[.int .u32 off] 23)).alloc (.cells #[.int .i64 z] 3))).heap.size = X + 5 by simp [hX]] at this
    rw [hW0]
    exact RowT.kp (f := ⟨0, 0, 0⟩) this (Kp.alloc noB _ _) (fun f => f)
  have rY : RowV W0 (X + 6) 0 := by
    have := (MapKept.heap_alloc ((((((w.alloc (.cells #[.pointer pm] 45)).alloc (.cells #[.pointer pc] 50)).alloc (.cells #[.int .i64 k] 3)).alloc (.cells #[.int .u32 off] 23)).alloc (.cells #[.int .i64 z] 3)).alloc (.cells #[.int .i64 0, .int .i64 0, .int .u32 0] 25)) (.cells #[.int .u32 0] 23)).1
    rw [show ((((((w.alloc (.cells #[.pointer pm] 45)).alloc (.cells #[.pointer pc] 50)).alloc (.cells #[.int .i64 k] 3)).alloc (.cells #[.int .u32 off] 23)).alloc (.cells #[.int .i64 z] 3)).alloc (.cells #[.int .i64 0, .int .i64 0, .int .u32 0] 25)).heap.size = X + 6 by simp [hX]] at this
    rw [hW0]
    exact this
  have hSn : ∀ j, X ≤ j → ¬ S j := fun j hj f => by have := hS j f; omega
  have HC : Hid _ := faultOf_no W0 37 #[.pointer (some ⟨X, 0, none⟩), .pointer (some ⟨X + 1, 0, none⟩), .pointer (some ⟨X + 2, 0, none⟩), .pointer (some ⟨X + 3, 0, none⟩), .pointer (some ⟨X + 4, 0, none⟩), .pointer (some ⟨X + 6, 0, none⟩)] f S (fun w' => P w' ∧ RowT w' (X + 5) ⟨0, 0, 0⟩ ∧ RowV w' (X + 6) 0) (fun j hj => by have := hS j hj; omega) (fun W W' ⟨p, a, b⟩ k => ⟨hP W W' p (k.mono (fun j _ hj => by omega)), a.kp k (by omega), b.kp k (by omega)⟩) (fun W => rfl)
    (fun W kq => (load1_no W X (X + 6) (.pointer pm) (.pointer pc) k off z f S P (BxLoad.kp hb kq (fun j f => f.elim)) (fun W' kr => H.out W' ((k0.trans kq).trans kr))).mono (fun e w' ⟨h1, h2, h3⟩ => ⟨h1, h2, h3, (rF.kp kq (fun f => f)).kp h2 (hSn _ (by omega)), (rY.kp kq (fun f => f)).kp h2 (hSn _ (by omega))⟩))
  rw [Ft.val_is] at HC
  go_enter Try.func16, Try.ntmps16
  go_wp2_with fail
  rw [← hW0]
  refine Calls.mono HC.out ?_
  rintro e w2 ⟨rfl, k2, p2, r2, y2⟩
  have kA := Kp.alloc noB w2 (.cells #[.int .i64 f.vec, .int .i64 f.code, .int .u32 f.cr2] 25)
  have rA : RowT (w2.alloc (.cells #[.int .i64 f.vec, .int .i64 f.code, .int .u32 f.cr2] 25)) w2.heap.size f := (MapKept.heap_alloc w2 _).1
  have hl2 := y2.lt
  replace r2 := r2.kp kA (fun f => f)
  replace y2 := y2.kp kA (fun f => f)
  replace p2 := hP _ _ p2 (kA.mono (fun _ _ f => f.elim))
  obtain ⟨W3, hW3⟩ : ∃ W, W = w2.alloc (.cells #[.int .i64 f.vec, .int .i64 f.code, .int .u32 f.cr2] 25) := ⟨_, rfl⟩
  obtain ⟨T, hT⟩ : ∃ T, T = w2.heap.size := ⟨_, rfl⟩
  have hTX : X + 6 < T := by rw [hT]; exact hl2
  rw [← hW3] at kA rA r2 y2 p2
  rw [← hT] at rA
  have kS := k2.trans (kA.mono (fun _ _ f => f.elim))
  clear HC k2 kA hl2 hb rF rY
  go_wp2_with fail
  rw [← hW3, ← hT]
  clear hW3 hT hW0 hX
  have yc := y2.c
  have a0 := rA.c0; have a1 := rA.c1; have a2 := rA.c2
  have c0 := r2.c0; have c1 := r2.c1; have c2 := r2.c2
  have f0 := r2.fz 0; have f1 := r2.fz 1; have f2 := r2.fz 2
  go_region
  have rE := r2.set f
  have kE := kp_setFt W3 (X + 5) f
  unfold setFt at rE kE
  have d0 := rE.c0; have d1 := rE.c1; have d2 := rE.c2
  go_wp2
  have pE := hP _ _ p2 (kE.mono (fun j _ e => by have := HX.out; omega))
  have kW : Kp S w _ := ((k0.mono (fun _ _ f => f.elim)).trans kS).over kE (fun j hj e => absurd hj (by have := HX.out; omega))
  have pD := hP _ _ pE (Kp.refl (fun j => w.heap.size ≤ j) _).drew
  refine bodyPost_ret (v := .tuple #[.int .u32 0, .agg #[.int .i64 f.vec, .int .i64 f.code, .int .u32 f.cr2]]) ?_ rfl ⟨rfl, ?_⟩
  · simp [results, Try.results16, go_sem, d0, d1, d2]
  · exact ⟨kW.drew, pD⟩

theorem load_ok (w : World) (V K B pl tn : Nat) (pc : Option Addr) (k off z : Int) (q : Qy) (hq : q.s.Ok) (hm : ∀ j, modVm K B q.m.n j → j < w.heap.size) (hV : V < w.heap.size)
    (H : Hid (∀ W, Kp noB w W → Calls Try.prog 33 #[.pointer (some ⟨V, 0, none⟩), .pointer pc, .int .i64 k, .int .u32 off, .int .i64 z, .bool false] W fun e w' => e = .returned q.s.val ∧ VmP W V K B pl tn q.m 2 w')) :
    Calls Try.prog 16 #[.pointer (some ⟨V, 0, none⟩), .pointer pc, .int .i64 k, .int .u32 off, .int .i64 z] w fun e w' => e = .returned (.tuple #[.int .u32 (q.m.rdS q.s), noFt.val]) ∧ VmP w V K B pl tn q.m 2 w' := by
  have hmf := hmf
  obtain ⟨X, hX⟩ : ∃ X, w.heap.size = X := ⟨_, rfl⟩
  obtain ⟨W0, hW0⟩ : ∃ W, W = (((((((w.alloc (.cells #[.pointer (some ⟨V, 0, none⟩)] 45)).alloc (.cells #[.pointer pc] 50)).alloc (.cells #[.int .i64 k] 3)).alloc (.cells #[.int .u32 off] 23)).alloc (.cells #[.int .i64 z] 3)).alloc (.cells #[.int .i64 0, .int .i64 0, .int .u32 0] 25)).alloc (.cells #[.int .u32 0] 23)) := ⟨_, rfl⟩
  have HX : Hid (w.heap.size = X) := hX
  have hs0 : W0.heap.size = X + 7 := by rw [hW0]; simp [hX]
  have k0 : Kp noB w W0 := by
    rw [hW0]
    exact ((((((Kp.alloc noB w _).trans (Kp.alloc noB _ _)).trans (Kp.alloc noB _ _)).trans (Kp.alloc noB _ _)).trans (Kp.alloc noB _ _)).trans (Kp.alloc noB _ _)).trans (Kp.alloc noB _ _)
  have hb : BxLoad X (.pointer (some ⟨V, 0, none⟩)) (.pointer pc) k off z W0 := by
    rw [hW0, ← hX]
    refine ⟨?_, ?_, ?_, ?_, ?_⟩ <;> simp [go_sem]
  have rF : RowT W0 (X + 5) ⟨0, 0, 0⟩ := by
    have := (MapKept.heap_alloc (((((w.alloc (.cells #[.pointer (some ⟨V, 0, none⟩)] 45)).alloc (.cells #[.pointer pc] 50)).alloc (.cells #[.int .i64 k] 3)).alloc (.cells #[.int .u32 off] 23)).alloc (.cells #[.int .i64 z] 3)) (.cells #[.int .i64 0, .int .i64 0, .int .u32 0] 25)).1
    rw [show ((((((w.alloc (.cells #[.pointer (some ⟨V, 0, none⟩)] 45)).alloc (.cells #[.pointer pc] 50)).alloc (.cells #[.int .i64 k] 3)).alloc (.cells #[.int .u32 off] 23)).alloc (.cells #[.int .i64 z] 3))).heap.size = X + 5 by simp [hX]] at this
    rw [hW0]
    exact RowT.kp (f := ⟨0, 0, 0⟩) this (Kp.alloc noB _ _) (fun f => f)
  have rY : RowV W0 (X + 6) 0 := by
    have := (MapKept.heap_alloc ((((((w.alloc (.cells #[.pointer (some ⟨V, 0, none⟩)] 45)).alloc (.cells #[.pointer pc] 50)).alloc (.cells #[.int .i64 k] 3)).alloc (.cells #[.int .u32 off] 23)).alloc (.cells #[.int .i64 z] 3)).alloc (.cells #[.int .i64 0, .int .i64 0, .int .u32 0] 25)) (.cells #[.int .u32 0] 23)).1
    rw [show ((((((w.alloc (.cells #[.pointer (some ⟨V, 0, none⟩)] 45)).alloc (.cells #[.pointer pc] 50)).alloc (.cells #[.int .i64 k] 3)).alloc (.cells #[.int .u32 off] 23)).alloc (.cells #[.int .i64 z] 3)).alloc (.cells #[.int .i64 0, .int .i64 0, .int .u32 0] 25)).heap.size = X + 6 by simp [hX]] at this
    rw [hW0]
    exact this
  have HC : Hid _ := faultOf_ok W0 37 #[.pointer (some ⟨X, 0, none⟩), .pointer (some ⟨X + 1, 0, none⟩), .pointer (some ⟨X + 2, 0, none⟩), .pointer (some ⟨X + 3, 0, none⟩), .pointer (some ⟨X + 4, 0, none⟩), .pointer (some ⟨X + 6, 0, none⟩)] (fun j => modVm K B q.m.n j ∨ j = X + 6) (fun w' => (∃ tn', tn' ≤ tn + 2 ∧ VmAt w' V K B pl tn' q.m) ∧ RowV w' (X + 6) (q.m.rdS q.s)) (fun j hj => by
      rcases hj with f | f
      · have := hm j f; omega
      · omega) (fun W W' ⟨⟨tn', a, b⟩, c⟩ k => ⟨⟨tn', a, b.kp k (fun j hj => by
      rcases hj with f | f
      · have := HX.out; omega
      · have := hm j f; have := HX.out; omega)⟩, c.kp k (by omega)⟩) (fun W => rfl)
    (fun W kq => (load1_ok W X (X + 6) V K B pl tn (.pointer pc) k off z 0 (rY.kp kq (fun f => f)) (by omega) q hq (BxLoad.kp hb kq (fun j f => f.elim)) (fun j hj => by have := hm j hj; omega) (by omega) (fun W' kr => H.out W' ((k0.trans kq).trans kr))).mono (fun e w' ⟨h1, h2, h3, h4⟩ => ⟨h1, h2, h3, h4⟩))
  have e0 : noFt.val = .agg #[.int .i64 (-1), .int .i64 (-1), .int .u32 0] := rfl
  rw [e0] at HC
  go_enter Try.func16, Try.ntmps16
  go_wp2_with fail
  rw [← hW0]
  refine Calls.mono HC.out ?_
  rintro e w2 ⟨rfl, k2, p2, y2⟩
  have r2 : RowT w2 (X + 5) ⟨0, 0, 0⟩ := (rF.kp k2 (fun f => by
      rcases f with f | f
      · have := hm _ f; omega
      · omega))
  have kA := Kp.alloc noB w2 (.cells #[.int .i64 (-1), .int .i64 (-1), .int .u32 0] 25)
  have rA : RowT (w2.alloc (.cells #[.int .i64 (-1), .int .i64 (-1), .int .u32 0] 25)) w2.heap.size (⟨-1, -1, 0⟩ : Ft) := (MapKept.heap_alloc w2 _).1
  have hl2 := y2.lt
  replace r2 := r2.kp kA (fun f => f)
  replace y2 := y2.kp kA (fun f => f)
  obtain ⟨tn2, ht2, v2⟩ := p2
  replace v2 := v2.kp0 kA
  obtain ⟨W3, hW3⟩ : ∃ W, W = w2.alloc (.cells #[.int .i64 (-1), .int .i64 (-1), .int .u32 0] 25) := ⟨_, rfl⟩
  obtain ⟨T, hT⟩ : ∃ T, T = w2.heap.size := ⟨_, rfl⟩
  have hTX : X + 6 < T := by rw [hT]; exact hl2
  rw [← hW3] at kA rA r2 y2 v2
  rw [← hT] at rA
  have kS := k2.trans (kA.mono (fun _ _ f => f.elim))
  clear HC k2 kA hl2 hb rF rY
  go_wp2_with fail
  rw [← hW3, ← hT]
  clear hW3 hT hW0 hX
  have yc := y2.c
  have a0 := rA.c0; have a1 := rA.c1; have a2 := rA.c2
  have c0 := r2.c0; have c1 := r2.c1; have c2 := r2.c2
  have f0 := r2.fz 0; have f1 := r2.fz 1; have f2 := r2.fz 2
  go_region
  have rE := r2.set (⟨-1, -1, 0⟩ : Ft)
  have kE := kp_setFt W3 (X + 5) (⟨-1, -1, 0⟩ : Ft)
  unfold setFt at rE kE
  have d0 := rE.c0; have d1 := rE.c1; have d2 := rE.c2
  simp only at d0 d1 d2
  go_wp2
  have vE := v2.kp kE (fun j hj e => by
      rcases hj with f | f
      · have := HX.out; omega
      · have := hm j f; have := HX.out; omega)
  have kW : Kp (modVm K B q.m.n) w _ := ((k0.mono (fun _ _ f => f.elim)).over kS (fun j hj f => by
      rcases f with f | f
      · exact f
      · have := HX.out; omega)).over kE (fun j hj e => absurd hj (by have := HX.out; omega))
  refine bodyPost_ret (v := .tuple #[.int .u32 (q.m.rdS q.s), .agg #[.int .i64 (-1), .int .i64 (-1), .int .u32 0]]) ?_ rfl ⟨rfl, ?_⟩
  · simp [results, Try.results16, go_sem, d0, d1, d2]
  · exact ⟨⟨tn2, ht2, vE.kp0 (Kp.refl noB _).drew⟩, kW.drew⟩

theorem store_no (w : World) (pm pc : Option Addr) (k off z v : Int) (f : Ft) (S : Nat → Prop) (P : World → Prop) (hS : ∀ j, S j → j < w.heap.size) (hP : ∀ W W', P W → Kp (fun j => w.heap.size ≤ j) W W' → P W')
    (H : Hid (∀ W, Kp noB w W → Calls Try.prog 33 #[.pointer pm, .pointer pc, .int .i64 k, .int .u32 off, .int .i64 z, .bool true] W fun e w' => e = .panicked (pan f) ∧ Kp S W w' ∧ P w')) :
    Calls Try.prog 15 #[.pointer pm, .pointer pc, .int .i64 k, .int .u32 off, .int .i64 z, .int .u32 v] w fun e w' => e = .returned f.val ∧ Kp S w w' ∧ P w' := by
  have hmf := hmf
  obtain ⟨X, hX⟩ : ∃ X, w.heap.size = X := ⟨_, rfl⟩
  obtain ⟨W0, hW0⟩ : ∃ W, W = (((((((w.alloc (.cells #[.pointer pm] 45)).alloc (.cells #[.pointer pc] 50)).alloc (.cells #[.int .i64 k] 3)).alloc (.cells #[.int .u32 off] 23)).alloc (.cells #[.int .i64 z] 3)).alloc (.cells #[.int .u32 v] 23)).alloc (.cells #[.int .i64 0, .int .i64 0, .int .u32 0] 25)) := ⟨_, rfl⟩
  have HX : Hid (w.heap.size = X) := hX
  have hs0 : W0.heap.size = X + 7 := by rw [hW0]; simp [hX]
  have k0 : Kp noB w W0 := by
    rw [hW0]
    exact ((((((Kp.alloc noB w _).trans (Kp.alloc noB _ _)).trans (Kp.alloc noB _ _)).trans (Kp.alloc noB _ _)).trans (Kp.alloc noB _ _)).trans (Kp.alloc noB _ _)).trans (Kp.alloc noB _ _)
  have hb : BxStore X (.pointer pm) (.pointer pc) k off z v W0 := by
    rw [hW0, ← hX]
    refine ⟨?_, ?_, ?_, ?_, ?_, ?_⟩ <;> simp [go_sem]
  have rF : RowT W0 (X + 6) ⟨0, 0, 0⟩ := by
    have := (MapKept.heap_alloc ((((((w.alloc (.cells #[.pointer pm] 45)).alloc (.cells #[.pointer pc] 50)).alloc (.cells #[.int .i64 k] 3)).alloc (.cells #[.int .u32 off] 23)).alloc (.cells #[.int .i64 z] 3)).alloc (.cells #[.int .u32 v] 23)) (.cells #[.int .i64 0, .int .i64 0, .int .u32 0] 25)).1
    rw [show (((((((w.alloc (.cells #[.pointer pm] 45)).alloc (.cells #[.pointer pc] 50)).alloc (.cells #[.int .i64 k] 3)).alloc (.cells #[.int .u32 off] 23)).alloc (.cells #[.int .i64 z] 3)).alloc (.cells #[.int .u32 v] 23))).heap.size = X + 6 by simp [hX]] at this
    rw [hW0]
    exact this
  have hSn : ∀ j, X ≤ j → ¬ S j := fun j hj f => by have := hS j f; omega
  have HC : Hid _ := faultOf_no W0 35 #[.pointer (some ⟨X, 0, none⟩), .pointer (some ⟨X + 1, 0, none⟩), .pointer (some ⟨X + 2, 0, none⟩), .pointer (some ⟨X + 3, 0, none⟩), .pointer (some ⟨X + 4, 0, none⟩), .pointer (some ⟨X + 5, 0, none⟩)] f S (fun w' => P w' ∧ RowT w' (X + 6) ⟨0, 0, 0⟩) (fun j hj => by have := hS j hj; omega) (fun W W' ⟨p, a⟩ k => ⟨hP W W' p (k.mono (fun j _ hj => by omega)), a.kp k (by omega)⟩) (fun W => rfl)
    (fun W kq => (store1_no W X (.pointer pm) (.pointer pc) k off z v f S P (BxStore.kp hb kq (fun j f => f.elim)) (fun W' kr => H.out W' ((k0.trans kq).trans kr))).mono (fun e w' ⟨h1, h2, h3⟩ => ⟨h1, h2, h3, (rF.kp kq (fun f => f)).kp h2 (hSn _ (by omega))⟩))
  rw [Ft.val_is] at HC
  go_enter Try.func15, Try.ntmps15
  go_wp2_with fail
  rw [← hW0]
  refine Calls.mono HC.out ?_
  rintro e w2 ⟨rfl, k2, p2, r2⟩
  have c0 := r2.c0; have c1 := r2.c1; have c2 := r2.c2
  have f0 := r2.fz 0; have f1 := r2.fz 1; have f2 := r2.fz 2
  have rE := r2.set f
  have kE := kp_setFt w2 (X + 6) f
  unfold setFt at rE kE
  have d0 := rE.c0; have d1 := rE.c1; have d2 := rE.c2
  clear HC hb rF hW0
  go_wp2
  have pE := hP _ _ p2 (kE.mono (fun j _ e => by have := HX.out; omega))
  have kW : Kp S w _ := ((k0.mono (fun _ _ f => f.elim)).trans k2).over kE (fun j hj e => absurd hj (by have := HX.out; omega))
  refine bodyPost_ret (v := .agg #[.int .i64 f.vec, .int .i64 f.code, .int .u32 f.cr2]) ?_ rfl ⟨rfl, ?_⟩
  · simp [results, Try.results15, go_sem, d0, d1, d2]
  · exact ⟨kW, pE⟩

theorem store_ok (w : World) (V K B pl tn : Nat) (pc : Option Addr) (k off z v : Int) (v0 : 0 ≤ v) (v1 : v < 4294967296) (q : Qy) (hq : q.s.Ok) (hm : ∀ j, modVm K B q.m.n j → j < w.heap.size) (hV : V < w.heap.size)
    (H : Hid (∀ W, Kp noB w W → Calls Try.prog 33 #[.pointer (some ⟨V, 0, none⟩), .pointer pc, .int .i64 k, .int .u32 off, .int .i64 z, .bool true] W fun e w' => e = .returned q.s.val ∧ VmP W V K B pl tn q.m 2 w')) :
    Calls Try.prog 15 #[.pointer (some ⟨V, 0, none⟩), .pointer pc, .int .i64 k, .int .u32 off, .int .i64 z, .int .u32 v] w fun e w' => e = .returned noFt.val ∧ VmP w V K B pl tn (q.m.wrS q.s v) 2 w' := by
  have hmf := hmf
  obtain ⟨X, hX⟩ : ∃ X, w.heap.size = X := ⟨_, rfl⟩
  obtain ⟨W0, hW0⟩ : ∃ W, W = (((((((w.alloc (.cells #[.pointer (some ⟨V, 0, none⟩)] 45)).alloc (.cells #[.pointer pc] 50)).alloc (.cells #[.int .i64 k] 3)).alloc (.cells #[.int .u32 off] 23)).alloc (.cells #[.int .i64 z] 3)).alloc (.cells #[.int .u32 v] 23)).alloc (.cells #[.int .i64 0, .int .i64 0, .int .u32 0] 25)) := ⟨_, rfl⟩
  have HX : Hid (w.heap.size = X) := hX
  have hs0 : W0.heap.size = X + 7 := by rw [hW0]; simp [hX]
  have k0 : Kp noB w W0 := by
    rw [hW0]
    exact ((((((Kp.alloc noB w _).trans (Kp.alloc noB _ _)).trans (Kp.alloc noB _ _)).trans (Kp.alloc noB _ _)).trans (Kp.alloc noB _ _)).trans (Kp.alloc noB _ _)).trans (Kp.alloc noB _ _)
  have hb : BxStore X (.pointer (some ⟨V, 0, none⟩)) (.pointer pc) k off z v W0 := by
    rw [hW0, ← hX]
    refine ⟨?_, ?_, ?_, ?_, ?_, ?_⟩ <;> simp [go_sem]
  have rF : RowT W0 (X + 6) ⟨0, 0, 0⟩ := by
    have := (MapKept.heap_alloc ((((((w.alloc (.cells #[.pointer (some ⟨V, 0, none⟩)] 45)).alloc (.cells #[.pointer pc] 50)).alloc (.cells #[.int .i64 k] 3)).alloc (.cells #[.int .u32 off] 23)).alloc (.cells #[.int .i64 z] 3)).alloc (.cells #[.int .u32 v] 23)) (.cells #[.int .i64 0, .int .i64 0, .int .u32 0] 25)).1
    rw [show (((((((w.alloc (.cells #[.pointer (some ⟨V, 0, none⟩)] 45)).alloc (.cells #[.pointer pc] 50)).alloc (.cells #[.int .i64 k] 3)).alloc (.cells #[.int .u32 off] 23)).alloc (.cells #[.int .i64 z] 3)).alloc (.cells #[.int .u32 v] 23))).heap.size = X + 6 by simp [hX]] at this
    rw [hW0]
    exact this
  have hn2 : (q.m.wrS q.s v).n = q.m.n := (wrK_same q.m q.s v q.s.n).1
  have HC : Hid _ := faultOf_ok W0 35 #[.pointer (some ⟨X, 0, none⟩), .pointer (some ⟨X + 1, 0, none⟩), .pointer (some ⟨X + 2, 0, none⟩), .pointer (some ⟨X + 3, 0, none⟩), .pointer (some ⟨X + 4, 0, none⟩), .pointer (some ⟨X + 5, 0, none⟩)] (modVm K B q.m.n) (fun w' => ∃ tn', tn' ≤ tn + 2 ∧ VmAt w' V K B pl tn' (q.m.wrS q.s v)) (fun j hj => by have := hm j hj; omega) (fun W W' ⟨tn', a, b⟩ k => ⟨tn', a, b.kp k (fun j hj => by
      rcases hj with f | f
      · have := HX.out; omega
      · rw [hn2] at f; have := hm j f; have := HX.out; omega)⟩) (fun W => rfl)
    (fun W kq => (store1_ok W X V K B pl tn (.pointer pc) k off z v v0 v1 q hq (BxStore.kp hb kq (fun j f => f.elim)) (fun j hj => by have := hm j hj; omega) (by omega) (fun W' kr => H.out W' ((k0.trans kq).trans kr))).mono (fun e w' ⟨h1, h2, h3⟩ => ⟨h1, by rw [hn2] at h3; exact h3, h2⟩))
  have e0 : noFt.val = .agg #[.int .i64 (-1), .int .i64 (-1), .int .u32 0] := rfl
  rw [e0] at HC
  go_enter Try.func15, Try.ntmps15
  go_wp2_with fail
  rw [← hW0]
  refine Calls.mono HC.out ?_
  rintro e w2 ⟨rfl, k2, p2⟩
  have r2 : RowT w2 (X + 6) ⟨0, 0, 0⟩ := (rF.kp k2 (fun f => by have := hm _ f; omega))
  have c0 := r2.c0; have c1 := r2.c1; have c2 := r2.c2
  have f0 := r2.fz 0; have f1 := r2.fz 1; have f2 := r2.fz 2
  have rE := r2.set (⟨-1, -1, 0⟩ : Ft)
  have kE := kp_setFt w2 (X + 6) (⟨-1, -1, 0⟩ : Ft)
  unfold setFt at rE kE
  have d0 := rE.c0; have d1 := rE.c1; have d2 := rE.c2
  simp only at d0 d1 d2
  clear HC hb rF hW0
  go_wp2
  obtain ⟨tn2, ht2, v2⟩ := p2
  have vE := v2.kp kE (fun j hj e => by
      rcases hj with f | f
      · have := HX.out; omega
      · rw [hn2] at f; have := hm j f; have := HX.out; omega)
  have kW : Kp (modVm K B q.m.n) w _ := ((k0.mono (fun _ _ f => f.elim)).trans k2).over kE (fun j hj e => absurd hj (by have := HX.out; omega))
  refine bodyPost_ret (v := .agg #[.int .i64 (-1), .int .i64 (-1), .int .u32 0]) ?_ rfl ⟨rfl, ?_⟩
  · simp [results, Try.results15, go_sem, d0, d1, d2]
  · exact ⟨⟨tn2, ht2, vE⟩, by rw [hn2]; exact kW⟩

theorem check_no (w : World) (pm pc : Option Addr) (k off z : Int) (f : Ft) (S : Nat → Prop) (P : World → Prop) (hS : ∀ j, S j → j < w.heap.size) (hP : ∀ W W', P W → Kp (fun j => w.heap.size ≤ j) W W' → P W')
    (H : Hid (∀ W, Kp noB w W → Calls Try.prog 33 #[.pointer pm, .pointer pc, .int .i64 k, .int .u32 off, .int .i64 z, .bool true] W fun e w' => e = .panicked (pan f) ∧ Kp S W w' ∧ P w')) :
    Calls Try.prog 12 #[.pointer pm, .pointer pc, .int .i64 k, .int .u32 off, .int .i64 z] w fun e w' => e = .returned f.val ∧ Kp S w w' ∧ P w' := by
  have hmf := hmf
  obtain ⟨X, hX⟩ : ∃ X, w.heap.size = X := ⟨_, rfl⟩
  obtain ⟨W0, hW0⟩ : ∃ W, W = ((((((w.alloc (.cells #[.pointer pm] 45)).alloc (.cells #[.pointer pc] 50)).alloc (.cells #[.int .i64 k] 3)).alloc (.cells #[.int .u32 off] 23)).alloc (.cells #[.int .i64 z] 3)).alloc (.cells #[.int .i64 0, .int .i64 0, .int .u32 0] 25)) := ⟨_, rfl⟩
  have HX : Hid (w.heap.size = X) := hX
  have hs0 : W0.heap.size = X + 6 := by rw [hW0]; simp [hX]
  have k0 : Kp noB w W0 := by
    rw [hW0]
    exact (((((Kp.alloc noB w _).trans (Kp.alloc noB _ _)).trans (Kp.alloc noB _ _)).trans (Kp.alloc noB _ _)).trans (Kp.alloc noB _ _)).trans (Kp.alloc noB _ _)
  have hb : BxCheck X (.pointer pm) (.pointer pc) k off z W0 := by
    rw [hW0, ← hX]
    refine ⟨?_, ?_, ?_, ?_, ?_⟩ <;> simp [go_sem]
  have rF : RowT W0 (X + 5) ⟨0, 0, 0⟩ := by
    have := (MapKept.heap_alloc (((((w.alloc (.cells #[.pointer pm] 45)).alloc (.cells #[.pointer pc] 50)).alloc (.cells #[.int .i64 k] 3)).alloc (.cells #[.int .u32 off] 23)).alloc (.cells #[.int .i64 z] 3)) (.cells #[.int .i64 0, .int .i64 0, .int .u32 0] 25)).1
    rw [show ((((((w.alloc (.cells #[.pointer pm] 45)).alloc (.cells #[.pointer pc] 50)).alloc (.cells #[.int .i64 k] 3)).alloc (.cells #[.int .u32 off] 23)).alloc (.cells #[.int .i64 z] 3))).heap.size = X + 5 by simp [hX]] at this
    rw [hW0]
    exact this
  have hSn : ∀ j, X ≤ j → ¬ S j := fun j hj f => by have := hS j f; omega
  have HC : Hid _ := faultOf_no W0 32 #[.pointer (some ⟨X, 0, none⟩), .pointer (some ⟨X + 1, 0, none⟩), .pointer (some ⟨X + 2, 0, none⟩), .pointer (some ⟨X + 3, 0, none⟩), .pointer (some ⟨X + 4, 0, none⟩)] f S (fun w' => P w' ∧ RowT w' (X + 5) ⟨0, 0, 0⟩) (fun j hj => by have := hS j hj; omega) (fun W W' ⟨p, a⟩ k => ⟨hP W W' p (k.mono (fun j _ hj => by omega)), a.kp k (by omega)⟩) (fun W => rfl)
    (fun W kq => (check1_no W X (.pointer pm) (.pointer pc) k off z f S P (BxCheck.kp hb kq (fun j f => f.elim)) (fun W' kr => H.out W' ((k0.trans kq).trans kr))).mono (fun e w' ⟨h1, h2, h3⟩ => ⟨h1, h2, h3, (rF.kp kq (fun f => f)).kp h2 (hSn _ (by omega))⟩))
  rw [Ft.val_is] at HC
  go_enter Try.func12, Try.ntmps12
  go_wp2_with fail
  rw [← hW0]
  refine Calls.mono HC.out ?_
  rintro e w2 ⟨rfl, k2, p2, r2⟩
  have c0 := r2.c0; have c1 := r2.c1; have c2 := r2.c2
  have f0 := r2.fz 0; have f1 := r2.fz 1; have f2 := r2.fz 2
  have rE := r2.set f
  have kE := kp_setFt w2 (X + 5) f
  unfold setFt at rE kE
  have d0 := rE.c0; have d1 := rE.c1; have d2 := rE.c2
  clear HC hb rF hW0
  go_wp2
  have pE := hP _ _ p2 (kE.mono (fun j _ e => by have := HX.out; omega))
  have kW : Kp S w _ := ((k0.mono (fun _ _ f => f.elim)).trans k2).over kE (fun j hj e => absurd hj (by have := HX.out; omega))
  refine bodyPost_ret (v := .agg #[.int .i64 f.vec, .int .i64 f.code, .int .u32 f.cr2]) ?_ rfl ⟨rfl, ?_⟩
  · simp [results, Try.results12, go_sem, d0, d1, d2]
  · exact ⟨kW, pE⟩

theorem check_ok (w : World) (V K B pl tn : Nat) (pc : Option Addr) (k off z : Int) (q : Qy) (hq : q.s.Ok) (hm : ∀ j, modVm K B q.m.n j → j < w.heap.size) (hV : V < w.heap.size)
    (H : Hid (∀ W, Kp noB w W → Calls Try.prog 33 #[.pointer (some ⟨V, 0, none⟩), .pointer pc, .int .i64 k, .int .u32 off, .int .i64 z, .bool true] W fun e w' => e = .returned q.s.val ∧ VmP W V K B pl tn q.m 2 w')) :
    Calls Try.prog 12 #[.pointer (some ⟨V, 0, none⟩), .pointer pc, .int .i64 k, .int .u32 off, .int .i64 z] w fun e w' => e = .returned noFt.val ∧ VmP w V K B pl tn q.m 2 w' := by
  have hmf := hmf
  obtain ⟨X, hX⟩ : ∃ X, w.heap.size = X := ⟨_, rfl⟩
  obtain ⟨W0, hW0⟩ : ∃ W, W = ((((((w.alloc (.cells #[.pointer (some ⟨V, 0, none⟩)] 45)).alloc (.cells #[.pointer pc] 50)).alloc (.cells #[.int .i64 k] 3)).alloc (.cells #[.int .u32 off] 23)).alloc (.cells #[.int .i64 z] 3)).alloc (.cells #[.int .i64 0, .int .i64 0, .int .u32 0] 25)) := ⟨_, rfl⟩
  have HX : Hid (w.heap.size = X) := hX
  have hs0 : W0.heap.size = X + 6 := by rw [hW0]; simp [hX]
  have k0 : Kp noB w W0 := by
    rw [hW0]
    exact (((((Kp.alloc noB w _).trans (Kp.alloc noB _ _)).trans (Kp.alloc noB _ _)).trans (Kp.alloc noB _ _)).trans (Kp.alloc noB _ _)).trans (Kp.alloc noB _ _)
  have hb : BxCheck X (.pointer (some ⟨V, 0, none⟩)) (.pointer pc) k off z W0 := by
    rw [hW0, ← hX]
    refine ⟨?_, ?_, ?_, ?_, ?_⟩ <;> simp [go_sem]
  have rF : RowT W0 (X + 5) ⟨0, 0, 0⟩ := by
    have := (MapKept.heap_alloc (((((w.alloc (.cells #[.pointer (some ⟨V, 0, none⟩)] 45)).alloc (.cells #[.pointer pc] 50)).alloc (.cells #[.int .i64 k] 3)).alloc (.cells #[.int .u32 off] 23)).alloc (.cells #[.int .i64 z] 3)) (.cells #[.int .i64 0, .int .i64 0, .int .u32 0] 25)).1
    rw [show ((((((w.alloc (.cells #[.pointer (some ⟨V, 0, none⟩)] 45)).alloc (.cells #[.pointer pc] 50)).alloc (.cells #[.int .i64 k] 3)).alloc (.cells #[.int .u32 off] 23)).alloc (.cells #[.int .i64 z] 3))).heap.size = X + 5 by simp [hX]] at this
    rw [hW0]
    exact this
  have hn2 : Hid (q.m.n = q.m.n) := rfl
  have HC : Hid _ := faultOf_ok W0 32 #[.pointer (some ⟨X, 0, none⟩), .pointer (some ⟨X + 1, 0, none⟩), .pointer (some ⟨X + 2, 0, none⟩), .pointer (some ⟨X + 3, 0, none⟩), .pointer (some ⟨X + 4, 0, none⟩)] (modVm K B q.m.n) (fun w' => ∃ tn', tn' ≤ tn + 2 ∧ VmAt w' V K B pl tn' q.m) (fun j hj => by have := hm j hj; omega) (fun W W' ⟨tn', a, b⟩ k => ⟨tn', a, b.kp k (fun j hj => by
      rcases hj with f | f
      · have := HX.out; omega
      · have := hm j f; have := HX.out; omega)⟩) (fun W => rfl)
    (fun W kq => (check1_ok W X V K B pl tn (.pointer pc) k off z q hq (BxCheck.kp hb kq (fun j f => f.elim)) (fun j hj => by have := hm j hj; omega) (by omega) (fun W' kr => H.out W' ((k0.trans kq).trans kr))).mono (fun e w' ⟨h1, h2, h3⟩ => ⟨h1, h3, h2⟩))
  have e0 : noFt.val = .agg #[.int .i64 (-1), .int .i64 (-1), .int .u32 0] := rfl
  rw [e0] at HC
  go_enter Try.func12, Try.ntmps12
  go_wp2_with fail
  rw [← hW0]
  refine Calls.mono HC.out ?_
  rintro e w2 ⟨rfl, k2, p2⟩
  have r2 : RowT w2 (X + 5) ⟨0, 0, 0⟩ := (rF.kp k2 (fun f => by have := hm _ f; omega))
  have c0 := r2.c0; have c1 := r2.c1; have c2 := r2.c2
  have f0 := r2.fz 0; have f1 := r2.fz 1; have f2 := r2.fz 2
  have rE := r2.set (⟨-1, -1, 0⟩ : Ft)
  have kE := kp_setFt w2 (X + 5) (⟨-1, -1, 0⟩ : Ft)
  unfold setFt at rE kE
  have d0 := rE.c0; have d1 := rE.c1; have d2 := rE.c2
  simp only at d0 d1 d2
  clear HC hb rF hW0
  go_wp2
  obtain ⟨tn2, ht2, v2⟩ := p2
  have vE := v2.kp kE (fun j hj e => by
      rcases hj with f | f
      · have := HX.out; omega
      · have := hm j f; have := HX.out; omega)
  have kW : Kp (modVm K B q.m.n) w _ := ((k0.mono (fun _ _ f => f.elim)).trans k2).over kE (fun j hj e => absurd hj (by have := HX.out; omega))
  refine bodyPost_ret (v := .agg #[.int .i64 (-1), .int .i64 (-1), .int .u32 0]) ?_ rfl ⟨rfl, ?_⟩
  · simp [results, Try.results12, go_sem, d0, d1, d2]
  · exact ⟨⟨tn2, ht2, vE⟩, kW⟩

theorem sys_no (w : World) (pm pc : Option Addr) (off z : Int) (f : Ft) (S : Nat → Prop) (P : World → Prop) (hS : ∀ j, S j → j < w.heap.size) (hP : ∀ W W', P W → Kp (fun j => w.heap.size ≤ j) W W' → P W')
    (H : Hid (∀ W, Kp noB w W → Calls Try.prog 40 #[.pointer pm, .pointer pc, .int .u32 off, .int .i64 z, .bool false] W fun e w' => e = .panicked (pan f) ∧ Kp S W w' ∧ P w')) :
    Calls Try.prog 19 #[.pointer pm, .pointer pc, .int .u32 off, .int .i64 z] w fun e w' => e = .returned (.tuple #[.int .u32 0, f.val]) ∧ Kp S w w' ∧ P w' := by
  have hmf := hmf
  obtain ⟨X, hX⟩ : ∃ X, w.heap.size = X := ⟨_, rfl⟩
  obtain ⟨W0, hW0⟩ : ∃ W, W = ((((((w.alloc (.cells #[.pointer pm] 45)).alloc (.cells #[.pointer pc] 50)).alloc (.cells #[.int .u32 off] 23)).alloc (.cells #[.int .i64 z] 3)).alloc (.cells #[.int .i64 0, .int .i64 0, .int .u32 0] 25)).alloc (.cells #[.int .u32 0] 23)) := ⟨_, rfl⟩
  have HX : Hid (w.heap.size = X) := hX
  have hs0 : W0.heap.size = X + 6 := by rw [hW0]; simp [hX]
  have k0 : Kp noB w W0 := by
    rw [hW0]
    exact (((((Kp.alloc noB w _).trans (Kp.alloc noB _ _)).trans (Kp.alloc noB _ _)).trans (Kp.alloc noB _ _)).trans (Kp.alloc noB _ _)).trans (Kp.alloc noB _ _)
  have hb : BxSys X (.pointer pm) (.pointer pc) off z W0 := by
    rw [hW0, ← hX]
    refine ⟨?_, ?_, ?_, ?_⟩ <;> simp [go_sem]
  have rF : RowT W0 (X + 4) ⟨0, 0, 0⟩ := by
    have := (MapKept.heap_alloc ((((w.alloc (.cells #[.pointer pm] 45)).alloc (.cells #[.pointer pc] 50)).alloc (.cells #[.int .u32 off] 23)).alloc (.cells #[.int .i64 z] 3)) (.cells #[.int .i64 0, .int .i64 0, .int .u32 0] 25)).1
    rw [show (((((w.alloc (.cells #[.pointer pm] 45)).alloc (.cells #[.pointer pc] 50)).alloc (.cells #[.int .u32 off] 23)).alloc (.cells #[.int .i64 z] 3))).heap.size = X + 4 by simp [hX]] at this
    rw [hW0]
    exact RowT.kp (f := ⟨0, 0, 0⟩) this (Kp.alloc noB _ _) (fun f => f)
  have rY : RowV W0 (X + 5) 0 := by
    have := (MapKept.heap_alloc (((((w.alloc (.cells #[.pointer pm] 45)).alloc (.cells #[.pointer pc] 50)).alloc (.cells #[.int .u32 off] 23)).alloc (.cells #[.int .i64 z] 3)).alloc (.cells #[.int .i64 0, .int .i64 0, .int .u32 0] 25)) (.cells #[.int .u32 0] 23)).1
    rw [show (((((w.alloc (.cells #[.pointer pm] 45)).alloc (.cells #[.pointer pc] 50)).alloc (.cells #[.int .u32 off] 23)).alloc (.cells #[.int .i64 z] 3)).alloc (.cells #[.int .i64 0, .int .i64 0, .int .u32 0] 25)).heap.size = X + 5 by simp [hX]] at this
    rw [hW0]
    exact this
  have hSn : ∀ j, X ≤ j → ¬ S j := fun j hj f => by have := hS j f; omega
  have HC : Hid _ := faultOf_no W0 41 #[.pointer (some ⟨X, 0, none⟩), .pointer (some ⟨X + 1, 0, none⟩), .pointer (some ⟨X + 2, 0, none⟩), .pointer (some ⟨X + 3, 0, none⟩), .pointer (some ⟨X + 5, 0, none⟩)] f S (fun w' => P w' ∧ RowT w' (X + 4) ⟨0, 0, 0⟩ ∧ RowV w' (X + 5) 0) (fun j hj => by have := hS j hj; omega) (fun W W' ⟨p, a, b⟩ k => ⟨hP W W' p (k.mono (fun j _ hj => by omega)), a.kp k (by omega), b.kp k (by omega)⟩) (fun W => rfl)
    (fun W kq => (sys1_no W X (X + 5) (.pointer pm) (.pointer pc) off z f S P (BxSys.kp hb kq (fun j f => f.elim)) (fun W' kr => H.out W' ((k0.trans kq).trans kr))).mono (fun e w' ⟨h1, h2, h3⟩ => ⟨h1, h2, h3, (rF.kp kq (fun f => f)).kp h2 (hSn _ (by omega)), (rY.kp kq (fun f => f)).kp h2 (hSn _ (by omega))⟩))
  rw [Ft.val_is] at HC
  go_enter Try.func19, Try.ntmps19
  go_wp2_with fail
  rw [← hW0]
  refine Calls.mono HC.out ?_
  rintro e w2 ⟨rfl, k2, p2, r2, y2⟩
  have kA := Kp.alloc noB w2 (.cells #[.int .i64 f.vec, .int .i64 f.code, .int .u32 f.cr2] 25)
  have rA : RowT (w2.alloc (.cells #[.int .i64 f.vec, .int .i64 f.code, .int .u32 f.cr2] 25)) w2.heap.size f := (MapKept.heap_alloc w2 _).1
  have hl2 := y2.lt
  replace r2 := r2.kp kA (fun f => f)
  replace y2 := y2.kp kA (fun f => f)
  replace p2 := hP _ _ p2 (kA.mono (fun _ _ f => f.elim))
  obtain ⟨W3, hW3⟩ : ∃ W, W = w2.alloc (.cells #[.int .i64 f.vec, .int .i64 f.code, .int .u32 f.cr2] 25) := ⟨_, rfl⟩
  obtain ⟨T, hT⟩ : ∃ T, T = w2.heap.size := ⟨_, rfl⟩
  have hTX : X + 5 < T := by rw [hT]; exact hl2
  rw [← hW3] at kA rA r2 y2 p2
  rw [← hT] at rA
  have kS := k2.trans (kA.mono (fun _ _ f => f.elim))
  clear HC k2 kA hl2 hb rF rY
  go_wp2_with fail
  rw [← hW3, ← hT]
  clear hW3 hT hW0 hX
  have yc := y2.c
  have a0 := rA.c0; have a1 := rA.c1; have a2 := rA.c2
  have c0 := r2.c0; have c1 := r2.c1; have c2 := r2.c2
  have f0 := r2.fz 0; have f1 := r2.fz 1; have f2 := r2.fz 2
  go_region
  have rE := r2.set f
  have kE := kp_setFt W3 (X + 4) f
  unfold setFt at rE kE
  have d0 := rE.c0; have d1 := rE.c1; have d2 := rE.c2
  go_wp2
  have pE := hP _ _ p2 (kE.mono (fun j _ e => by have := HX.out; omega))
  have kW : Kp S w _ := ((k0.mono (fun _ _ f => f.elim)).trans kS).over kE (fun j hj e => absurd hj (by have := HX.out; omega))
  have pD := hP _ _ pE (Kp.refl (fun j => w.heap.size ≤ j) _).drew
  refine bodyPost_ret (v := .tuple #[.int .u32 0, .agg #[.int .i64 f.vec, .int .i64 f.code, .int .u32 f.cr2]]) ?_ rfl ⟨rfl, ?_⟩
  · simp [results, Try.results19, go_sem, d0, d1, d2]
  · exact ⟨kW.drew, pD⟩

theorem sys_ok (w : World) (V K B pl tn : Nat) (pc : Option Addr) (off z : Int) (q : Qy) (hq : q.s.Ok) (hm : ∀ j, modVm K B q.m.n j → j < w.heap.size) (hV : V < w.heap.size)
    (H : Hid (∀ W, Kp noB w W → Calls Try.prog 40 #[.pointer (some ⟨V, 0, none⟩), .pointer pc, .int .u32 off, .int .i64 z, .bool false] W fun e w' => e = .returned q.s.val ∧ VmP W V K B pl tn q.m 2 w')) :
    Calls Try.prog 19 #[.pointer (some ⟨V, 0, none⟩), .pointer pc, .int .u32 off, .int .i64 z] w fun e w' => e = .returned (.tuple #[.int .u32 (q.m.rdS q.s), noFt.val]) ∧ VmP w V K B pl tn q.m 2 w' := by
  have hmf := hmf
  obtain ⟨X, hX⟩ : ∃ X, w.heap.size = X := ⟨_, rfl⟩
  obtain ⟨W0, hW0⟩ : ∃ W, W = ((((((w.alloc (.cells #[.pointer (some ⟨V, 0, none⟩)] 45)).alloc (.cells #[.pointer pc] 50)).alloc (.cells #[.int .u32 off] 23)).alloc (.cells #[.int .i64 z] 3)).alloc (.cells #[.int .i64 0, .int .i64 0, .int .u32 0] 25)).alloc (.cells #[.int .u32 0] 23)) := ⟨_, rfl⟩
  have HX : Hid (w.heap.size = X) := hX
  have hs0 : W0.heap.size = X + 6 := by rw [hW0]; simp [hX]
  have k0 : Kp noB w W0 := by
    rw [hW0]
    exact (((((Kp.alloc noB w _).trans (Kp.alloc noB _ _)).trans (Kp.alloc noB _ _)).trans (Kp.alloc noB _ _)).trans (Kp.alloc noB _ _)).trans (Kp.alloc noB _ _)
  have hb : BxSys X (.pointer (some ⟨V, 0, none⟩)) (.pointer pc) off z W0 := by
    rw [hW0, ← hX]
    refine ⟨?_, ?_, ?_, ?_⟩ <;> simp [go_sem]
  have rF : RowT W0 (X + 4) ⟨0, 0, 0⟩ := by
    have := (MapKept.heap_alloc ((((w.alloc (.cells #[.pointer (some ⟨V, 0, none⟩)] 45)).alloc (.cells #[.pointer pc] 50)).alloc (.cells #[.int .u32 off] 23)).alloc (.cells #[.int .i64 z] 3)) (.cells #[.int .i64 0, .int .i64 0, .int .u32 0] 25)).1
    rw [show (((((w.alloc (.cells #[.pointer (some ⟨V, 0, none⟩)] 45)).alloc (.cells #[.pointer pc] 50)).alloc (.cells #[.int .u32 off] 23)).alloc (.cells #[.int .i64 z] 3))).heap.size = X + 4 by simp [hX]] at this
    rw [hW0]
    exact RowT.kp (f := ⟨0, 0, 0⟩) this (Kp.alloc noB _ _) (fun f => f)
  have rY : RowV W0 (X + 5) 0 := by
    have := (MapKept.heap_alloc (((((w.alloc (.cells #[.pointer (some ⟨V, 0, none⟩)] 45)).alloc (.cells #[.pointer pc] 50)).alloc (.cells #[.int .u32 off] 23)).alloc (.cells #[.int .i64 z] 3)).alloc (.cells #[.int .i64 0, .int .i64 0, .int .u32 0] 25)) (.cells #[.int .u32 0] 23)).1
    rw [show (((((w.alloc (.cells #[.pointer (some ⟨V, 0, none⟩)] 45)).alloc (.cells #[.pointer pc] 50)).alloc (.cells #[.int .u32 off] 23)).alloc (.cells #[.int .i64 z] 3)).alloc (.cells #[.int .i64 0, .int .i64 0, .int .u32 0] 25)).heap.size = X + 5 by simp [hX]] at this
    rw [hW0]
    exact this
  have HC : Hid _ := faultOf_ok W0 41 #[.pointer (some ⟨X, 0, none⟩), .pointer (some ⟨X + 1, 0, none⟩), .pointer (some ⟨X + 2, 0, none⟩), .pointer (some ⟨X + 3, 0, none⟩), .pointer (some ⟨X + 5, 0, none⟩)] (fun j => modVm K B q.m.n j ∨ j = X + 5) (fun w' => (∃ tn', tn' ≤ tn + 2 ∧ VmAt w' V K B pl tn' q.m) ∧ RowV w' (X + 5) (q.m.rdS q.s)) (fun j hj => by
      rcases hj with f | f
      · have := hm j f; omega
      · omega) (fun W W' ⟨⟨tn', a, b⟩, c⟩ k => ⟨⟨tn', a, b.kp k (fun j hj => by
      rcases hj with f | f
      · have := HX.out; omega
      · have := hm j f; have := HX.out; omega)⟩, c.kp k (by omega)⟩) (fun W => rfl)
    (fun W kq => (sys1_ok W X (X + 5) V K B pl tn (.pointer pc) off z 0 (rY.kp kq (fun f => f)) (by omega) q hq (BxSys.kp hb kq (fun j f => f.elim)) (fun j hj => by have := hm j hj; omega) (by omega) (fun W' kr => H.out W' ((k0.trans kq).trans kr))).mono (fun e w' ⟨h1, h2, h3, h4⟩ => ⟨h1, h2, h3, h4⟩))
  have e0 : noFt.val = .agg #[.int .i64 (-1), .int .i64 (-1), .int .u32 0] := rfl
  rw [e0] at HC
  go_enter Try.func19, Try.ntmps19
  go_wp2_with fail
  rw [← hW0]
  refine Calls.mono HC.out ?_
  rintro e w2 ⟨rfl, k2, p2, y2⟩
  have r2 : RowT w2 (X + 4) ⟨0, 0, 0⟩ := (rF.kp k2 (fun f => by
      rcases f with f | f
      · have := hm _ f; omega
      · omega))
  have kA := Kp.alloc noB w2 (.cells #[.int .i64 (-1), .int .i64 (-1), .int .u32 0] 25)
  have rA : RowT (w2.alloc (.cells #[.int .i64 (-1), .int .i64 (-1), .int .u32 0] 25)) w2.heap.size (⟨-1, -1, 0⟩ : Ft) := (MapKept.heap_alloc w2 _).1
  have hl2 := y2.lt
  replace r2 := r2.kp kA (fun f => f)
  replace y2 := y2.kp kA (fun f => f)
  obtain ⟨tn2, ht2, v2⟩ := p2
  replace v2 := v2.kp0 kA
  obtain ⟨W3, hW3⟩ : ∃ W, W = w2.alloc (.cells #[.int .i64 (-1), .int .i64 (-1), .int .u32 0] 25) := ⟨_, rfl⟩
  obtain ⟨T, hT⟩ : ∃ T, T = w2.heap.size := ⟨_, rfl⟩
  have hTX : X + 5 < T := by rw [hT]; exact hl2
  rw [← hW3] at kA rA r2 y2 v2
  rw [← hT] at rA
  have kS := k2.trans (kA.mono (fun _ _ f => f.elim))
  clear HC k2 kA hl2 hb rF rY
  go_wp2_with fail
  rw [← hW3, ← hT]
  clear hW3 hT hW0 hX
  have yc := y2.c
  have a0 := rA.c0; have a1 := rA.c1; have a2 := rA.c2
  have c0 := r2.c0; have c1 := r2.c1; have c2 := r2.c2
  have f0 := r2.fz 0; have f1 := r2.fz 1; have f2 := r2.fz 2
  go_region
  have rE := r2.set (⟨-1, -1, 0⟩ : Ft)
  have kE := kp_setFt W3 (X + 4) (⟨-1, -1, 0⟩ : Ft)
  unfold setFt at rE kE
  have d0 := rE.c0; have d1 := rE.c1; have d2 := rE.c2
  simp only at d0 d1 d2
  go_wp2
  have vE := v2.kp kE (fun j hj e => by
      rcases hj with f | f
      · have := HX.out; omega
      · have := hm j f; have := HX.out; omega)
  have kW : Kp (modVm K B q.m.n) w _ := ((k0.mono (fun _ _ f => f.elim)).over kS (fun j hj f => by
      rcases f with f | f
      · exact f
      · have := HX.out; omega)).over kE (fun j hj e => absurd hj (by have := HX.out; omega))
  refine bodyPost_ret (v := .tuple #[.int .u32 (q.m.rdS q.s), .agg #[.int .i64 (-1), .int .i64 (-1), .int .u32 0]]) ?_ rfl ⟨rfl, ?_⟩
  · simp [results, Try.results19, go_sem, d0, d1, d2]
  · exact ⟨⟨tn2, ht2, vE.kp0 (Kp.refl noB _).drew⟩, kW.drew⟩

theorem setSys_no (w : World) (pm pc : Option Addr) (off z v : Int) (f : Ft) (S : Nat → Prop) (P : World → Prop) (hS : ∀ j, S j → j < w.heap.size) (hP : ∀ W W', P W → Kp (fun j => w.heap.size ≤ j) W W' → P W')
    (H : Hid (∀ W, Kp noB w W → Calls Try.prog 40 #[.pointer pm, .pointer pc, .int .u32 off, .int .i64 z, .bool true] W fun e w' => e = .panicked (pan f) ∧ Kp S W w' ∧ P w')) :
    Calls Try.prog 18 #[.pointer pm, .pointer pc, .int .u32 off, .int .i64 z, .int .u32 v] w fun e w' => e = .returned f.val ∧ Kp S w w' ∧ P w' := by
  have hmf := hmf
  obtain ⟨X, hX⟩ : ∃ X, w.heap.size = X := ⟨_, rfl⟩
  obtain ⟨W0, hW0⟩ : ∃ W, W = ((((((w.alloc (.cells #[.pointer pm] 45)).alloc (.cells #[.pointer pc] 50)).alloc (.cells #[.int .u32 off] 23)).alloc (.cells #[.int .i64 z] 3)).alloc (.cells #[.int .u32 v] 23)).alloc (.cells #[.int .i64 0, .int .i64 0, .int .u32 0] 25)) := ⟨_, rfl⟩
  have HX : Hid (w.heap.size = X) := hX
  have hs0 : W0.heap.size = X + 6 := by rw [hW0]; simp [hX]
  have k0 : Kp noB w W0 := by
    rw [hW0]
    exact (((((Kp.alloc noB w _).trans (Kp.alloc noB _ _)).trans (Kp.alloc noB _ _)).trans (Kp.alloc noB _ _)).trans (Kp.alloc noB _ _)).trans (Kp.alloc noB _ _)
  have hb : BxSetSys X (.pointer pm) (.pointer pc) off z v W0 := by
    rw [hW0, ← hX]
    refine ⟨?_, ?_, ?_, ?_, ?_⟩ <;> simp [go_sem]
  have rF : RowT W0 (X + 5) ⟨0, 0, 0⟩ := by
    have := (MapKept.heap_alloc (((((w.alloc (.cells #[.pointer pm] 45)).alloc (.cells #[.pointer pc] 50)).alloc (.cells #[.int .u32 off] 23)).alloc (.cells #[.int .i64 z] 3)).alloc (.cells #[.int .u32 v] 23)) (.cells #[.int .i64 0, .int .i64 0, .int .u32 0] 25)).1
    rw [show ((((((w.alloc (.cells #[.pointer pm] 45)).alloc (.cells #[.pointer pc] 50)).alloc (.cells #[.int .u32 off] 23)).alloc (.cells #[.int .i64 z] 3)).alloc (.cells #[.int .u32 v] 23))).heap.size = X + 5 by simp [hX]] at this
    rw [hW0]
    exact this
  have hSn : ∀ j, X ≤ j → ¬ S j := fun j hj f => by have := hS j f; omega
  have HC : Hid _ := faultOf_no W0 39 #[.pointer (some ⟨X, 0, none⟩), .pointer (some ⟨X + 1, 0, none⟩), .pointer (some ⟨X + 2, 0, none⟩), .pointer (some ⟨X + 3, 0, none⟩), .pointer (some ⟨X + 4, 0, none⟩)] f S (fun w' => P w' ∧ RowT w' (X + 5) ⟨0, 0, 0⟩) (fun j hj => by have := hS j hj; omega) (fun W W' ⟨p, a⟩ k => ⟨hP W W' p (k.mono (fun j _ hj => by omega)), a.kp k (by omega)⟩) (fun W => rfl)
    (fun W kq => (setSys1_no W X (.pointer pm) (.pointer pc) off z v f S P (BxSetSys.kp hb kq (fun j f => f.elim)) (fun W' kr => H.out W' ((k0.trans kq).trans kr))).mono (fun e w' ⟨h1, h2, h3⟩ => ⟨h1, h2, h3, (rF.kp kq (fun f => f)).kp h2 (hSn _ (by omega))⟩))
  rw [Ft.val_is] at HC
  go_enter Try.func18, Try.ntmps18
  go_wp2_with fail
  rw [← hW0]
  refine Calls.mono HC.out ?_
  rintro e w2 ⟨rfl, k2, p2, r2⟩
  have c0 := r2.c0; have c1 := r2.c1; have c2 := r2.c2
  have f0 := r2.fz 0; have f1 := r2.fz 1; have f2 := r2.fz 2
  have rE := r2.set f
  have kE := kp_setFt w2 (X + 5) f
  unfold setFt at rE kE
  have d0 := rE.c0; have d1 := rE.c1; have d2 := rE.c2
  clear HC hb rF hW0
  go_wp2
  have pE := hP _ _ p2 (kE.mono (fun j _ e => by have := HX.out; omega))
  have kW : Kp S w _ := ((k0.mono (fun _ _ f => f.elim)).trans k2).over kE (fun j hj e => absurd hj (by have := HX.out; omega))
  refine bodyPost_ret (v := .agg #[.int .i64 f.vec, .int .i64 f.code, .int .u32 f.cr2]) ?_ rfl ⟨rfl, ?_⟩
  · simp [results, Try.results18, go_sem, d0, d1, d2]
  · exact ⟨kW, pE⟩

theorem setSys_ok (w : World) (V K B pl tn : Nat) (pc : Option Addr) (off z v : Int) (v0 : 0 ≤ v) (v1 : v < 4294967296) (q : Qy) (hq : q.s.Ok) (hm : ∀ j, modVm K B q.m.n j → j < w.heap.size) (hV : V < w.heap.size)
    (H : Hid (∀ W, Kp noB w W → Calls Try.prog 40 #[.pointer (some ⟨V, 0, none⟩), .pointer pc, .int .u32 off, .int .i64 z, .bool true] W fun e w' => e = .returned q.s.val ∧ VmP W V K B pl tn q.m 2 w')) :
    Calls Try.prog 18 #[.pointer (some ⟨V, 0, none⟩), .pointer pc, .int .u32 off, .int .i64 z, .int .u32 v] w fun e w' => e = .returned noFt.val ∧ VmP w V K B pl tn (q.m.wrS q.s v) 2 w' := by
  have hmf := hmf
  obtain ⟨X, hX⟩ : ∃ X, w.heap.size = X := ⟨_, rfl⟩
  obtain ⟨W0, hW0⟩ : ∃ W, W = ((((((w.alloc (.cells #[.pointer (some ⟨V, 0, none⟩)] 45)).alloc (.cells #[.pointer pc] 50)).alloc (.cells #[.int .u32 off] 23)).alloc (.cells #[.int .i64 z] 3)).alloc (.cells #[.int .u32 v] 23)).alloc (.cells #[.int .i64 0, .int .i64 0, .int .u32 0] 25)) := ⟨_, rfl⟩
  have HX : Hid (w.heap.size = X) := hX
  have hs0 : W0.heap.size = X + 6 := by rw [hW0]; simp [hX]
  have k0 : Kp noB w W0 := by
    rw [hW0]
    exact (((((Kp.alloc noB w _).trans (Kp.alloc noB _ _)).trans (Kp.alloc noB _ _)).trans (Kp.alloc noB _ _)).trans (Kp.alloc noB _ _)).trans (Kp.alloc noB _ _)
  have hb : BxSetSys X (.pointer (some ⟨V, 0, none⟩)) (.pointer pc) off z v W0 := by
    rw [hW0, ← hX]
    refine ⟨?_, ?_, ?_, ?_, ?_⟩ <;> simp [go_sem]
  have rF : RowT W0 (X + 5) ⟨0, 0, 0⟩ := by
    have := (MapKept.heap_alloc (((((w.alloc (.cells #[.pointer (some ⟨V, 0, none⟩)] 45)).alloc (.cells #[.pointer pc] 50)).alloc (.cells #[.int .u32 off] 23)).alloc (.cells #[.int .i64 z] 3)).alloc (.cells #[.int .u32 v] 23)) (.cells #[.int .i64 0, .int .i64 0, .int .u32 0] 25)).1
    rw [show ((((((w.alloc (.cells #[.pointer (some ⟨V, 0, none⟩)] 45)).alloc (.cells #[.pointer pc] 50)).alloc (.cells #[.int .u32 off] 23)).alloc (.cells #[.int .i64 z] 3)).alloc (.cells #[.int .u32 v] 23))).heap.size = X + 5 by simp [hX]] at this
    rw [hW0]
    exact this
  have hn2 : (q.m.wrS q.s v).n = q.m.n := (wrK_same q.m q.s v q.s.n).1
  have HC : Hid _ := faultOf_ok W0 39 #[.pointer (some ⟨X, 0, none⟩), .pointer (some ⟨X + 1, 0, none⟩), .pointer (some ⟨X + 2, 0, none⟩), .pointer (some ⟨X + 3, 0, none⟩), .pointer (some ⟨X + 4, 0, none⟩)] (modVm K B q.m.n) (fun w' => ∃ tn', tn' ≤ tn + 2 ∧ VmAt w' V K B pl tn' (q.m.wrS q.s v)) (fun j hj => by have := hm j hj; omega) (fun W W' ⟨tn', a, b⟩ k => ⟨tn', a, b.kp k (fun j hj => by
      rcases hj with f | f
      · have := HX.out; omega
      · rw [hn2] at f; have := hm j f; have := HX.out; omega)⟩) (fun W => rfl)
    (fun W kq => (setSys1_ok W X V K B pl tn (.pointer pc) off z v v0 v1 q hq (BxSetSys.kp hb kq (fun j f => f.elim)) (fun j hj => by have := hm j hj; omega) (by omega) (fun W' kr => H.out W' ((k0.trans kq).trans kr))).mono (fun e w' ⟨h1, h2, h3⟩ => ⟨h1, by rw [hn2] at h3; exact h3, h2⟩))
  have e0 : noFt.val = .agg #[.int .i64 (-1), .int .i64 (-1), .int .u32 0] := rfl
  rw [e0] at HC
  go_enter Try.func18, Try.ntmps18
  go_wp2_with fail
  rw [← hW0]
  refine Calls.mono HC.out ?_
  rintro e w2 ⟨rfl, k2, p2⟩
  have r2 : RowT w2 (X + 5) ⟨0, 0, 0⟩ := (rF.kp k2 (fun f => by have := hm _ f; omega))
  have c0 := r2.c0; have c1 := r2.c1; have c2 := r2.c2
  have f0 := r2.fz 0; have f1 := r2.fz 1; have f2 := r2.fz 2
  have rE := r2.set (⟨-1, -1, 0⟩ : Ft)
  have kE := kp_setFt w2 (X + 5) (⟨-1, -1, 0⟩ : Ft)
  unfold setFt at rE kE
  have d0 := rE.c0; have d1 := rE.c1; have d2 := rE.c2
  simp only at d0 d1 d2
  clear HC hb rF hW0
  go_wp2
  obtain ⟨tn2, ht2, v2⟩ := p2
  have vE := v2.kp kE (fun j hj e => by
      rcases hj with f | f
      · have := HX.out; omega
      · rw [hn2] at f; have := hm j f; have := HX.out; omega)
  have kW : Kp (modVm K B q.m.n) w _ := ((k0.mono (fun _ _ f => f.elim)).trans k2).over kE (fun j hj e => absurd hj (by have := HX.out; omega))
  refine bodyPost_ret (v := .agg #[.int .i64 (-1), .int .i64 (-1), .int .u32 0]) ?_ rfl ⟨rfl, ?_⟩
  · simp [results, Try.results18, go_sem, d0, d1, d2]
  · exact ⟨⟨tn2, ht2, vE⟩, by rw [hn2]; exact kW⟩

end Go.Proofs.Ytmmnnafjikilpaa
