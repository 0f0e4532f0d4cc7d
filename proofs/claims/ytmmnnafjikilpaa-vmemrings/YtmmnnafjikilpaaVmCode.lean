/- Code: with a fault, and without one. -/
import Derived.Test.YtmmnnafjikilpaaVmCalls
namespace Go.Proofs.Ytmmnnafjikilpaa
open Go.ChangeShapes Go.WideShapes Go.ChangeAt Go.RowKit Go.Maps
set_option linter.unusedVariables false
set_option maxRecDepth 20000

def cdeW (w : World) (pm pc : Option Addr) (off : Int) : World := ((((((w.alloc (.cells #[.pointer pm] 45)).alloc (.cells #[.pointer pc] 50)).alloc (.cells #[.int .u32 off] 23)).alloc (.cells #[.int .u8 0] 5)).alloc (.cells #[.int .u32 0] 23)).alloc (.cells #[.int .i64 0, .int .i64 0, .int .u32 0] 25))
theorem code_start (w : World) (pm pc : Option Addr) (off : Int) {X : Nat} (hX : w.heap.size = X) : (cdeW w pm pc off).heap.size = X + 6 ∧ Kp noB w (cdeW w pm pc off) ∧ (cdeW w pm pc off).cell? ⟨X, 0, none⟩ = some (.pointer pm) ∧ (cdeW w pm pc off).cell? ⟨X + 1, 0, none⟩ = some (.pointer pc) ∧ (cdeW w pm pc off).cell? ⟨X + 2, 0, none⟩ = some (.int .u32 off) ∧ RowB8 (cdeW w pm pc off) (X + 3) 0 ∧ RowV (cdeW w pm pc off) (X + 4) 0 ∧ RowT (cdeW w pm pc off) (X + 5) ⟨0, 0, 0⟩ := by
  unfold cdeW
  refine ⟨by simp [hX], (((((Kp.alloc noB w _).trans (Kp.alloc noB _ _)).trans (Kp.alloc noB _ _)).trans (Kp.alloc noB _ _)).trans (Kp.alloc noB _ _)).trans (Kp.alloc noB _ _), ?_, ?_, ?_, ?_, ?_, ?_⟩
  · rw [← hX]; simp [go_sem]
  · rw [← hX]; simp [go_sem]
  · rw [← hX]; simp [go_sem]
  · have := (MapKept.heap_alloc (((w.alloc (.cells #[.pointer pm] 45)).alloc (.cells #[.pointer pc] 50)).alloc (.cells #[.int .u32 off] 23)) (.cells #[.int .u8 0] 5)).1
    rw [show (((w.alloc (.cells #[.pointer pm] 45)).alloc (.cells #[.pointer pc] 50)).alloc (.cells #[.int .u32 off] 23)).heap.size = X + 3 by simp [hX]] at this
    exact (RowB8.kp (v := 0) this (Kp.alloc noB _ _) (fun f => f)).kp (Kp.alloc noB _ _) (fun f => f)
  · have := (MapKept.heap_alloc ((((w.alloc (.cells #[.pointer pm] 45)).alloc (.cells #[.pointer pc] 50)).alloc (.cells #[.int .u32 off] 23)).alloc (.cells #[.int .u8 0] 5)) (.cells #[.int .u32 0] 23)).1
    rw [show ((((w.alloc (.cells #[.pointer pm] 45)).alloc (.cells #[.pointer pc] 50)).alloc (.cells #[.int .u32 off] 23)).alloc (.cells #[.int .u8 0] 5)).heap.size = X + 4 by simp [hX]] at this
    exact RowV.kp (v := 0) this (Kp.alloc noB _ _) (fun f => f)
  · have := (MapKept.heap_alloc (((((w.alloc (.cells #[.pointer pm] 45)).alloc (.cells #[.pointer pc] 50)).alloc (.cells #[.int .u32 off] 23)).alloc (.cells #[.int .u8 0] 5)).alloc (.cells #[.int .u32 0] 23)) (.cells #[.int .i64 0, .int .i64 0, .int .u32 0] 25)).1
    rw [show (((((w.alloc (.cells #[.pointer pm] 45)).alloc (.cells #[.pointer pc] 50)).alloc (.cells #[.int .u32 off] 23)).alloc (.cells #[.int .u8 0] 5)).alloc (.cells #[.int .u32 0] 23)).heap.size = X + 5 by simp [hX]] at this
    exact this

def outW (W : World) (X : Nat) (y z : Int) (f : Ft) : World := setFt ((W.setCell ⟨X + 3, 0, none⟩ (.int .u8 y)).setCell ⟨X + 4, 0, none⟩ (.int .u32 z)) (X + 5) f
theorem out_rows {W : World} {X : Nat} {y z : Int} {f : Ft} (a : RowB8 W (X + 3) y) (b : RowV W (X + 4) z) (c : RowT W (X + 5) f) : RowB8 (outW W X y z f) (X + 3) y ∧ RowV (outW W X y z f) (X + 4) z ∧ RowT (outW W X y z f) (X + 5) f ∧ Kp (fun j => X ≤ j) W (outW W X y z f) := by
  have k1 := Kp.setCell (S := fun j => j = X + 3) W (p := ⟨X + 3, 0, none⟩) rfl (.int .u8 y)
  have k2 := Kp.setCell (S := fun j => j = X + 4) (W.setCell ⟨X + 3, 0, none⟩ (.int .u8 y)) (p := ⟨X + 4, 0, none⟩) rfl (.int .u32 z)
  have k3 := kp_setFt ((W.setCell ⟨X + 3, 0, none⟩ (.int .u8 y)).setCell ⟨X + 4, 0, none⟩ (.int .u32 z)) (X + 5) f
  refine ⟨((a.set y).kp k2 (by omega)).kp k3 (by omega), ((b.kp k1 (by omega)).set z).kp k3 (by omega), ((c.kp k1 (by omega)).kp k2 (by omega)).set f, ?_⟩
  exact ((k1.mono (fun j _ e => by omega)).trans (k2.mono (fun j _ e => by omega))).trans (k3.mono (fun j _ e => by omega))

theorem cde_no (w : World) (pm pc : Option Addr) (off : Int) (f : Ft) (S : Nat → Prop) (P : World → Prop) (hS : ∀ j, S j → j < w.heap.size) (hP : ∀ W W', P W → Kp (fun j => w.heap.size ≤ j) W W' → P W')
    (H : Hid (∀ W, Kp noB w W → Calls Try.prog 43 #[.pointer pm, .pointer pc, .int .u32 off] W fun e w' => e = .panicked (pan f) ∧ Kp S W w' ∧ P w')) :
    Calls Try.prog 20 #[.pointer pm, .pointer pc, .int .u32 off] w fun e w' => e = .returned (.tuple #[.int .u8 0, .int .u32 0, f.val]) ∧ Kp S w w' ∧ P w' := by
  have hmf := hmf
  obtain ⟨X, hX⟩ : ∃ X, w.heap.size = X := ⟨_, rfl⟩
  obtain ⟨W0, hW0⟩ : ∃ W, W = cdeW w pm pc off := ⟨_, rfl⟩
  have HX : Hid (w.heap.size = X) := hX
  obtain ⟨hs0, k0, b0, b1, b2, rY, rZ, rF⟩ := code_start w pm pc off hX
  rw [← hW0] at hs0 k0 b0 b1 b2 rY rZ rF
  unfold cdeW at hW0
  have hSn : ∀ j, X ≤ j → ¬ S j := fun j hj f => by have := hS j f; omega
  have HC : Hid _ := faultOf_no W0 42 #[.pointer (some ⟨X, 0, none⟩), .pointer (some ⟨X + 1, 0, none⟩), .pointer (some ⟨X + 2, 0, none⟩), .pointer (some ⟨X + 3, 0, none⟩), .pointer (some ⟨X + 4, 0, none⟩)] f S (fun w' => P w' ∧ RowT w' (X + 5) ⟨0, 0, 0⟩ ∧ RowB8 w' (X + 3) 0 ∧ RowV w' (X + 4) 0) (fun j hj => by have := hS j hj; omega) (fun W W' ⟨p, a, b, c⟩ k => ⟨hP W W' p (k.mono (fun j _ hj => by omega)), a.kp k (by omega), b.kp k (by omega), c.kp k (by omega)⟩) (fun W => rfl)
    (fun W kq => (code1_no W X (X + 3) (X + 4) (.pointer pm) (.pointer pc) off f S P (cell_kp b0 kq (fun f => f)) (cell_kp b1 kq (fun f => f)) (cell_kp b2 kq (fun f => f)) (fun W' kr => H.out W' ((k0.trans kq).trans kr))).mono (fun e w' ⟨h1, h2, h3⟩ => ⟨h1, h2, h3, (rF.kp kq (fun f => f)).kp h2 (hSn _ (by omega)), (rY.kp kq (fun f => f)).kp h2 (hSn _ (by omega)), (rZ.kp kq (fun f => f)).kp h2 (hSn _ (by omega))⟩))
  rw [Ft.val_is] at HC
  go_enter Try.func20, Try.ntmps20
  go_wp2_with fail
  rw [← hW0]
  refine Calls.mono HC.out ?_
  rintro e w2 ⟨rfl, k2, p2, r2, y2, z2⟩
  clear HC rY rZ rF hW0 b0 b1 b2
  have c0 := r2.c0; have c1 := r2.c1; have c2 := r2.c2
  have f0 := r2.fz 0; have f1 := r2.fz 1; have f2 := r2.fz 2
  have yc := y2.c; have zc := z2.c; have yf := y2.fz; have zf := z2.fz
  have rE := r2.set f
  have kE := kp_setFt w2 (X + 5) f
  obtain ⟨W3, hW3⟩ : ∃ W, W = setFt w2 (X + 5) f := ⟨_, rfl⟩
  rw [← hW3] at rE kE
  unfold setFt at hW3
  go_upto_region 2 with fail
  rw [← hW3]
  clear hW3 c0 c1 c2 f0 f1 f2 yc zc yf zf
  replace y2 := y2.kp kE (by omega)
  replace z2 := z2.kp kE (by omega)
  have yc := y2.c; have zc := z2.c; have yf := y2.fz; have zf := z2.fz
  have c0 := rE.c0; have c1 := rE.c1; have c2 := rE.c2
  have f0 := rE.fz 0; have f1 := rE.fz 1; have f2 := rE.fz 2
  have p3 := hP _ _ p2 (kE.mono (fun j _ e => by have := HX.out; omega))
  have k3 : Kp S w W3 := ((k0.mono (fun _ _ f => f.elim)).trans k2).over kE (fun j hj e => absurd hj (by have := HX.out; omega))
  clear kE r2 p2 k2
  go_region
  obtain ⟨qy, qz, qt, kO⟩ := out_rows y2 z2 rE
  obtain ⟨W4, hW4⟩ : ∃ W, W = outW W3 X 0 0 f := ⟨_, rfl⟩
  rw [← hW4] at qy qz qt kO
  unfold outW setFt at hW4
  rw [← hW4]
  clear hW4 y2 z2 rE yc zc yf zf c0 c1 c2 f0 f1 f2
  have yc := qy.c; have zc := qz.c
  have c0 := qt.c0; have c1 := qt.c1; have c2 := qt.c2
  go_wp2
  refine bodyPost_ret (v := .tuple #[.int .u8 0, .int .u32 0, .agg #[.int .i64 f.vec, .int .i64 f.code, .int .u32 f.cr2]]) ?_ rfl ⟨rfl, ?_, ?_⟩
  · simp [results, Try.results20, go_sem, yc, zc, c0, c1, c2]
  · exact (k3.over kO (fun j hj e => absurd hj (by have := HX.out; omega))).drew
  · exact hP _ _ (hP _ _ p3 (kO.mono (fun j _ e => by have := HX.out; omega))) (Kp.refl (fun j => w.heap.size ≤ j) _).drew

theorem cde_ok (w : World) (V K B pl tn : Nat) (pc : Option Addr) (off : Int) (q : Qy) (hq : q.s.Ok) (hq1 : q.s.n = 1) (hm : ∀ j, modVm K B q.m.n j → j < w.heap.size) (hV : V < w.heap.size)
    (H : Hid (∀ W, Kp noB w W → Calls Try.prog 43 #[.pointer (some ⟨V, 0, none⟩), .pointer pc, .int .u32 off] W fun e w' => e = .returned q.s.val ∧ VmP W V K B pl tn q.m 2 w')) :
    Calls Try.prog 20 #[.pointer (some ⟨V, 0, none⟩), .pointer pc, .int .u32 off] w fun e w' => e = .returned (.tuple #[.int .u8 (q.m.rdS q.s), .int .u32 q.s.a, noFt.val]) ∧ VmP w V K B pl tn q.m 2 w' := by
  have hmf := hmf
  obtain ⟨X, hX⟩ : ∃ X, w.heap.size = X := ⟨_, rfl⟩
  obtain ⟨W0, hW0⟩ : ∃ W, W = cdeW w (some ⟨V, 0, none⟩) pc off := ⟨_, rfl⟩
  have HX : Hid (w.heap.size = X) := hX
  obtain ⟨hs0, k0, b0, b1, b2, rY, rZ, rF⟩ := code_start w (some ⟨V, 0, none⟩) pc off hX
  rw [← hW0] at hs0 k0 b0 b1 b2 rY rZ rF
  unfold cdeW at hW0
  have HIn : Hid (∀ j, inVm V K B q.m.n j → j < X) := fun j hj => by
    rcases hj with e | e
    · omega
    · have := hm _ e; omega
  have HC : Hid _ := faultOf_ok W0 42 #[.pointer (some ⟨X, 0, none⟩), .pointer (some ⟨X + 1, 0, none⟩), .pointer (some ⟨X + 2, 0, none⟩), .pointer (some ⟨X + 3, 0, none⟩), .pointer (some ⟨X + 4, 0, none⟩)] (fun j => modVm K B q.m.n j ∨ j = X + 3 ∨ j = X + 4) (fun w' => (∃ tn', tn' ≤ tn + 2 ∧ VmAt w' V K B pl tn' q.m) ∧ RowB8 w' (X + 3) (q.m.rdS q.s) ∧ RowV w' (X + 4) q.s.a) (fun j hj => by
      rcases hj with f | f | f
      · have := hm j f; omega
      · omega
      · omega) (fun W W' ⟨⟨tn', a, b⟩, c, d⟩ k => ⟨⟨tn', a, b.kp k (fun j hj => by have := HIn.out j hj; omega)⟩, c.kp k (by omega), d.kp k (by omega)⟩) (fun W => rfl)
    (fun W kq => code1_ok W X V K B pl tn (.pointer pc) off 0 0 (rY.kp kq (fun f => f)) (rZ.kp kq (fun f => f)) q hq hq1 (cell_kp b0 kq (fun f => f)) (cell_kp b1 kq (fun f => f)) (cell_kp b2 kq (fun f => f)) (fun j hj => by have := hm j hj; omega) (by omega) (fun W' kr => H.out W' ((k0.trans kq).trans kr)))
  have e0 : noFt.val = .agg #[.int .i64 (-1), .int .i64 (-1), .int .u32 0] := rfl
  rw [e0] at HC
  have HM : Hid (∀ j, modVm K B q.m.n j → j < X) := fun j hj => by have := hm j hj; omega
  generalize q.m.rdS q.s = rv at *
  generalize q.s.a = sa at *
  go_enter Try.func20, Try.ntmps20
  go_wp2_with fail
  rw [← hW0]
  refine Calls.mono HC.out ?_
  rintro e w2 ⟨rfl, k2, ⟨tn2, ht2, v2⟩, y2, z2⟩
  have r2 : RowT w2 (X + 5) ⟨0, 0, 0⟩ := rF.kp k2 (fun f => by
      rcases f with f | f | f
      · have := HM.out _ f; omega
      · omega
      · omega)
  clear HC rY rZ rF hW0 b0 b1 b2
  have c0 := r2.c0; have c1 := r2.c1; have c2 := r2.c2
  have f0 := r2.fz 0; have f1 := r2.fz 1; have f2 := r2.fz 2
  have yc := y2.c; have zc := z2.c; have yf := y2.fz; have zf := z2.fz
  have rE := r2.set (⟨-1, -1, 0⟩ : Ft)
  have kE := kp_setFt w2 (X + 5) (⟨-1, -1, 0⟩ : Ft)
  obtain ⟨W3, hW3⟩ : ∃ W, W = setFt w2 (X + 5) (⟨-1, -1, 0⟩ : Ft) := ⟨_, rfl⟩
  rw [← hW3] at rE kE
  unfold setFt at hW3
  simp only at hW3
  go_upto_region 2 with fail
  rw [← hW3]
  clear hW3 c0 c1 c2 f0 f1 f2 yc zc yf zf
  replace y2 := y2.kp kE (by omega)
  replace z2 := z2.kp kE (by omega)
  have yc := y2.c; have zc := z2.c; have yf := y2.fz; have zf := z2.fz
  have c0 := rE.c0; have c1 := rE.c1; have c2 := rE.c2
  simp only at c0 c1 c2
  have f0 := rE.fz 0; have f1 := rE.fz 1; have f2 := rE.fz 2
  have v3 := v2.kp kE (fun j hj e => by have := HIn.out j hj; omega)
  have k3 : Kp (modVm K B q.m.n) w W3 := ((k0.mono (fun _ _ f => f.elim)).over k2 (fun j hj f => by
      rcases f with f | f | f
      · exact f
      · have := HX.out; omega
      · have := HX.out; omega)).over kE (fun j hj e => absurd hj (by have := HX.out; omega))
  clear kE r2 v2 k2
  go_region
  obtain ⟨qy, qz, qt, kO⟩ := out_rows y2 z2 rE
  obtain ⟨W4, hW4⟩ : ∃ W, W = outW W3 X rv sa ⟨-1, -1, 0⟩ := ⟨_, rfl⟩
  rw [← hW4] at qy qz qt kO
  unfold outW setFt at hW4
  simp only at hW4
  rw [← hW4]
  clear hW4 y2 z2 rE yc zc yf zf c0 c1 c2 f0 f1 f2
  have yc := qy.c; have zc := qz.c
  have c0 := qt.c0; have c1 := qt.c1; have c2 := qt.c2
  simp only at c0 c1 c2
  go_wp2
  refine bodyPost_ret (v := .tuple #[.int .u8 rv, .int .u32 sa, .agg #[.int .i64 (-1), .int .i64 (-1), .int .u32 0]]) ?_ rfl ⟨rfl, ⟨tn2, ht2, ?_⟩, ?_⟩
  · simp [results, Try.results20, go_sem, yc, zc, c0, c1, c2]
  · exact (v3.kp kO (fun j hj e => by have := HIn.out j hj; omega)).kp0 (Kp.refl noB _).drew
  · exact (k3.over kO (fun j hj e => absurd hj (by have := HX.out; omega))).drew
end Go.Proofs.Ytmmnnafjikilpaa
