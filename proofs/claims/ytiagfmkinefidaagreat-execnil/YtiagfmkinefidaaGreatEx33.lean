/- The bus and its devices: XeAwake. -/
import Derived.Test.YtiagfmkinefidaaGreatEx15
namespace Go.Proofs.YtiagfmkinefidaaGreat.Rm
open Go.ChangeShapes Go.WideShapes Go.ChangeAt Go.RowKit Go.Maps
set_option linter.unusedVariables false
set_option maxRecDepth 20000
/-- A new outcome's block, and what is stored into it. -/
theorem oc_laid (w : World) (vv vc v2 so : Int) (ir : Bool) : OcAt (w.alloc (.cells #[.int .i64 vv, .int .i64 vc, .int .u32 v2, .int .i64 so, .bool ir] 56)) w.heap.size ⟨vv, vc, v2⟩ so ir := (MapKept.heap_alloc w _).1
set_option maxHeartbeats 4000000 in
theorem awake17 (w : World) : Calls Tryz.prog 9 #[] w fun e w' => e = .returned (.bool true) ∧ Kp noB w w' := by
  have q1 : ∀ w, (binOp .eql 56 (.agg #[.int .i64 (-1), .int .i64 (-1), .int .u32 0, .int .i64 (-1), .bool false]) (.agg #[.int .i64 (-1), .int .i64 (-1), .int .u32 0, .int .i64 (-1), .bool false])).run Tryz.prog w = .ok (.bool true) w := fun w => by kernel_rfl
  have q2 : ∀ w, (binOp .eql 56 (.agg #[.int .i64 0, .int .i64 (-1), .int .u32 0, .int .i64 (-1), .bool false]) (.agg #[.int .i64 0, .int .i64 (-1), .int .u32 0, .int .i64 (-1), .bool false])).run Tryz.prog w = .ok (.bool true) w := fun w => by kernel_rfl
  have q3 : ∀ w, (binOp .eql 56 (.agg #[.int .i64 (-1), .int .i64 (-1), .int .u32 0, .int .i64 128, .bool false]) (.agg #[.int .i64 (-1), .int .i64 (-1), .int .u32 0, .int .i64 128, .bool false])).run Tryz.prog w = .ok (.bool true) w := fun w => by kernel_rfl
  have HF : Hid _ := flat17 w 0 (by decide) (by decide)
  go_enter Tryz.func9, Tryz.ntmps9
  go_wp2_with fail
  refine Calls.mono HF.out ?_; rintro e w1 ⟨cs, rfl, wf, hc, ⟨c9, cr⟩, k1⟩
  have HC : Hid _ := Bs.both17 w1 cs wf
  have Hc : Hid (cs[9]? = some (.int .u32 2) ∧ ∀ k, (k < 9 ∨ 65 ≤ k) → cs[k]? = cpuZ[k]?) := ⟨c9, cr⟩
  have Hk1 : Hid _ := k1
  clear HF hc c9 cr k1 wf
  go_wp2_with fail
  refine Calls.mono HC.out ?_; rintro e w2 ⟨E, R, V, K, L, w6, rfl, hm⟩
  have hk := Bs.noRm hm.kp
  obtain ⟨L', hs⟩ := hm.hs
  have hk6 := Bs.noRm hs.kp
  have Hk2 : Hid (Kp noB w w2) := (Hk1.out.trans hk6).trans hk
  have HE : Hid (w.heap.size ≤ E) := Nat.le_trans Hk1.out.size (Nat.le_trans hk6.size hm.lt)
  have e2 := hm.ea
  have x0 := e2.cell (k := 0) (v := .int .u32 0) (by rw [Hc.out.2 0 (.inl (by decide))]; rfl)
  have f0 := e2.fz 0
  have E3 := e2.set (k := 0) (by decide) (v := .int .u32 5) rfl
  have kS := Kp.setCell (S := fun j => j = E) w2 (p := ⟨E, 0, none⟩) rfl (.int .u32 5)
  generalize L.B = B at *
  clear hm hs hk hk6 HC Hk1
  obtain ⟨W3, hW3⟩ : ∃ W, W = w2.setCell ⟨E, 0, none⟩ (.int .u32 5) := ⟨_, rfl⟩
  rw [← hW3] at E3 kS
  have K3 : Kp (fun j => j = E) w W3 := (Hk2.out.mono (fun _ _ f => f.elim)).trans kS
  obtain ⟨c3, hc3⟩ : ∃ c, c = cs.setIfInBounds 0 (.int .u32 5) := ⟨_, rfl⟩
  rw [← hc3] at E3
  have Hc3 : Hid (c3[0]? = some (.int .u32 5) ∧ c3[3]? = some (.int .u32 0) ∧ c3[8]? = some (.int .u32 0) ∧ c3[9]? = some (.int .u32 2) ∧ c3[80]? = some (.bool false)) := by
    rw [hc3]
    refine ⟨Array.getElem?_setIfInBounds_self_of_lt (by rw [e2.2.s]; decide), ?_, ?_, ?_, ?_⟩
    · rw [Array.getElem?_setIfInBounds_ne (by decide), Hc.out.2 3 (.inl (by decide))]; rfl
    · rw [Array.getElem?_setIfInBounds_ne (by decide), Hc.out.2 8 (.inl (by decide))]; rfl
    · rw [Array.getElem?_setIfInBounds_ne (by decide)]; exact Hc.out.1
    · rw [Array.getElem?_setIfInBounds_ne (by decide), Hc.out.2 80 (.inr (by decide))]; rfl
  clear hc3 e2
  go_upto_region 5 with fail
  rw [← hW3]
  clear hW3 x0 f0
  obtain ⟨N, hN⟩ : ∃ N, N = W3.heap.size := ⟨_, rfl⟩
  obtain ⟨W4, hW4⟩ : ∃ W, W = W3.alloc (.cells #[.int .i64 (-1), .int .i64 (-1), .int .u32 0] 36) := ⟨_, rfl⟩
  have rN : RowT W4 N noFt := by rw [hW4, hN]; exact (MapKept.heap_alloc W3 _).1
  have kN : Kp noB W3 W4 := by rw [hW4]; exact Kp.alloc _ _ _
  obtain ⟨G, hG⟩ : ∃ G, G = W4.heap.size := ⟨_, rfl⟩
  obtain ⟨W5, hW5⟩ : ∃ W, W = W4.alloc (.cells #[.int .u8 131, .int .u8 192, .int .u8 251] 5) := ⟨_, rfl⟩
  have bG : BytL W5 G [131, 192, 251] := ⟨by rw [hW5, hG]; exact (MapKept.heap_alloc W4 _).1, by decide⟩
  have kG : Kp noB W4 W5 := by rw [hW5]; exact Kp.alloc _ _ _
  have E5 := (EAt.kp0 E3 kN).kp0 kG
  have K5 := (K3.trans (kN.mono (fun _ _ f => f.elim))).trans (kG.mono (fun _ _ f => f.elim))
  have rN5 := rN.kp kG id
  have nE : N ≠ E := by have := E3.lt; omega
  obtain ⟨a0, a3, a8, a9, a80⟩ := Hc3.out
  have HDid : Hid _ := did_any W5 E G [131, 192, 251] (by decide) bG 3 3 rfl xAdd dec_add (-1) (-1) 0 (-1) false (fun j => j = E) (fun w' => EAt w' E (csAdd c3) (.pointer (some ⟨V, 0, none⟩)) (.pointer (some ⟨B, 0, none⟩))) (fun j hj => by rw [hj]; exact E5.lt) (fun W W' p k => EAt.kp p k (by have := E5.lt; omega)) (fun W k => do_add W E V B c3 (E5.kp0 k) a0 a8 a9 _ a80)
  have Hw : Hid (W4.alloc (.cells #[.int .u8 131, .int .u8 192, .int .u8 251] 5) = W5) := hW5.symm
  have Hg : Hid (W4.heap.size = G) := hG.symm
  have HnE : Hid (N ≠ E) := nE
  have HrN : Hid (RowT W5 N noFt) := rN5
  have HK5 : Hid (Kp (fun j => j = E) w W5) := K5
  clear rN kN kG E5 K5 rN5 nE hW5 hG bG E3 K3 kS
  have HN : Hid (W3.heap.size = N) := hN.symm
  have HW4 : Hid (W3.alloc (.cells #[.int .i64 (-1), .int .i64 (-1), .int .u32 0] 36) = W4) := hW4.symm
  clear hN hW4
  go_upto_region 6 with fail
  rw [HW4.out, HN.out]
  go_wp2_with fail
  rw [Hw.out, Hg.out]
  refine Calls.mono HDid.out ?_; rintro e w6 ⟨rfl, k6, e6⟩
  clear HDid Hw Hg HW4 HN
  obtain ⟨O, hO⟩ : ∃ O, O = w6.heap.size := ⟨_, rfl⟩
  obtain ⟨W7, hW7⟩ : ∃ W, W = w6.alloc (.cells #[.int .i64 (-1), .int .i64 (-1), .int .u32 0, .int .i64 (-1), .bool false] 56) := ⟨_, rfl⟩
  have kO : Kp noB w6 W7 := by rw [hW7]; exact Kp.alloc _ _ _
  have o7 : OcAt W7 O noFt (-1) false := by rw [hW7, hO]; exact oc_laid w6 _ _ _ _ _
  have e7 := EAt.kp0 e6 kO
  have r7 := (RowT.kp HrN.out k6 HnE.out).kp kO id
  have K7 := (HK5.out.trans k6).trans (kO.mono (fun _ _ f => f.elim))
  have nO : O ≠ E ∧ O ≠ N := by have := e6.lt; have := (RowT.kp HrN.out k6 HnE.out).lt; omega
  have wO : w.heap.size ≤ O := by rw [hO]; exact Nat.le_trans HK5.out.size k6.size
  have g0 : (csAdd c3)[0]? = some (.int .u32 0) := by
    unfold csAdd
    rw [Array.getElem?_setIfInBounds_ne (by decide)]
    exact Array.getElem?_setIfInBounds_self_of_lt (by unfold startC; simp only [Array.size_setIfInBounds]; have := (Array.getElem?_eq_some_iff.1 a0).1; omega)
  have g3 : (csAdd c3)[3]? = some (.int .u32 0) := by
    unfold csAdd
    rw [Array.getElem?_setIfInBounds_ne (by decide), Array.getElem?_setIfInBounds_ne (by decide), startC_ne (by decide)]; exact a3
  have g8 : (csAdd c3)[8]? = some (.int .u32 3) := by
    unfold csAdd startC
    rw [Array.getElem?_setIfInBounds_ne (by decide), Array.getElem?_setIfInBounds_ne (by decide), Array.getElem?_setIfInBounds_ne (by decide)]
    exact Array.getElem?_setIfInBounds_self_of_lt ((Array.getElem?_eq_some_iff.1 a8).1)
  have g9 : (csAdd c3)[9]? = some (.int .u32 87) := by
    unfold csAdd
    exact Array.getElem?_setIfInBounds_self_of_lt (by unfold startC; simp only [Array.size_setIfInBounds]; exact (Array.getElem?_eq_some_iff.1 a9).1)
  have g80 : (csAdd c3)[80]? = some (.bool false) := by
    unfold csAdd startC
    rw [Array.getElem?_setIfInBounds_ne (by decide), Array.getElem?_setIfInBounds_ne (by decide)]
    exact Array.getElem?_setIfInBounds_self_of_lt (by simp only [Array.size_setIfInBounds]; exact (Array.getElem?_eq_some_iff.1 a80).1)
  generalize csAdd c3 = c7 at *
  have Hg : Hid (c7[0]? = some (.int .u32 0) ∧ c7[3]? = some (.int .u32 0) ∧ c7[8]? = some (.int .u32 3) ∧ c7[9]? = some (.int .u32 87) ∧ c7[80]? = some (.bool false)) := ⟨g0, g3, g8, g9, g80⟩
  clear a0 a3 a8 a9 a80 Hc3 e6 k6 kO HK5 HrN
  have x0 := e7.cell g0
  have x8 := e7.cell g8
  have x9 := e7.cell g9
  obtain ⟨u0, u1, u2, u3, u4⟩ := o7.c
  have v0 := r7.c0; have v1 := r7.c1; have v2 := r7.c2
  have n0 : noFt.vec = -1 := rfl
  have n1 : noFt.code = -1 := rfl
  have n2 : noFt.cr2 = 0 := rfl
  rw [n0] at u0 v0; rw [n1] at u1 v1; rw [n2] at u2 v2
  have HO : Hid (w6.heap.size = O) := hO.symm
  have HW7 : Hid (w6.alloc (.cells #[.int .i64 (-1), .int .i64 (-1), .int .u32 0, .int .i64 (-1), .bool false] 56) = W7) := hW7.symm
  have HE7 : Hid (EAt W7 E c7 (.pointer (some ⟨V, 0, none⟩)) (.pointer (some ⟨B, 0, none⟩))) := e7
  have HO7 : Hid (OcAt W7 O noFt (-1) false) := o7
  have HR7 : Hid (RowT W7 N noFt) := r7
  have HK7 : Hid (Kp (fun j => j = E) w W7) := K7
  have HnO : Hid (O ≠ E ∧ O ≠ N ∧ w.heap.size ≤ O) := ⟨nO.1, nO.2, wO⟩
  clear hO hW7 e7 o7 r7 K7 nO wO g0 g3 g8 g9 g80 n0 n1 n2
  go_upto_region 7 with fail
  rw [HW7.out, HO.out]
  clear HW7 HO
  go_upto_region 8 with fail
  clear x0 x8 x9 u0 u1 u2 u3 u4 v0 v1 v2
  obtain ⟨G, hG⟩ : ∃ G, G = W7.heap.size := ⟨_, rfl⟩
  obtain ⟨X8, hX8⟩ : ∃ W, W = W7.alloc (.cells #[.int .u8 246, .int .u8 243] 5) := ⟨_, rfl⟩
  have bG : BytL X8 G [246, 243] := ⟨by rw [hX8, hG]; exact (MapKept.heap_alloc W7 _).1, by decide⟩
  have kG : Kp noB W7 X8 := by rw [hX8]; exact Kp.alloc _ _ _
  have eX := EAt.kp0 HE7.out kG
  have oX := OcAt.kp HO7.out kG id
  have rX := RowT.kp HR7.out kG id
  have KX := HK7.out.trans (kG.mono (fun _ _ f => f.elim))
  obtain ⟨a0, a3, a8, a9, a80⟩ := Hg.out
  have HDid : Hid _ := did_any X8 E G [246, 243] (by decide) bG 2 2 rfl xDiv dec_div (0) (-1) 0 (-1) false (fun j => j = E) (fun w' => EAt w' E c7 (.pointer (some ⟨V, 0, none⟩)) (.pointer (some ⟨B, 0, none⟩))) (fun j hj => by rw [hj]; exact eX.lt) (fun W W' p k => EAt.kp p k (by have := eX.lt; omega)) (fun W k => do_div W E V B c7 (eX.kp0 k) 0 (by decide) (by decide) a0 a3 3 (by decide) (by decide) a8 _ a80)
  have Hw : Hid (W7.alloc (.cells #[.int .u8 246, .int .u8 243] 5) = X8) := hX8.symm
  have HG : Hid (W7.heap.size = G) := hG.symm
  have HoX : Hid (OcAt X8 O noFt (-1) false) := oX
  have HrX : Hid (RowT X8 N noFt) := rX
  have HKX : Hid (Kp (fun j => j = E) w X8) := KX
  clear hG hX8 bG kG eX oX rX KX a0 a3 a8 a9 a80
  go_wp2_with fail
  rw [Hw.out, HG.out]
  refine Calls.mono HDid.out ?_; rintro e y8 ⟨rfl, ky, ey⟩
  have oY := OcAt.kp HoX.out ky HnO.out.1
  have rY := RowT.kp HrX.out ky HnE.out
  have KY := HKX.out.trans ky
  obtain ⟨u0, u1, u2, u3, u4⟩ := oY.c
  have z0 := oY.fz 0; have z1 := oY.fz 1; have z2 := oY.fz 2; have z3 := oY.fz 3; have z4 := oY.fz 4
  obtain ⟨Z8, hZ8⟩ : ∃ W, W = setOc y8 O ⟨0, -1, 0⟩ (-1) false := ⟨_, rfl⟩
  have kZ := kp_setOc y8 O ⟨0, -1, 0⟩ (-1) false
  have oZ := oY.set ⟨0, -1, 0⟩ (-1) false
  rw [← hZ8] at kZ oZ
  have HO8 : Hid (OcAt Z8 O ⟨0, -1, 0⟩ (-1) false) := oZ
  have HE8 : Hid (EAt Z8 E c7 (.pointer (some ⟨V, 0, none⟩)) (.pointer (some ⟨B, 0, none⟩))) := EAt.kp ey kZ (fun g => HnO.out.1 g.symm)
  have HR8 : Hid (RowT Z8 N noFt) := RowT.kp rY kZ (fun g => HnO.out.2.1 g.symm)
  have HK8 : Hid (Kp (fun j => j = E) w Z8) := KY.over kZ (fun j hj g => absurd hj (by have := HnO.out.2.2; omega))
  unfold setOc at hZ8
  simp only at hZ8
  have Hz : Hid (_ = Z8) := hZ8.symm
  clear hZ8 kZ oZ oY rY KY ky ey HDid Hw HG HoX HrX HKX
  go_upto_region 9 with fail
  rw [Hz.out]
  clear Hz u0 u1 u2 u3 u4 z0 z1 z2 z3 z4
  obtain ⟨u0, u1, u2, u3, u4⟩ := HO8.out.c
  have x8 := HE8.out.cell Hg.out.2.2.1
  go_upto_region 10 with fail
  clear u0 u1 u2 u3 u4 x8
  obtain ⟨G, hG⟩ : ∃ G, G = Z8.heap.size := ⟨_, rfl⟩
  obtain ⟨X9, hX9⟩ : ∃ W, W = Z8.alloc (.cells #[.int .u8 205, .int .u8 128] 5) := ⟨_, rfl⟩
  have bG : BytL X9 G [205, 128] := ⟨by rw [hX9, hG]; exact (MapKept.heap_alloc Z8 _).1, by decide⟩
  have kG : Kp noB Z8 X9 := by rw [hX9]; exact Kp.alloc _ _ _
  have eX := EAt.kp0 HE8.out kG
  have oX := OcAt.kp HO8.out kG id
  have rX := RowT.kp HR8.out kG id
  have KX := HK8.out.trans (kG.mono (fun _ _ f => f.elim))
  obtain ⟨a0, a3, a8, a9, a80⟩ := Hg.out
  have HDid : Hid _ := did_any X9 E G [205, 128] (by decide) bG 2 2 rfl xInt dec_int (-1) (-1) 0 (128) false (fun j => j = E) (fun w' => EAt w' E (startC c7 3 2) (.pointer (some ⟨V, 0, none⟩)) (.pointer (some ⟨B, 0, none⟩))) (fun j hj => by rw [hj]; exact eX.lt) (fun W W' p k => EAt.kp p k (by have := eX.lt; omega)) (fun W k => do_int W E V B c7 (eX.kp0 k) 3 (by decide) (by decide) a8 _ a80)
  have Hw : Hid (Z8.alloc (.cells #[.int .u8 205, .int .u8 128] 5) = X9) := hX9.symm
  have HG : Hid (Z8.heap.size = G) := hG.symm
  have HoX : Hid (OcAt X9 O ⟨0, -1, 0⟩ (-1) false) := oX
  have HrX : Hid (RowT X9 N noFt) := rX
  have HKX : Hid (Kp (fun j => j = E) w X9) := KX
  clear hG hX9 bG kG eX oX rX KX a0 a3 a8 a9 a80
  go_wp2_with fail
  rw [Hw.out, HG.out]
  refine Calls.mono HDid.out ?_; rintro e y9 ⟨rfl, ky, ey⟩
  have oY := OcAt.kp HoX.out ky HnO.out.1
  have rY := RowT.kp HrX.out ky HnE.out
  have KY := HKX.out.trans ky
  obtain ⟨u0, u1, u2, u3, u4⟩ := oY.c
  have z0 := oY.fz 0; have z1 := oY.fz 1; have z2 := oY.fz 2; have z3 := oY.fz 3; have z4 := oY.fz 4
  obtain ⟨Z9, hZ9⟩ : ∃ W, W = setOc y9 O ⟨-1, -1, 0⟩ (128) false := ⟨_, rfl⟩
  have kZ := kp_setOc y9 O ⟨-1, -1, 0⟩ (128) false
  have oZ := oY.set ⟨-1, -1, 0⟩ (128) false
  rw [← hZ9] at kZ oZ
  have HO9 : Hid (OcAt Z9 O ⟨-1, -1, 0⟩ (128) false) := oZ
  have HE9 : Hid (EAt Z9 E (startC c7 3 2) (.pointer (some ⟨V, 0, none⟩)) (.pointer (some ⟨B, 0, none⟩))) := EAt.kp ey kZ (fun g => HnO.out.1 g.symm)
  have HR9 : Hid (RowT Z9 N noFt) := RowT.kp rY kZ (fun g => HnO.out.2.1 g.symm)
  have HK9 : Hid (Kp (fun j => j = E) w Z9) := KY.over kZ (fun j hj g => absurd hj (by have := HnO.out.2.2; omega))
  unfold setOc at hZ9
  simp only at hZ9
  have Hz : Hid (_ = Z9) := hZ9.symm
  clear hZ9 kZ oZ oY rY KY ky ey HDid Hw HG HoX HrX HKX
  go_upto_region 11 with fail
  rw [Hz.out]
  clear Hz u0 u1 u2 u3 u4 z0 z1 z2 z3 z4
  obtain ⟨u0, u1, u2, u3, u4⟩ := HO9.out.c
  have v0 := HR9.out.c0; have v1 := HR9.out.c1; have v2 := HR9.out.c2
  have n0 : noFt.vec = -1 := rfl
  have n1 : noFt.code = -1 := rfl
  have n2 : noFt.cr2 = 0 := rfl
  rw [n0] at v0; rw [n1] at v1; rw [n2] at v2
  have HZ : Hid (Kp noB w Z9) := ⟨HK9.out.os, HK9.out.tape, HK9.out.output, HK9.out.size, fun j hj _ => HK9.out.block j hj (by have := HE.out; omega)⟩
  clear n0 n1 n2
  go_wp2
  go_ret
  exact ⟨rfl, HZ.out⟩
end Go.Proofs.YtiagfmkinefidaaGreat.Rm
