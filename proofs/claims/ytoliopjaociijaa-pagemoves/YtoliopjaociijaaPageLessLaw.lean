/- The walk of the statement PageLess: what may be more may be less; with a fault nothing is written. -/
import Derived.Test.YtoliopjaociijaaPgOpen
namespace Go.Proofs.Ytoliopjaociijaa
open Go.ChangeShapes Go.WideShapes Go.ChangeAt Go.RowKit Go.Maps
set_option linter.unusedVariables false

theorem lets_less {w u wr us wp : Bool} (h : letsB w u wr us wp = true) : letsB w u false us wp = true ∧ letsB w u false false wp = true := by
  cases w <;> cases u <;> cases wr <;> cases us <;> cases wp <;> first | exact ⟨rfl, rfl⟩ | exact Bool.noConfusion h

theorem ok_less {M : Mem} {c l : Int} {wr us wp : Bool} (h : fOk M c l wr us wp = true) : fOk M c l false us wp = true ∧ fOk M c l false false wp = true := by
  unfold fOk at *
  simp only [Bool.and_eq_true] at *
  exact ⟨⟨h.1, (lets_less h.2).1⟩, h.1, (lets_less h.2).2⟩

theorem code_ok {M : Mem} {c l : Int} {wr us wp : Bool} (h : fOk M c l wr us wp = true) : fCode M c l wr us wp = -1 := by
  unfold fOk at h
  simp only [Bool.and_eq_true] at h
  unfold fCode
  rw [if_pos h.1, if_pos h.2]

theorem walk_ok {M : Mem} {c l : Int} {wr us wp : Bool} (h : fOk M c l wr us wp = true) : fWalk M c l wr us wp = walkV (fFr M c l) (pdeA c l) (fPte M c l) (fW M c l) (fU M c l) := by
  unfold fWalk
  rw [if_pos h]

theorem no_all {M : Mem} {c l : Int} {wr us wp : Bool} (h : fOk M c l wr us wp = false) : fWalk M c l wr us wp = walkV 0 0 0 false false ∧ fMem M c l wr us wp = M ∧ (fCode M c l wr us wp = codeW wr us ∨ fCode M c l wr us wp = 1 + codeW wr us) := by
  refine ⟨?_, ?_, ?_⟩
  · unfold fWalk; rw [h]; rfl
  · unfold fMem; rw [h]; rfl
  · unfold fOk at h
    unfold fCode
    cases hh : fHere M c l
    · left; rfl
    · rw [hh] at h
      have h' : letsB (fW M c l) (fU M c l) wr us wp = false := by simpa using h
      right; rw [h']; rfl

/-- A code says what was asked. -/
theorem code_says {cd : Int} {wr us : Bool} (h : cd = codeW wr us ∨ cd = 1 + codeW wr us) : 0 ≤ cd ∧ cd < 8 ∧ (cd / 2 % 2 == 1) = wr ∧ (cd / 4 == 1) = us := by
  rcases h with rfl | rfl <;> cases wr <;> cases us <;> decide

set_option maxRecDepth 100000 in
set_option maxHeartbeats 4000000 in
theorem PageLess_walk (w : World) (a0 : Option Addr) (len0 cap0 : Nat) (wf wg : Nat → Int) (q0 : len0 ≤ 9223372036854775807) (ws0 : ∀ i, i < len0 → WordIn w a0 wf wg i)
    (c l : Int) (xw us wp : Bool) (c0 : 0 ≤ c) (c1 : c < 4294967296) (l0 : 0 ≤ l) (l1 : l < 4294967296) :
    Calls Try.prog 4 #[.slice a0 len0 cap0, askV c l xw us wp] w fun e w' => e = .returned (.bool true) ∧ Below w.heap.size w w' := by
  have HB : Hid (∀ W, Kp noB w W → Calls Try.prog 8 #[.int .i64 16, .slice a0 len0 cap0, .slice none 0 0] W (BothPost W (memOf wf wg (fun _ => 0) len0 0))) := fun W kW => both_any W a0 none len0 cap0 0 0 wf wg (fun _ => 0) q0 (by omega) (fun i hi => (ws0 i hi).kp kW) (fun i hi => absurd hi (by omega))
  have hms := memOf_same wf wg (fun _ => 0) len0 0
  obtain ⟨M0, hM0⟩ : ∃ M0, M0 = memOf wf wg (fun _ => 0) len0 0 := ⟨_, rfl⟩
  rw [← hM0] at HB hms
  clear ws0 hM0
  obtain ⟨hMn, hMc⟩ := hms
  have HC : Hid (∀ (W : World) (B : Nat) (x y z : Bool), RamAt W B M0 → Calls Try.prog 9 #[.pointer (some ⟨B + 3, 0, none⟩), .int .u32 c, .int .u32 l, .agg #[.bool x, .bool y, .bool z]] W (FdPost W B M0 c l x y z)) := fun W B x y z hW => find_ok W B M0 hW c l x y z c0 c1 l0 l1
  have r0 : RowA (w.alloc (.cells #[.int .u32 c, .int .u32 l, .bool xw, .bool us, .bool wp] 39)) w.heap.size c l xw us wp := (MapKept.heap_alloc w _).1
  have k0 := Kp.alloc noB w (.cells #[.int .u32 c, .int .u32 l, .bool xw, .bool us, .bool wp] 39)
  obtain ⟨X, hX⟩ : ∃ X, w.heap.size = X := ⟨_, rfl⟩
  rw [hX] at r0
  have HX : Hid (w.heap.size = X) := hX
  clear hX c0 c1 l0 l1
  unfold askV
  cases hok : fOk M0 c l xw us wp
  · obtain ⟨n1, n2, n3⟩ := no_all hok
    obtain ⟨d0, d1, d2, d3⟩ := code_says n3
    have HC1 : Hid (∀ (W : World) (B : Nat), RamAt W B M0 → Calls Try.prog 9 #[.pointer (some ⟨B + 3, 0, none⟩), .int .u32 c, .int .u32 l, .agg #[.bool xw, .bool us, .bool wp]] W (fun e w' => e = .returned (.tuple #[.agg #[.int .u32 0, .int .u32 0, .int .u32 0, .bool false, .bool false], .int .i64 (fCode M0 c l xw us wp), .int .i64 0]) ∧ RamAt w' B M0 ∧ Kp (inRam B 16) W w')) := fun W B hW => by
      have := HC.out W B xw us wp hW
      unfold FdPost at this
      rw [n1, n2, hMn] at this
      exact this
    obtain ⟨cd, hcd⟩ : ∃ cd, cd = fCode M0 c l xw us wp := ⟨_, rfl⟩
    rw [← hcd] at HC1 d0 d1 d2 d3
    clear hcd HC hok n1 n2 n3
    go_enter Try.func4, Try.ntmps4
    go_wp2_with fail
    refine (awake_any _).mono ?_; rintro e w1 ⟨rfl, k1⟩
    replace r0 := r0.kp k1 (fun f => f)
    replace k0 := k0.trans k1
    clear k1
    go_wp2_with fail
    refine (HB.out _ k0).mono ?_; rintro e w2 ⟨B, R, rfl, hB2, hout, k2⟩
    have nX : ¬ both B 16 R X := fun f => by have := hout _ f; have := r0.lt; omega
    have HO : Hid (∀ j, both B 16 R j → w.heap.size ≤ j) := fun j hj => by have := hout j hj; have := k0.size; omega
    replace r0 := r0.kp k2 (fun f => f)
    replace k0 := k0.trans k2
    clear k2 HB hout
    rw [HX.out]
    have e0 := r0.c0; have e1 := r0.c1; have e2 := r0.c2; have e3 := r0.c3; have e4 := r0.c4
    have hap := hB2.ap
    rw [hMn] at hap
    have hra := hB2.ram
    have hrf := hB2.ref
    go_wp2_with fail
    refine (HC1.out _ _ hra).mono ?_; rintro e w3 ⟨rfl, hr3, k3⟩
    replace r0 := r0.kp k3 (fun f => nX (.inl f))
    have hB3 : Both w3 B R M0 := ⟨hr3, hrf.kp k3 (fun j hj f => hap j hj f), hB2.ap⟩
    replace k0 := k0.over k3 (fun t ht f => by have := HO.out t (.inl f); omega)
    clear k3 e0 e1 e2 e3 e4 hra hrf hB2 hr3
    have kA := Kp.alloc noB w3 (.cells #[.int .u32 0, .int .u32 0, .int .u32 0, .bool false, .bool false] 32)
    have cA := alike_any (w3.alloc (.cells #[.int .u32 0, .int .u32 0, .int .u32 0, .bool false, .bool false] 32)) B R M0 (hB3.kp kA (fun _ _ f => f)) hMn hMc
    have rK : RowK (w3.alloc (.cells #[.int .u32 0, .int .u32 0, .int .u32 0, .bool false, .bool false] 32)) w3.heap.size 0 0 0 false false := (MapKept.heap_alloc w3 _).1
    replace r0 := r0.kp kA (fun f => f)
    replace k0 := k0.trans kA
    go_wp2_with fail
    refine cA.mono ?_; rintro e w4 ⟨rfl, k4⟩
    replace r0 := r0.kp k4 (fun f => f)
    replace rK := rK.kp k4 (fun f => f)
    replace k0 := k0.trans k4
    have e0 := r0.c0; have e1 := r0.c1; have e2 := r0.c2; have e3 := r0.c3; have e4 := r0.c4
    have f0 := rK.c0; have f1 := rK.c1; have f2 := rK.c2; have f3 := rK.c3; have f4 := rK.c4
    clear k4 cA kA hB3 r0 rK
    go_wp2
    go_ret
    exact ⟨by simp, k0.every⟩
  · obtain ⟨hok1, hok2⟩ := ok_less hok
    have hc0 := code_ok hok
    have hc1 := code_ok hok1
    have hc2 := code_ok hok2
    have hw0 := walk_ok hok
    have hw1 := walk_ok hok1
    have hw2 := walk_ok hok2
    unfold FdPost at HC
    have HC0 : Hid (∀ (W : World) (B : Nat), RamAt W B M0 → Calls Try.prog 9 #[.pointer (some ⟨B + 3, 0, none⟩), .int .u32 c, .int .u32 l, .agg #[.bool xw, .bool us, .bool wp]] W (fun e w' => e = .returned (.tuple #[walkV (fFr M0 c l) (pdeA c l) (fPte M0 c l) (fW M0 c l) (fU M0 c l), .int .i64 (-1), .int .i64 0]) ∧ RamAt w' B (fMem M0 c l xw us wp) ∧ Kp (inRam B 16) W w')) := fun W B hW => by
      have := HC.out W B xw us wp hW
      rw [hw0, hc0, hMn] at this
      exact this
    have HC1 : Hid (∀ (W : World) (B : Nat), RamAt W B M0 → Calls Try.prog 9 #[.pointer (some ⟨B + 3, 0, none⟩), .int .u32 c, .int .u32 l, .agg #[.bool false, .bool us, .bool wp]] W (fun e w' => e = .returned (.tuple #[walkV (fFr M0 c l) (pdeA c l) (fPte M0 c l) (fW M0 c l) (fU M0 c l), .int .i64 (-1), .int .i64 0]) ∧ Kp (inRam B 16) W w')) := fun W B hW => by
      refine (HC.out W B false us wp hW).mono ?_
      rintro e w' ⟨h1, h2, h3⟩
      rw [hw1, hc1] at h1
      rw [hMn] at h3
      exact ⟨h1, h3⟩
    have HC2 : Hid (∀ (W : World) (B : Nat), RamAt W B M0 → Calls Try.prog 9 #[.pointer (some ⟨B + 3, 0, none⟩), .int .u32 c, .int .u32 l, .agg #[.bool false, .bool false, .bool wp]] W (fun e w' => e = .returned (.tuple #[walkV (fFr M0 c l) (pdeA c l) (fPte M0 c l) (fW M0 c l) (fU M0 c l), .int .i64 (-1), .int .i64 0]) ∧ Kp (inRam B 16) W w')) := fun W B hW => by
      refine (HC.out W B false false wp hW).mono ?_
      rintro e w' ⟨h1, h2, h3⟩
      rw [hw2, hc2] at h1
      rw [hMn] at h3
      exact ⟨h1, h3⟩
    clear HC hok hok1 hok2 hc0 hc1 hc2 hw0 hw1 hw2 hMc
    unfold walkV at HC0 HC1 HC2
    generalize fFr M0 c l = f at *
    generalize pdeA c l = p at *
    generalize fPte M0 c l = q at *
    generalize fW M0 c l = x at *
    generalize fU M0 c l = y at *
    generalize fMem M0 c l xw us wp = M1 at *
    go_enter Try.func4, Try.ntmps4
    go_wp2_with fail
    refine (awake_any _).mono ?_; rintro e w1 ⟨rfl, k1⟩
    replace r0 := r0.kp k1 (fun f => f)
    replace k0 := k0.trans k1
    clear k1
    go_wp2_with fail
    refine (HB.out _ k0).mono ?_; rintro e w2 ⟨B, R, rfl, hB2, hout, k2⟩
    have nX : ¬ both B 16 R X := fun f => by have := hout _ f; have := r0.lt; omega
    have HO : Hid (∀ j, both B 16 R j → w.heap.size ≤ j) := fun j hj => by have := hout j hj; have := k0.size; omega
    replace r0 := r0.kp k2 (fun f => f)
    replace k0 := k0.trans k2
    clear k2 hout
    rw [HX.out]
    have e0 := r0.c0; have e1 := r0.c1; have e2 := r0.c2; have e3 := r0.c3; have e4 := r0.c4
    have hra := hB2.ram
    go_wp2_with fail
    refine (HC0.out _ _ hra).mono ?_; rintro e w3 ⟨rfl, hr3, k3⟩
    replace r0 := r0.kp k3 (fun f => nX (.inl f))
    replace k0 := k0.over k3 (fun t ht f => by have := HO.out t (.inl f); omega)
    clear k3 e0 e1 e2 e3 e4 hra hB2 hr3 HC0
    have kA := Kp.alloc noB w3 (.cells #[.int .u32 f, .int .u32 p, .int .u32 q, .bool x, .bool y] 32)
    have rK : RowK (w3.alloc (.cells #[.int .u32 f, .int .u32 p, .int .u32 q, .bool x, .bool y] 32)) w3.heap.size f p q x y := (MapKept.heap_alloc w3 _).1
    obtain ⟨Y, hY⟩ : ∃ Y, Y = w3.heap.size := ⟨_, rfl⟩
    rw [← hY] at rK
    have hYX : X < Y := by rw [hY]; exact r0.lt
    have HY : Hid (w3.heap.size = Y) := hY.symm
    clear hY
    replace r0 := r0.kp kA (fun f => f)
    replace k0 := k0.trans kA
    clear kA
    go_wp2_with fail
    refine (HB.out _ k0).mono ?_; rintro e w4 ⟨B2, R2, rfl, hB4, hout4, k4⟩
    rw [HY.out]
    have hYs := rK.lt
    have nX4 : ¬ inRam B2 16 X := fun f => by have := hout4 _ (.inl f); have := r0.lt; omega
    have nY4 : ¬ inRam B2 16 Y := fun f => by have := hout4 _ (.inl f); omega
    have HO4 : Hid (∀ j, both B2 16 R2 j → w.heap.size ≤ j) := fun j hj => by have := hout4 j hj; have := k0.size; omega
    replace r0 := r0.kp k4 (fun f => f)
    replace rK := rK.kp k4 (fun f => f)
    replace k0 := k0.trans k4
    clear k4 hout4 hYs
    have hra4 := hB4.ram
    have e0 := r0.c0; have e1 := r0.c1; have e2 := r0.c2; have e3 := r0.c3; have e4 := r0.c4
    have ra := fun O => r0.kp (Kp.alloc noB w4 O) (fun f => f)
    have e5 := fun O => (ra O).c0
    have e6 := fun O => (ra O).c1
    clear ra
    go_wp2_with fail
    refine (HC1.out _ _ (hra4.alloc _)).mono ?_; rintro e w5 ⟨rfl, k5⟩
    have kB := Kp.alloc noB w4 (.cells #[.bool false, .bool us, .bool wp] 37)
    have rB : RowB (w4.alloc (.cells #[.bool false, .bool us, .bool wp] 37)) w4.heap.size false us wp := (MapKept.heap_alloc w4 _).1
    have nB : ¬ inRam B2 16 w4.heap.size := fun f => by have := hra4.lt; rw [hMn] at this; have := f.2; omega
    replace rB := rB.kp k5 nB
    obtain ⟨U, hU⟩ : ∃ U, U = w4.heap.size := ⟨_, rfl⟩
    rw [← hU] at rB
    have hUX : X < U := by rw [hU]; exact r0.lt
    have hUY : Y < U := by rw [hU]; exact rK.lt
    have HU : Hid (w4.heap.size = U) := hU.symm
    replace r0 := (r0.kp kB (fun f => f)).kp k5 nX4
    replace rK := (rK.kp kB (fun f => f)).kp k5 nY4
    replace k0 := (k0.trans kB).over k5 (fun t ht f => by have := HO4.out t (.inl f); omega)
    clear k5 kB e0 e1 e2 e3 e4 e5 e6 hra4 hB4 hU nB nX4 nY4 HC1 HO4
    rw [HU.out]
    have kC := Kp.alloc noB w5 (.cells #[.int .u32 f, .int .u32 p, .int .u32 q, .bool x, .bool y] 32)
    have rY : RowK (w5.alloc (.cells #[.int .u32 f, .int .u32 p, .int .u32 q, .bool x, .bool y] 32)) w5.heap.size f p q x y := (MapKept.heap_alloc w5 _).1
    obtain ⟨Y5, hY5⟩ : ∃ Y5, Y5 = w5.heap.size := ⟨_, rfl⟩
    rw [← hY5] at rY
    have hU5 : U < Y5 := by rw [hY5]; exact rB.lt
    have HY5 : Hid (w5.heap.size = Y5) := hY5.symm
    clear hY5
    replace r0 := r0.kp kC (fun f => f)
    replace rB := rB.kp kC (fun f => f)
    replace rK := rK.kp kC (fun f => f)
    replace k0 := k0.trans kC
    clear kC
    go_wp2_with fail
    refine (HB.out _ k0).mono ?_; rintro e w6 ⟨B3, R3, rfl, hB6, hout6, k6⟩
    rw [HY5.out]
    have hYs := rY.lt
    have n6 : ∀ j, j ≤ Y5 → ¬ inRam B3 16 j := fun j hj f => by have := hout6 _ (.inl f); omega
    have HO6 : Hid (∀ j, both B3 16 R3 j → w.heap.size ≤ j) := fun j hj => by have := hout6 j hj; have := k0.size; omega
    replace r0 := r0.kp k6 (fun f => f)
    replace rB := rB.kp k6 (fun f => f)
    replace rK := rK.kp k6 (fun f => f)
    replace rY := rY.kp k6 (fun f => f)
    replace k0 := k0.trans k6
    have HN6 : Hid (∀ j, j ≤ Y5 → ¬ inRam B3 16 j) := n6
    clear k6 hout6 hYs HB n6
    have b1 := rB.c1
    have bf : w6.frozen? ⟨U, 1, none⟩ = false := frozen_at rB
    have kD : Kp (fun j => j = U) w6 (w6.setCell ⟨U, 1, none⟩ (.bool false)) := Kp.setCell (S := fun j => j = U) w6 (p := ⟨U, 1, none⟩) rfl (.bool false)
    have rB' : RowB (w6.setCell ⟨U, 1, none⟩ (.bool false)) U false false wp := heap_setCell_at rB _
    have rA' := r0.kp kD (by omega)
    have rK' := rK.kp kD (by omega)
    have rY' := rY.kp kD (by omega)
    have hr7 := hB6.ram.kp kD (fun j hj f => HN6.out j (by omega) (by rw [hMn] at hj; exact hj))
    have k7 := k0.own (b := U) (i := 1) (by have := HX.out; omega) (.bool false)
    have a0' := rA'.c0; have a1' := rA'.c1
    have b0' := rB'.c0; have b1' := rB'.c1; have b2' := rB'.c2
    clear r0 rB rK rY k0 kD hB6
    go_wp2_with fail
    refine (HC2.out _ _ hr7).mono ?_; rintro e w8 ⟨rfl, k8⟩
    replace rK' := rK'.kp k8 (HN6.out _ (by omega))
    replace rY' := rY'.kp k8 (HN6.out _ (by omega))
    replace k7 := k7.over k8 (fun t ht f => by have := HO6.out t (.inl f); omega)
    clear k8 hr7 a0' a1' b0' b1' b2' rB' rA' b1 bf HC2
    have rka := fun O => rK'.kp (Kp.alloc noB w8 O) (fun f => f)
    have rya := fun O => rY'.kp (Kp.alloc noB w8 O) (fun f => f)
    have d0 := fun O => (rka O).c0
    have d1 := fun O => (rka O).c1
    have d2 := fun O => (rka O).c2
    have d3 := fun O => (rka O).c3
    have d4 := fun O => (rka O).c4
    have g0 := fun O => (rya O).c0
    have g1 := fun O => (rya O).c1
    have g2 := fun O => (rya O).c2
    have g3 := fun O => (rya O).c3
    have g4 := fun O => (rya O).c4
    clear rka rya
    go_wp2
    go_ret
    exact ⟨by simp, (k7.trans (Kp.alloc _ _ _)).every⟩
end Go.Proofs.Ytoliopjaociijaa
