/- The walk of the statement PageMoves: lowest bits change nothing of what is found; pages beside one another are found by words that are. -/
import Derived.Test.YtoliopjaociijaaPgOpen
import Derived.Test.YtoliopjaociijaaPgMoves
import Derived.Test.YtoliopjaociijaaPageLessLaw
namespace Go.Proofs.Ytoliopjaociijaa
open Go.ChangeShapes Go.WideShapes Go.ChangeAt Go.RowKit Go.Maps
set_option linter.unusedVariables false

set_option maxRecDepth 100000 in
set_option maxHeartbeats 4000000 in
theorem PageMoves_walk (w : World) (a0 : Option Addr) (len0 cap0 : Nat) (wf wg : Nat → Int) (q0 : len0 ≤ 9223372036854775807) (ws0 : ∀ i, i < len0 → WordIn w a0 wf wg i)
    (c l : Int) (xw us wp : Bool) (c0 : 0 ≤ c) (c1 : c < 4294967296) (l0 : 0 ≤ l) (l1 : l < 4294967296) (lo : Int) (g0 : 0 ≤ lo) (g1 : lo < 4294967296) (hi : Int) (h0 : 0 ≤ hi) (h1 : hi < 4294967296) :
    Calls Try.prog 6 #[.slice a0 len0 cap0, askV c l xw us wp, .int .u32 lo, .int .u32 hi] w fun e w' => e = .returned (.bool true) ∧ Below w.heap.size w w' := by
  have HB : Hid (∀ W, Kp noB w W → Calls Try.prog 8 #[.int .i64 16, .slice a0 len0 cap0, .slice none 0 0] W (BothPost W (memOf wf wg (fun _ => 0) len0 0))) := fun W kW => both_any W a0 none len0 cap0 0 0 wf wg (fun _ => 0) q0 (by omega) (fun i hi => (ws0 i hi).kp kW) (fun i hi => absurd hi (by omega))
  have hms := memOf_same wf wg (fun _ => 0) len0 0
  obtain ⟨M0, hM0⟩ : ∃ M0, M0 = memOf wf wg (fun _ => 0) len0 0 := ⟨_, rfl⟩
  rw [← hM0] at HB hms
  clear ws0 hM0
  obtain ⟨hMn, hMc⟩ := hms
  have eC := or_low c0 c1 (h := hi % 4096) (by omega) (by omega)
  have eL := or_low l0 l1 (h := lo % 4096) (by omega) (by omega)
  rw [← not4095 c0 c1] at eC
  rw [← not4095 l0 l1] at eL
  have bC := lowed_bd c0 c1 (h := hi % 4096) (by omega) (by omega)
  have bL := lowed_bd l0 l1 (h := lo % 4096) (by omega) (by omega)
  obtain ⟨mW, mC⟩ := moves_all (M := M0) (c := c) (l := l) (hi := hi % 4096) (lo := lo % 4096) (by omega) (by omega) (by omega) (by omega) xw us wp
  obtain ⟨f, p, q, x, y, hwk⟩ := fWalk_is M0 c l xw us wp
  have cb := fCode_bd M0 c l xw us wp
  have hsm := fMem_same M0 c l xw us wp
  have HC : Hid (∀ (W : World) (B : Nat), RamAt W B M0 → Calls Try.prog 9 #[.pointer (some ⟨B + 3, 0, none⟩), .int .u32 c, .int .u32 l, .agg #[.bool xw, .bool us, .bool wp]] W (fun e w' => e = .returned (.tuple #[.agg #[.int .u32 f, .int .u32 p, .int .u32 q, .bool x, .bool y], .int .i64 (fCode M0 c l xw us wp), .int .i64 0]) ∧ RamAt w' B (fMem M0 c l xw us wp) ∧ Kp (inRam B 16) W w')) := fun W B hW => by
    have := find_ok W B M0 hW c l xw us wp c0 c1 l0 l1
    unfold FdPost at this
    rw [hwk, hMn] at this
    exact this
  have HD : Hid (∀ (W : World) (B : Nat), RamAt W B M0 → Calls Try.prog 9 #[.pointer (some ⟨B + 3, 0, none⟩), .int .u32 (lowed c (hi % 4096)), .int .u32 (lowed l (lo % 4096)), .agg #[.bool xw, .bool us, .bool wp]] W (fun e w' => e = .returned (.tuple #[.agg #[.int .u32 f, .int .u32 p, .int .u32 q, .bool x, .bool y], .int .i64 (fCode M0 c l xw us wp), .int .i64 0]) ∧ Kp (inRam B 16) W w')) := fun W B hW => by
    refine (find_ok W B M0 hW (lowed c (hi % 4096)) (lowed l (lo % 4096)) xw us wp bC.1 bC.2 bL.1 bL.2).mono ?_
    rintro e w' ⟨h1, h2, h3⟩
    rw [mW, mC, hwk] at h1
    rw [hMn] at h3
    exact ⟨h1, h3⟩
  have nC : bits .andNot .u32 c 4095 = c - c % 4096 := not4095 c0 c1
  have nL : bits .andNot .u32 l 4095 = l - l % 4096 := not4095 l0 l1
  rw [nC] at eC
  rw [nL] at eL
  have eC' : bits .or .u32 (c - c % 4096) (hi % 4096) = lowed c (hi % 4096) := eC
  have eL' : bits .or .u32 (l - l % 4096) (lo % 4096) = lowed l (lo % 4096) := eL
  clear eC eL mW mC bC bL
  generalize lowed c (hi % 4096) = c2 at *
  generalize lowed l (lo % 4096) = l2 at *
  have hstd := stands (M := M0)
  have hfnd := found_high (M := M0)
  have hM1 : (fMem M0 c l xw us wp).n = 16 := hsm.1.trans hMn
  have r0 : RowA (w.alloc (.cells #[.int .u32 c, .int .u32 l, .bool xw, .bool us, .bool wp] 39)) w.heap.size c l xw us wp := (MapKept.heap_alloc w _).1
  have k0 := Kp.alloc noB w (.cells #[.int .u32 c, .int .u32 l, .bool xw, .bool us, .bool wp] 39)
  obtain ⟨X, hX⟩ : ∃ X, w.heap.size = X := ⟨_, rfl⟩
  rw [hX] at r0
  have HX : Hid (w.heap.size = X) := hX
  clear hX
  unfold askV
  go_enter Try.func6, Try.ntmps6
  go_wp2_with fail
  refine (awake_any _).mono ?_; rintro e w1 ⟨rfl, k1⟩
  replace r0 := r0.kp k1 (fun f => f)
  replace k0 := k0.trans k1
  clear k1
  go_wp2_with fail
  refine (HB.out _ k0).mono ?_; rintro e w2 ⟨B, R, rfl, hB2, hout, k2⟩
  have nX : ¬ inRam B 16 X := fun f => by have := hout _ (.inl f); have := r0.lt; omega
  have HO : Hid (∀ j, inRam B 16 j → w.heap.size ≤ j) := fun j hj => by have := hout j (.inl hj); have := k0.size; omega
  have HOt : Hid (∀ j, inRam B 16 j → j < w2.heap.size) := fun j hj => by have := hB2.ram.lt; rw [hMn] at this; have := hj.2; omega
  replace r0 := r0.kp k2 (fun f => f)
  replace k0 := k0.trans k2
  clear k2 hout
  have hra := hB2.ram
  clear hB2
  rw [HX.out]
  go_wp2_with fail
  refine (HB.out _ k0).mono ?_; rintro e w3 ⟨B2, R2, rfl, hB3, hout3, k3⟩
  have nX2 : ¬ inRam B2 16 X := fun f => by have := hout3 _ (.inl f); have := r0.lt; omega
  have nA2 : Hid (∀ j, inRam B 16 j → ¬ inRam B2 16 j) := fun j hj f => by have := hout3 _ (.inl f); have := HOt.out j hj; omega
  have HO2 : Hid (∀ j, inRam B2 16 j → w.heap.size ≤ j) := fun j hj => by have := hout3 j (.inl hj); have := k0.size; omega
  replace r0 := r0.kp k3 (fun f => f)
  replace hra := hra.kp k3 (fun _ _ f => f)
  replace k0 := k0.trans k3
  have hra2 := hB3.ram
  clear k3 hout3 hB3 HB HOt
  have e0 := r0.c0; have e1 := r0.c1; have e2 := r0.c2; have e3 := r0.c3; have e4 := r0.c4
  go_wp2_with fail
  refine (HC.out _ _ hra).mono ?_; rintro e w4 ⟨rfl, hr4, k4⟩
  replace r0 := r0.kp k4 nX
  replace hra2 := hra2.kp k4 (fun j hj f => nA2.out j f (by rw [hMn] at hj; exact hj))
  replace k0 := k0.over k4 (fun t ht f => by have := HO.out t f; omega)
  clear k4 e0 e1 e2 e3 e4 hra HC
  have kA := Kp.alloc noB w4 (.cells #[.int .u32 f, .int .u32 p, .int .u32 q, .bool x, .bool y] 32)
  have rK : RowK (w4.alloc (.cells #[.int .u32 f, .int .u32 p, .int .u32 q, .bool x, .bool y] 32)) w4.heap.size f p q x y := (MapKept.heap_alloc w4 _).1
  obtain ⟨Y, hY⟩ : ∃ Y, Y = w4.heap.size := ⟨_, rfl⟩
  rw [← hY] at rK
  have nY2 : ¬ inRam B2 16 Y := fun f => by have := hra2.lt; rw [hMn] at this; have := f.2; omega
  have HY : Hid (w4.heap.size = Y) := hY.symm
  clear hY
  have ra := fun O => r0.kp (Kp.alloc noB w4 O) (fun f => f)
  have e0 := fun O => (ra O).c0
  have e1 := fun O => (ra O).c1
  have e2 := fun O => (ra O).c2
  have e3 := fun O => (ra O).c3
  have e4 := fun O => (ra O).c4
  clear ra
  replace r0 := r0.kp kA (fun f => f)
  replace hr4 := hr4.kp kA (fun _ _ f => f)
  replace hra2 := hra2.kp kA (fun _ _ f => f)
  replace k0 := k0.trans kA
  clear kA
  go_wp2_with fail
  have hrB : RdB M0 := hra2.rdB
  have cM := (hstd hrB c0 c1 l0 l1)
  have cF := (hfnd hrB hMc c0 c1 l0 l1 xw us wp)
  have hq0 := fPte_bd hrB c l l0 l1
  refine (HD.out _ _ hra2).mono ?_; rintro e w5 ⟨rfl, k5⟩
  rw [HY.out]
  replace r0 := r0.kp k5 nX2
  replace rK := rK.kp k5 nY2
  replace hr4 := hr4.kp k5 (fun j hj f => nA2.out j (by rw [hM1] at hj; exact hj) f)
  replace k0 := k0.over k5 (fun t ht f => by have := HO2.out t f; omega)
  have hRdB : RdB (fMem M0 c l xw us wp) := hr4.rdB
  clear k5 e0 e1 e2 e3 e4 hra2 HD hstd hfnd nX nX2 nY2 nA2 hM1 hsm
  have kB := Kp.alloc noB w5 (.cells #[.int .u32 f, .int .u32 p, .int .u32 q, .bool x, .bool y] 32)
  have rka := fun O => rK.kp (Kp.alloc noB w5 O) (fun f => f)
  have d0 := fun O => (rka O).c0
  have d1 := fun O => (rka O).c1
  have d2 := fun O => (rka O).c2
  have d3 := fun O => (rka O).c3
  have d4 := fun O => (rka O).c4
  clear rka
  cases hok : fOk M0 c l xw us wp
  · obtain ⟨_, _, n3⟩ := no_all hok
    have dd := (code_says n3).1
    have ddn : decide (fCode M0 c l xw us wp ≥ 0) = true := decide_eq_true dd
    obtain ⟨b4, b5⟩ := cb
    clear n3 hok cM cF hwk hRdB hr4 hrB
    generalize fCode M0 c l xw us wp = cd at *
    go_wp2
    go_ret
    exact ⟨rfl, (k0.trans kB).every⟩
  · have hc := code_ok hok
    have hw := walk_ok hok
    rw [hwk] at hw
    unfold walkV at hw
    have hw' := Value.agg.inj hw
    simp only [Array.mk.injEq, List.cons.injEq, Value.int.injEq, Value.bool.injEq, true_and, and_true] at hw'
    obtain ⟨ef, ep, eq, ex, ey⟩ := hw'
    rw [← eq] at cF cM hq0
    rw [← ef] at cF cM
    rw [← ep] at cM
    have hp0 := pdeA_bd c0 c1 l0 l1
    rw [← ep] at hp0
    have hf0 : 0 ≤ f ∧ f < 4294967296 := by
      have := fTwo_bd hrB c l
      have e : fFr M0 c l = fTwo M0 c l - fTwo M0 c l % 4096 := rfl
      omega
    obtain ⟨p0, p1⟩ := hp0
    obtain ⟨f0, f1⟩ := hf0
    obtain ⟨qq0, qq1⟩ := hq0
    obtain ⟨s1, s2, s3⟩ := cM
    have vb := hRdB.read q
    have cR := read_ok (w5.alloc (.cells #[.int .u32 f, .int .u32 p, .int .u32 q, .bool x, .bool y] 32)) B _ (hr4.kp kB (fun _ _ f => f)) q 4 qq0 qq1 rfl
    rw [show (4 : Int).toNat = 4 from rfl] at cR
    have nV := not4095 vb.1 vb.2
    rw [cF] at nV
    rw [hc]
    clear hc hw hwk ef ep eq ex ey cF hRdB hrB hok cb hr4
    generalize (fMem M0 c l xw us wp).read q 4 = v at *
    replace r0 := r0.kp kB (fun f => f)
    replace rK := rK.kp kB (fun f => f)
    replace k0 := k0.trans kB
    clear kB
    have hv0 := vb.1
    have hv1 := vb.2
    clear vb
    go_wp2_with fail
    refine cR.mono ?_; rintro e w6 ⟨rfl, k6⟩
    replace r0 := r0.kp k6 (fun f => f)
    replace rK := rK.kp k6 (fun f => f)
    replace k0 := k0.trans k6
    clear cR k6 d0 d1 d2 d3 d4
    have e0 := r0.c0; have e1 := r0.c1
    have d0 := rK.c0; have d1 := rK.c1; have d2 := rK.c2
    go_wp2
    go_ret
    exact ⟨by simp, k0.every⟩
end Go.Proofs.Ytoliopjaociijaa
