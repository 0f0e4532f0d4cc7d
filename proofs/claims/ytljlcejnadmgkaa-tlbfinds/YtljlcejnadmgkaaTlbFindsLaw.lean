/- The walk of the statement TlbFinds: whatever is kept, each walk finds what the document says, and leaves what it says. -/
import Derived.Test.YtljlcejnadmgkaaTlAwake
import Derived.Test.YtljlcejnadmgkaaTlOpen
import Derived.Test.YtljlcejnadmgkaaTlRange
import Derived.Test.YtljlcejnadmgkaaPgRefAny
namespace Go.Proofs.Ytljlcejnadmgkaa
open Go.ChangeShapes Go.WideShapes Go.ChangeAt Go.RowKit Go.Maps
set_option linter.unusedVariables false

def TfL (w : World) (B : Nat) (R : Rf) (K pl L k : Nat) (s : Value) (wr : World) : Prop :=
  ∃ (i : Nat) (M : Mem) (D : DataW Unit) (tn : Nat), s = .int .i64 i ∧ i ≤ L ∧ L - i ≤ k ∧ (M.n = 16 ∧ M.closed = false) ∧ Both wr B R M ∧ TlbD wr K B pl tn D ∧ tn ≤ i ∧ Kp noB w wr

set_option maxRecDepth 100000 in
set_option maxHeartbeats 20000000 in
theorem TlbFinds_walk (w : World) (ps : Int) (ps0 : -9223372036854775808 ≤ ps) (ps1 : ps ≤ 9223372036854775807) (a0 : Option Addr) (len0 cap0 : Nat) (wf wg : Nat → Int) (q0 : len0 ≤ 9223372036854775807) (ws0 : ∀ i, i < len0 → WordIn w a0 wf wg i)
    (a1 : Option Addr) (len1 cap1 : Nat) (og : Nat → Int) (q1 : len1 ≤ 9223372036854775807) (ws1 : ∀ i, i < len1 → OnlyIn w a1 og i)
    (a2 : Option Addr) (L cap2 : Nat) (q2 : L ≤ 9223372036854775807) (ws2 : ∀ i, i < L → OpIn w a2 i) :
    Calls Try.prog 4 #[.int .i64 ps, .slice a0 len0 cap0, .slice a1 len1 cap1, .slice a2 L cap2] w fun e w' => e = .returned (.bool true) ∧ Below w.heap.size w w' := by
  have HB : Hid (∀ W, Kp noB w W → Calls Try.prog 9 #[.int .i64 16, .slice a0 len0 cap0, .slice a1 len1 cap1] W (BothPost W (memOf wf wg og len0 len1))) := fun W kW => both_any W a0 a1 len0 cap0 len1 cap1 wf wg og q0 q1 (fun i hi => (ws0 i hi).kp kW) (fun i hi => (ws1 i hi).kp kW)
  have HS : Hid (∀ i, i < L → OpIn w a2 i) := ws2
  have hms := memOf_same wf wg og len0 len1
  obtain ⟨M0, hM0⟩ : ∃ M0, M0 = memOf wf wg og len0 len1 := ⟨_, rfl⟩
  rw [← hM0] at HB hms
  clear ws0 ws1 ws2 hM0
  go_enter Try.func4, Try.ntmps4
  go_wp2_with fail
  refine (tlAwake_any _).mono ?_; rintro e w1 ⟨rfl, k1⟩
  go_wp2_with fail
  refine (HB.out _ k1).mono ?_; rintro e w2 ⟨B, R, rfl, hB2, hout, k2⟩
  have hs1 := k1.size
  have HO : Hid (∀ j, both B 16 R j → w.heap.size ≤ j) := fun j hj => by have := hout j hj; omega
  replace k2 := k1.trans k2
  clear HB k1 hout hs1
  by_cases hp : ps < 0 ∨ 64 < ps
  · have cN := tlNew_no w2 ⟨B + 3, 0, none⟩ ps ps0 ps1 hp
    go_wp2_with fail
    refine cN.mono ?_; rintro e w3 ⟨rfl, hw⟩; replace hw := hw.symm; subst hw
    rcases hp with h | h
    · have h' : decide (ps < 0) = true := decide_eq_true h
      go_wp2
      go_ret
      exact ⟨rfl, k2.every⟩
    · have h' : decide (ps < 0) = false := decide_eq_false (by omega)
      have h2 : decide (64 < ps) = true := decide_eq_true h
      go_wp2
      go_ret
      exact ⟨rfl, k2.every⟩
  · obtain ⟨pl, hpl⟩ : ∃ pl : Nat, ps = pl := ⟨ps.toNat, by omega⟩
    subst hpl
    have hpl : pl ≤ 64 := by omega
    have h1' : decide ((pl : Int) < 0) = false := decide_eq_false (by omega)
    have h2' : decide (64 < (pl : Int)) = false := decide_eq_false (by omega)
    have cN := tlNew_ok w2 B pl hpl
    go_wp2_with fail
    refine cN.mono ?_; rintro e w3 ⟨rfl, t3, k3⟩
    have HAp : Hid (∀ j, R.has j → ¬ inRam B 16 j) := fun j hj f => by have := hB2.ap j hj; rw [hms.1] at this; exact this f
    have HTb : Hid (∀ j, inTlb w2.heap.size j → ¬ both B 16 R j) := fun j hj f => by
      have := hB2.lt (k := j) (by rw [hms.1]; exact f)
      rcases hj with e | e <;> omega
    have HTw : Hid (∀ j, inTlb w2.heap.size j → w.heap.size ≤ j) := fun j hj => by
      have := k2.size
      rcases hj with e | e <;> omega
    have hB3 := hB2.kp k3 (fun _ _ f => f)
    replace k3 := k2.trans k3
    obtain ⟨K, hKe⟩ : ∃ K, K = w2.heap.size := ⟨_, rfl⟩
    rw [← hKe] at t3 HTb HTw ⊢
    clear hKe cN k2 hB2 hp ps0 ps1
    have cK := tlKept_ok w3 K B pl 0 _ t3
    go_wp2_with fail
    refine cK.mono ?_; rintro e w4 ⟨rfl, hw⟩; replace hw := hw.symm; subst hw
    clear cK
    go_wp2_with fail
    go_loopg [14] L (TfL w B R K pl L)
    case atStart => exact ⟨0, M0, _, 0, rfl, Nat.zero_le _, Nat.le_refl _, hms, hB3, t3, Nat.zero_le _, k3⟩
    case round =>
      clear hB3 k3 hms t3 h1' h2'
      obtain ⟨i, M, D, tn, rfl, hi1, hik, ⟨hMn, hMc⟩, hBo, tl, htn, kk⟩ := hrel
      by_cases hlt : (i : Int) < (L : Int)
      · have hi' : i < L := by omega
        obtain ⟨blk, off, kd, c, l, wr_, us, wp, a, v, rfl, hblk, ⟨c0, c1, c2, c3, c4, c5, c6, c7⟩, ⟨kd0, kd1⟩, ⟨b0, b1, b2, b3⟩, ⟨b4, b5, b6, b7⟩⟩ := (HS.out i hi').kp kk
        obtain ⟨j, hj⟩ : ∃ j, j = i + 1 := ⟨_, rfl⟩
        have HJ : Hid (j = i + 1) := hj
        have HKm : Hid (L - i ≤ gk) := hik
        have HTn : Hid (tn ≤ i) := htn
        have htn2 : tn < 18446744073709551614 := by omega
        clear hj hik hlt htn
        have hra := hBo.ram
        have hrf := hBo.ref
        have hrdb := hra.rdB
        clear hBo
        go_upto_region 14 with fail
        obtain ⟨Z, hZ⟩ : ∃ Z, Z = wr.heap.size := ⟨_, rfl⟩
        obtain ⟨V, hV⟩ : ∃ V, V = wr.alloc (.cells #[.int .i64 kd, .int .u32 c, .int .u32 l, .bool wr_, .bool us, .bool wp, .int .u32 a, .int .u32 v] 43) := ⟨_, rfl⟩
        have kA : Kp noB wr V := by rw [hV]; exact Kp.alloc _ _ _
        have rO : RowO V Z kd c l wr_ us wp a v := by rw [hV, hZ]; exact (MapKept.heap_alloc wr _).1
        have nZ : ¬ both B 16 R Z := fun f => by
          rcases f with f | f
          · have := hra.lt; rw [hMn] at this; have := f.2; omega
          · have := hrf.lt f; omega
        have nZt : ¬ inTlb K Z := fun f => by have := tl.lt; rcases f with e | e <;> omega
        rw [← hV, ← hZ]
        replace hra := hra.kp kA (fun _ _ f => f)
        replace hrf := hrf.kp kA (fun _ _ f => f)
        replace tl := tl.kp kA (fun _ _ f => f)
        replace kk := kk.trans kA
        clear kA hV hZ c0 c1 c2 c3 c4 c5 c6 c7 hblk
        obtain ⟨c0, c1, c2, c3, c4, c5, c6, c7⟩ := rO.all
        have hkd : kd = 1 ∨ kd = 2 ∨ kd = 3 ∨ kd = 4 ∨ ((kd == 1) = false ∧ (kd == 2) = false ∧ (kd == 3) = false ∧ (kd == 4) = false) := by
          by_cases e1 : kd = 1
          · exact .inl e1
          · by_cases e2 : kd = 2
            · exact .inr (.inl e2)
            · by_cases e3 : kd = 3
              · exact .inr (.inr (.inl e3))
              · by_cases e4 : kd = 4
                · exact .inr (.inr (.inr (.inl e4)))
                · exact .inr (.inr (.inr (.inr ⟨by simpa using e1, by simpa using e2, by simpa using e3, by simpa using e4⟩)))
        have HBK : Hid (∀ j, inTlb K j → ¬ inRam B M.n j) := fun j hj f => HTb.out j hj (.inl (by rw [hMn] at f; exact f))
        rcases hkd with rfl | rfl | rfl | rfl | ⟨e1, e2, e3, e4⟩
        · -- Find
          obtain ⟨f, p, q, x, y, hwk⟩ := fWalk_is M c l wr_ us wp
          have cb := fCode_bd M c l wr_ us wp
          have hsm := fMem_same M c l wr_ us wp
          have cC := tlFind_ok V K B pl tn D M tl hra hMc c l wr_ us wp b0 b1 b2 b3 htn2 HBK.out
          have HD : Hid (∀ W, RefAt W R M → Calls Try.prog 13 #[.pointer (some ⟨R.r, 0, none⟩), .int .u32 c, .int .u32 l, .agg #[.bool wr_, .bool us, .bool wp]] W (fun e w' => e = .returned (.tuple #[.agg #[.int .u32 f, .int .u32 p, .int .u32 q, .bool x, .bool y], .int .i64 (fCode M c l wr_ us wp)]) ∧ RefAt w' R (fMem M c l wr_ us wp) ∧ Kp R.has W w')) := fun W hW => by
            have := rfind_any W R M hW hrdb c l wr_ us wp b0 b1 b2 b3
            unfold RdPost at this
            rw [hwk] at this
            exact this
          unfold TfPost at cC
          rw [hwk] at cC
          unfold wayV walkV at cC
          rw [hMn] at hsm cC
          obtain ⟨M', hM'⟩ : ∃ M', M' = fMem M c l wr_ us wp := ⟨_, rfl⟩
          obtain ⟨cd, hcd⟩ : ∃ cd, cd = fCode M c l wr_ us wp := ⟨_, rfl⟩
          rw [← hM'] at cC HD hsm
          rw [← hcd] at cC HD cb
          have hM1 : M'.n = 16 := hsm.1
          have hM2 : M'.closed = false := hsm.2.2.trans hMc
          obtain ⟨cb0, cb1⟩ := cb
          clear hwk hsm hM' hcd hra tl hMc
          go_wp2_with fail
          refine cC.mono ?_; rintro e w4 ⟨rfl, hr4, ⟨D4, tn4, t4, ht4⟩, k4⟩
          have nZ4 : ¬ (inRam B 16 Z ∨ inTlb K Z) := fun f => by
            rcases f with f | f
            · exact nZ (.inl f)
            · exact nZt f
          replace rO := rO.kp k4 nZ4
          replace hrf := hrf.kp k4 (fun j hj f => by
            rcases f with f | f
            · exact HAp.out j hj f
            · exact HTb.out j f (.inr hj))
          replace kk := kk.over k4 (fun t ht f => by
            rcases f with f | f
            · have := HO.out t (.inl f); omega
            · have := HTw.out t f; omega)
          clear k4 cC nZ4 c0 c1 c2 c3 c4 c5 c6 c7
          have kA : Kp noB w4 (w4.alloc (.cells #[.int .u32 f, .int .u32 p, .int .u32 q, .bool x, .bool y] 45)) := Kp.alloc _ _ _
          have rW : RowK (w4.alloc (.cells #[.int .u32 f, .int .u32 p, .int .u32 q, .bool x, .bool y] 45)) w4.heap.size f p q x y := (MapKept.heap_alloc w4 _).1
          have nY : ¬ R.has w4.heap.size := fun f => by have := hrf.lt f; omega
          replace rO := rO.kp kA (fun f => f)
          replace hrf := hrf.kp kA (fun _ _ f => f)
          replace hr4 := hr4.kp kA (fun _ _ f => f)
          replace t4 := t4.kp kA (fun _ _ f => f)
          replace kk := kk.trans kA
          obtain ⟨Y, hY⟩ : ∃ Y, Y = w4.heap.size := ⟨_, rfl⟩
          obtain ⟨c0, c1, c2, c3, c4, c5, c6, c7⟩ := rO.all
          clear kA
          go_wp2_with fail
          refine (HD.out _ hrf).mono ?_; rintro e w5 ⟨rfl, f8, k5⟩
          replace rW := rW.kp k5 nY
          have r8 := hr4.kp k5 (fun j hj f => HAp.out j f (by rw [hM1] at hj; exact hj))
          have t8 := t4.kp k5 (fun j hj f => HTb.out j hj (.inr f))
          have kk8 := kk.over k5 (fun t ht f => by have := HO.out t (.inr f); omega)
          rw [← hY] at rW ⊢
          clear k5 kk hrf hr4 t4 nY hY rO c0 c1 c2 c3 c4 c5 c6 c7 HD
          have kB : Kp noB w5 (w5.alloc (.cells #[.int .u32 f, .int .u32 p, .int .u32 q, .bool x, .bool y] 45)) := Kp.alloc _ _ _
          replace rW := rW.kp kB (fun f => f)
          replace r8 := r8.kp kB (fun _ _ f => f)
          replace f8 := f8.kp kB (fun _ _ f => f)
          replace t8 := t8.kp kB (fun _ _ f => f)
          replace kk8 := kk8.trans kB
          clear kB
          have htn4 : tn4 ≤ j := by have := HJ.out; have := HTn.out; omega
          have rX : RowK (w5.alloc (.cells #[.int .u32 f, .int .u32 p, .int .u32 q, .bool x, .bool y] 45)) w5.heap.size f p q x y := (MapKept.heap_alloc w5 _).1
          obtain ⟨Y2, hY2⟩ : ∃ Y, Y = w5.heap.size := ⟨_, rfl⟩
          go_upto_region 18 with fail
          obtain ⟨w8, hw8⟩ : ∃ W, W = (w5.alloc (.cells #[.int .u32 f, .int .u32 p, .int .u32 q, .bool x, .bool y] 45)) := ⟨_, rfl⟩
          rw [← hw8] at rW rX r8 f8 t8 kk8 ⊢
          rw [← hY2] at rX ⊢
          clear hw8 hY2
          have d0 := rW.c0; have d1 := rW.c1; have d2 := rW.c2; have d3 := rW.c3; have d4 := rW.c4
          have g0 := rX.c0; have g1 := rX.c1; have g2 := rX.c2; have g3 := rX.c3; have g4 := rX.c4
          have cK := tlKept_ok w8 K B pl tn4 D4 t8
          have sz0 : decide ((Maps.size D4 : Int) < 0) = false := decide_eq_false (by omega)
          have sz1 : decide ((pl : Int) < (Maps.size D4 : Int)) = false := decide_eq_false (by have := t8.g.size; omega)
          have sz2 : decide (pl < Maps.size D4) = false := decide_eq_false (by have := t8.g.size; omega)
          have sz3 : ¬ pl < Maps.size D4 := by have := t8.g.size; omega
          go_wp2_with fail
          refine cK.mono ?_; rintro e w9 ⟨rfl, hw⟩; replace hw := hw.symm; subst hw
          go_wp2_with fail
          refine cK.mono ?_; rintro e w9 ⟨rfl, hw⟩; replace hw := hw.symm; subst hw
          clear cK
          go_wp2_with fail
          go_roundg (L - j)
          case measure => have := HJ.out; have := HKm.out; omega
          case rel => exact ⟨j, M', D4, tn4, by rw [HJ.out]; rfl, by have := HJ.out; omega, Nat.le_refl _, ⟨hM1, hM2⟩, ⟨r8, f8, fun j hj f => HAp.out j hj (by rw [hM1] at f; exact f)⟩, t8, by have := HJ.out; omega, kk8⟩
        · -- Write
          have e21 : ((2 : Int) == 1) = false := by decide
          have cC := write_ok V B M hra a 4 v b4 b5 b6 b7 rfl
          have HD : Hid (∀ W, RefAt W R M → Calls Try.prog 15 #[.pointer (some ⟨R.r, 0, none⟩), .int .u32 a, .int .i64 4, .int .u32 v] W fun e w' => e = .returned (.int .i64 0) ∧ RefAt w' R (M.lay false a (bytesV v)) ∧ Kp R.has W w') := fun W hW => refWrite_ok W R M hW a 4 v b4 b5 b6 b7 rfl
          replace cC : Calls Try.prog 14 #[.pointer (some ⟨B + 3, 0, none⟩), .int .u32 a, .int .i64 4, .int .u32 v] V fun e w' => e = .returned (.int .i64 0) ∧ RamAt w' B (M.lay false a (bytesV v)) ∧ Kp (inRam B M.n) V w' := cC
          rw [hMn] at cC
          have hM1 : (M.lay false a (bytesV v)).n = 16 := (lay_same _ _ _ _).1.trans hMn
          have hM2 : (M.lay false a (bytesV v)).closed = false := (lay_same _ _ _ _).2.2.trans hMc
          generalize M.lay false a (bytesV v) = M' at *
          clear hra hMc
          go_wp2_with fail
          refine cC.mono ?_; rintro e w4 ⟨rfl, hr4, k4⟩
          replace rO := rO.kp k4 (fun f => nZ (.inl f))
          replace hrf := hrf.kp k4 (fun j hj f => HAp.out j hj f)
          replace tl := tl.kp k4 (fun j hj f => HTb.out j hj (.inl f))
          replace kk := kk.over k4 (fun t ht f => by have := HO.out t (.inl f); omega)
          clear k4 cC c0 c1 c2 c3 c4 c5 c6 c7
          obtain ⟨c0, c1, c2, c3, c4, c5, c6, c7⟩ := rO.all
          go_wp2_with fail
          refine (HD.out _ hrf).mono ?_; rintro e w8 ⟨rfl, f8, k5⟩
          have r8 := hr4.kp k5 (fun j hj f => HAp.out j f (by rw [hM1] at hj; exact hj))
          have t8 := tl.kp k5 (fun j hj f => HTb.out j hj (.inr f))
          have kk8 := kk.over k5 (fun t ht f => by have := HO.out t (.inr f); omega)
          clear k5 kk hrf hr4 tl rO c0 c1 c2 c3 c4 c5 c6 c7 HD
          have htn4 : tn ≤ j := by have := HJ.out; have := HTn.out; omega
          have cK := tlKept_ok w8 K B pl tn D t8
          have sz0 : decide ((Maps.size D : Int) < 0) = false := decide_eq_false (by omega)
          have sz1 : decide ((pl : Int) < (Maps.size D : Int)) = false := decide_eq_false (by have := t8.g.size; omega)
          have sz2 : decide (pl < Maps.size D) = false := decide_eq_false (by have := t8.g.size; omega)
          have sz3 : ¬ pl < Maps.size D := by have := t8.g.size; omega
          go_wp2_with fail
          refine cK.mono ?_; rintro e w9 ⟨rfl, hw⟩; replace hw := hw.symm; subst hw
          go_wp2_with fail
          refine cK.mono ?_; rintro e w9 ⟨rfl, hw⟩; replace hw := hw.symm; subst hw
          clear cK
          go_wp2_with fail
          go_roundg (L - j)
          case measure => have := HJ.out; have := HKm.out; omega
          case rel => exact ⟨j, M', D, tn, by rw [HJ.out]; rfl, by have := HJ.out; omega, Nat.le_refl _, ⟨hM1, hM2⟩, ⟨r8, f8, fun j hj f => HAp.out j hj (by rw [hM1] at f; exact f)⟩, t8, by have := HJ.out; omega, kk8⟩
        · -- Flush
          have cC := tlFlush_ok V K B pl tn D tl
          clear tl
          go_wp2_with fail
          refine cC.mono ?_; rintro e w8 ⟨rfl, t8, k4⟩
          have r8 := hra.kp k4 (fun j hj f => HTb.out j f (.inl (by rw [hMn] at hj; exact hj)))
          have f8 := hrf.kp k4 (fun j hj f => HTb.out j f (.inr hj))
          have kk8 := kk.over k4 (fun t ht f => by have := HTw.out t f; omega)
          clear k4 cC kk hrf hra rO c0 c1 c2 c3 c4 c5 c6 c7
          have htn4 : tn ≤ j := by have := HJ.out; have := HTn.out; omega
          have cK0 := tlKept_ok w8 K B pl tn (.map []) t8
          go_wp2_with fail
          refine cK0.mono ?_; rintro e w9 ⟨rfl, hw⟩; replace hw := hw.symm; subst hw
          clear cK0
          have cK := tlKept_ok w8 K B pl tn (.map [] : DataW Unit) t8
          have sz0 : decide ((Maps.size (.map [] : DataW Unit) : Int) < 0) = false := decide_eq_false (by omega)
          have sz1 : decide ((pl : Int) < (Maps.size (.map [] : DataW Unit) : Int)) = false := decide_eq_false (by have := t8.g.size; omega)
          have sz2 : decide (pl < Maps.size (.map [] : DataW Unit)) = false := decide_eq_false (by have := t8.g.size; omega)
          have sz3 : ¬ pl < Maps.size (.map [] : DataW Unit) := by have := t8.g.size; omega
          go_wp2_with fail
          refine cK.mono ?_; rintro e w9 ⟨rfl, hw⟩; replace hw := hw.symm; subst hw
          go_wp2_with fail
          refine cK.mono ?_; rintro e w9 ⟨rfl, hw⟩; replace hw := hw.symm; subst hw
          clear cK
          go_wp2_with fail
          go_roundg (L - j)
          case measure => have := HJ.out; have := HKm.out; omega
          case rel => exact ⟨j, M, (.map [] : DataW Unit), tn, by rw [HJ.out]; rfl, by have := HJ.out; omega, Nat.le_refl _, ⟨hMn, hMc⟩, ⟨r8, f8, fun j hj f => HAp.out j hj (by rw [hMn] at f; exact f)⟩, t8, by have := HJ.out; omega, kk8⟩
        · -- Drop
          have cC := tlDrop_ok V K B pl tn D tl l b2 b3
          clear tl
          go_wp2_with fail
          refine cC.mono ?_; rintro e w8 ⟨rfl, ⟨D4, t8, hs4⟩, k4⟩
          have nK : ∀ j, j = K → inTlb K j := fun j e => .inl e
          have r8 := hra.kp k4 (fun j hj f => HTb.out j (nK j f) (.inl (by rw [hMn] at hj; exact hj)))
          have f8 := hrf.kp k4 (fun j hj f => HTb.out j (nK j f) (.inr hj))
          have kk8 := kk.over k4 (fun t ht f => by have := HTw.out t (nK t f); omega)
          clear k4 cC kk hrf hra rO c0 c1 c2 c3 c4 c5 c6 c7 nK hs4
          have htn4 : tn ≤ j := by have := HJ.out; have := HTn.out; omega
          have cK := tlKept_ok w8 K B pl tn D4 t8
          have sz0 : decide ((Maps.size D4 : Int) < 0) = false := decide_eq_false (by omega)
          have sz1 : decide ((pl : Int) < (Maps.size D4 : Int)) = false := decide_eq_false (by have := t8.g.size; omega)
          have sz2 : decide (pl < Maps.size D4) = false := decide_eq_false (by have := t8.g.size; omega)
          have sz3 : ¬ pl < Maps.size D4 := by have := t8.g.size; omega
          go_wp2_with fail
          refine cK.mono ?_; rintro e w9 ⟨rfl, hw⟩; replace hw := hw.symm; subst hw
          go_wp2_with fail
          refine cK.mono ?_; rintro e w9 ⟨rfl, hw⟩; replace hw := hw.symm; subst hw
          clear cK
          go_wp2_with fail
          go_roundg (L - j)
          case measure => have := HJ.out; have := HKm.out; omega
          case rel => exact ⟨j, M, D4, tn, by rw [HJ.out]; rfl, by have := HJ.out; omega, Nat.le_refl _, ⟨hMn, hMc⟩, ⟨r8, f8, fun j hj f => HAp.out j hj (by rw [hMn] at f; exact f)⟩, t8, by have := HJ.out; omega, kk8⟩
        · -- no call
          rename TlbD V K B pl tn D => t8
          rename RamAt V B M => r8
          rename RefAt V R M => f8
          rename Kp noB w V => kk8
          clear rO c1 c2 c3 c4 c5 c6 c7
          have htn4 : tn ≤ j := by have := HJ.out; have := HTn.out; omega
          have cK := tlKept_ok V K B pl tn D t8
          have sz0 : decide ((Maps.size D : Int) < 0) = false := decide_eq_false (by omega)
          have sz1 : decide ((pl : Int) < (Maps.size D : Int)) = false := decide_eq_false (by have := t8.g.size; omega)
          have sz2 : decide (pl < Maps.size D) = false := decide_eq_false (by have := t8.g.size; omega)
          have sz3 : ¬ pl < Maps.size D := by have := t8.g.size; omega
          go_wp2_with fail
          refine cK.mono ?_; rintro e w9 ⟨rfl, hw⟩; replace hw := hw.symm; subst hw
          go_wp2_with fail
          refine cK.mono ?_; rintro e w9 ⟨rfl, hw⟩; replace hw := hw.symm; subst hw
          clear cK
          go_wp2_with fail
          go_roundg (L - j)
          case measure => have := HJ.out; have := HKm.out; omega
          case rel => exact ⟨j, M, D, tn, by rw [HJ.out]; rfl, by have := HJ.out; omega, Nat.le_refl _, ⟨hMn, hMc⟩, ⟨r8, f8, fun j hj f => HAp.out j hj (by rw [hMn] at f; exact f)⟩, t8, by have := HJ.out; omega, kk8⟩
      · clear hik
        have cA := alike_any wr B R M hBo hMn hMc
        go_wp2_with fail
        refine cA.mono ?_; rintro e w4 ⟨rfl, k4⟩
        go_wp2
        go_ret
        exact ⟨rfl, (kk.trans k4).every⟩
end Go.Proofs.Ytljlcejnadmgkaa
