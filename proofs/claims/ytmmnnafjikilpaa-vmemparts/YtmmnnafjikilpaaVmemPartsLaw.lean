/- The walk of the statement VmemParts: a wide value is its bytes; code is what is loaded there. -/
import Derived.Test.YtmmnnafjikilpaaVk
import Derived.Test.YtmmnnafjikilpaaVg
namespace Go.Proofs.Ytmmnnafjikilpaa
open Go.ChangeShapes Go.WideShapes Go.ChangeAt Go.RowKit Go.Maps
set_option linter.unusedVariables false
set_option maxRecDepth 20000

set_option maxHeartbeats 4000000 in
theorem VmemParts_walk (w : World) (x : Option Addr) (L cp : Nat) (f g : Nat → Int) (hL : L ≤ 9223372036854775807) (hw : ∀ i, i < L → WordIn w x f g i) (off : Int) (o0 : 0 ≤ off) (o1 : off < 4294967296) (pages : Bool) (r : Int) (z0 : -9223372036854775808 ≤ r) (z1 : r ≤ 9223372036854775807) :
    Calls Try.prog 7 #[.slice x L cp, .int .u32 off, .bool pages, .int .i64 r] w fun e w' => e = .returned (.bool true) ∧ Below w.heap.size w w' := by
  obtain ⟨T, n, Z, h⟩ := vlP
  obtain ⟨vl, vs, va, vb⟩ := h.ops
  have g1 := h.agg; have g2 := h.size; have g3 := h.zero
  have HV : Hid (VlP T n Z) := h
  obtain ⟨M, hM⟩ : ∃ M, M = memOf f g (fun _ => 0) L 0 := ⟨_, rfl⟩
  have HN : Hid (M.n = 16 ∧ M.closed = false) := by rw [hM]; exact memOf_same _ _ _ _ _
  have HB : Hid (∀ W, Kp noB w W → Calls Try.prog 10 #[.int .i64 16, .slice x L cp, .slice none 0 0] W (BothPost W M)) := fun W k => by
    rw [hM]
    exact both_any W x none L cp 0 0 f g (fun _ => 0) hL (by omega) (fun i hi => (hw i hi).kp k) (fun i hi => absurd hi (by omega))
  have HF : Hid (∀ W, _) := fun W => flat_any W r z0 z1
  clear h hM hw hL
  obtain ⟨s, hs⟩ : ∃ s, s = IntKind.u16.wrap (r.tmod 4) := ⟨_, rfl⟩
  obtain ⟨d, hd⟩ : ∃ d, d = r.tmod 4 := ⟨_, rfl⟩
  rw [← hd] at hs
  rw [← hd, ← hs] at HF
  clear hs hd z0 z1
  go_enter Try.func7, Try.ntmps7
  simp only [vl, vs, va, vb] at *
  go_wp2_with fail
  refine (vmAwake_any _).mono ?_; rintro e w1 ⟨rfl, k1⟩
  go_wp2_with fail
  refine (HF.out w1).mono ?_; rintro e w2 ⟨cs, rfl, wf, hcp, k2⟩
  replace k2 := k1.trans k2
  clear k1 HF
  have hst := HV.out.new wf w2
  have hsz : cs.size = n := by rw [wf.s, HV.out.s]
  have HOw : Hid (w.heap.size ≤ w2.heap.size) := k2.size
  cases pages
  · skip
    have cC := (HV.out.at wf w2).cp hcp (flatP_ok s d 1 0 (by decide) (by decide) (by decide) (by decide))
    have k4 := k2.trans (Kp.alloc noB w2 (.cells cs T))
    go_wp2_with fail
    obtain ⟨C, hC⟩ : ∃ C, C = w2.heap.size := ⟨_, rfl⟩
    obtain ⟨W4, hW4⟩ : ∃ W, W = w2.alloc (.cells cs T) := ⟨_, rfl⟩
    rw [← hC] at cC HOw
    rw [← hW4] at cC k4
    rw [← hW4, ← hC]
    clear hW4 hC k2 hst hsz hcp wf
    have HCl : Hid (C < W4.heap.size) := cC.lt
    refine Calls.mono (HB.out W4 k4) ?_; rintro e w5 ⟨B, R, rfl, hb1, ho1, k5⟩
    have ra := hb1.ram
    replace cC := cC.kp0 k5
    have s4 := k5.size
    replace k5 := k4.trans k5
    clear hb1 k4
    have cN := vNew_ok w5 B 8 (by omega) M ra HN.out.2
    go_wp2_with fail
    refine cN.mono ?_; rintro e w6 ⟨V, rfl, hV, v6, k6⟩
    have i1 := inR_of ho1 ra HN.out.1 hV v6 rfl
    have HOC : Hid (w.heap.size ≤ C ∧ C < W4.heap.size ∧ W4.heap.size ≤ w5.heap.size) := ⟨HOw.out, HCl.out, s4⟩
    replace cC := cC.kp0 k6
    replace k6 := k5.trans k6
    clear cN k5 s4
    obtain ⟨K, hK⟩ : ∃ K, K = w5.heap.size := ⟨_, rfl⟩
    rw [← hK] at v6 i1 HOC
    clear hK
    have HI : Hid (∀ j, inVm V K B 16 j → j ≠ C ∧ w.heap.size ≤ j) := fun j hj => by
      rcases i1 j hj with f | f <;> (have := HCl.out; have := HOC.out; omega)
    have HG : Hid (Gd M) := ⟨ra.rdB, HN.out.2⟩
    clear i1 ho1 hV ra
    have nC : ¬ modVm K B 16 C := fun f => ((HI.out _ (.inr f)).1 rfl)
    have cS := load_any w6 V K B 8 0 C M v6 (flatP s d 1 0) cC (by rw [HN.out.1]; exact nC) 3 off 4 o0 o1 (by decide)
    have hn : (segQ M (flatP s d 1 0) 3 off 4 false).m.n = 16 := by rw [segQ_n]; exact HN.out.1
    obtain ⟨q, hq⟩ : ∃ q, q = segQ M (flatP s d 1 0) 3 off 4 false := ⟨_, rfl⟩
    have HQ : Hid (q = segQ M (flatP s d 1 0) 3 off 4 false) := hq
    rw [← hq] at cS hn
    clear hq
    rw [Ft.val_is] at cS
    go_wp2_with fail
    refine cS.mono ?_; rintro e w7 ⟨rfl, ⟨tn7, ht7, v7⟩, k7⟩
    rw [hn] at k7
    have n7 : ¬ modVm K B 16 w7.heap.size := fun f => by have := v7.in_lt (j := w7.heap.size) (by rw [hn]; exact f); omega
    replace cC := cC.kp k7 nC
    replace k7 : Kp noB w w7 := k6.over k7 (fun j hj f => absurd hj (by have := HI.out j (.inr f); omega))
    have kA := Kp.alloc noB w7 (.cells #[.int .i64 q.ft.vec, .int .i64 q.ft.code, .int .u32 q.ft.cr2] 25)
    have r7 : RowT (w7.alloc (.cells #[.int .i64 q.ft.vec, .int .i64 q.ft.code, .int .u32 q.ft.cr2] 25)) w7.heap.size q.ft := (MapKept.heap_alloc w7 _).1
    replace v7 := v7.kp0 kA
    replace cC := cC.kp0 kA
    replace k7 := k7.trans kA
    clear cS kA k6 v6
    have hb0 : (0 : Int) ≤ 0 := by decide
    have hb1 : (0 : Int) < 4294967296 := by decide
    obtain ⟨X, hX⟩ : ∃ X, X = w7.heap.size := ⟨_, rfl⟩
    rw [← hX] at r7 n7
    have HGq : Hid (Gd q.m) := ⟨v7.ram.rdB, v7.cl⟩
    have HS0 : Hid (PtL w V K B C X (flatP s d 1 0) q 4 (.int .u32 0) (.int .i64 0) (w7.alloc (.cells #[.int .i64 q.ft.vec, .int .i64 q.ft.code, .int .u32 q.ft.cr2] 25))) := ⟨0, 0, tn7, q.m, rfl, rfl, by decide, by decide, v7, by omega, hn, HGq.out, cC, r7, n7, k7, fun _ => ⟨rfl, rfl⟩⟩
    clear v7 cC r7 n7 k7 ht7 hn
    go_wp2_with fail
    rw [← hX]
    clear hX
    go_loopg [17, 18] 4 (PtL w V K B C X (flatP s d 1 0) q)
    case atStart => exact HS0.out
    case round =>
      clear HS0
      obtain ⟨i, y, tn, Mi, hr⟩ := hrel
      obtain ⟨ei, ey, hi4, hik, vR, htn, hn, hg, cR, rR, nX, kR, hp⟩ := hr
      subst ei; subst ey
      have HK : Hid (4 - i ≤ gk) := hik
      have HP : Hid (q.f = none → Mi = q.m ∧ y = parS q.m q.s i) := hp
      clear hik hp
      by_cases hlt : i < 4
      · obtain ⟨o, ho⟩ : ∃ o, o = (off + i) % 4294967296 := ⟨_, rfl⟩
        have ob0 : 0 ≤ o := by omega
        have ob1 : o < 4294967296 := by omega
        have BQ := byte_q hg s d 1 0 hb0 hb1 ob0 ob1
        have cL := load_any wr V K B 8 tn C Mi vR (flatP s d 1 0) cR (by rw [hn]; exact nC) 3 o 1 ob0 ob1 (by omega)
        have hm : (segQ Mi (flatP s d 1 0) 3 o 1 false).m.n = 16 := by rw [segQ_n]; exact hn
        obtain ⟨qb, hqb⟩ : ∃ q, q = segQ Mi (flatP s d 1 0) 3 o 1 false := ⟨_, rfl⟩
        rw [← hqb] at cL hm BQ
        obtain ⟨bq1, bq2, bq3, bq4⟩ := BQ
        have HS := part_step HG.out hb0 hb1 o0 o1 HQ.out hlt HP.out (qb := qb) (by rw [hqb, ho]) bq4 HGq.out
        have HS' : Hid _ := HS
        have HB3 : Hid (Gd qb.m) := bq3
        clear hqb bq3 bq4 HS hg
        rw [Ft.val_is] at cL
        have HC : Hid (∀ W tn', VmAt W V K B 8 tn' qb.m → CpAt W C (flatP s d 1 0) → tn' < 18446744073709551613 → Calls Try.prog 20 #[.pointer (some ⟨V, 0, none⟩), .pointer (some ⟨C, 0, none⟩), .int .u32 o] W fun e w' => e = .returned (.tuple #[.int .u8 qb.val, .int .u32 qb.place, .agg #[.int .i64 qb.ft.vec, .int .i64 qb.ft.code, .int .u32 qb.ft.cr2]]) ∧ VmP W V K B 8 tn' qb.m 2 w') := fun W t vW cW hW => by
          have := cde_any W V K B 8 t C qb.m vW (flatP s d 1 0) cW (by rw [hm]; exact nC) o ob0 ob1 hW
          rw [bq1, Ft.val_is] at this
          exact this
        clear bq1
        obtain ⟨v0, hv0⟩ : ∃ v, v = qb.val := ⟨_, rfl⟩
        rw [← hv0] at cL HC bq2 HS'
        have HV0 : Hid (v0 = qb.val) := hv0
        clear hv0
        obtain ⟨v1, v2⟩ := bq2
        have v3 : v0 % 4294967296 = v0 := by omega
        have v4 : IntKind.u32.wrap v0 = v0 := by rw [IntKind.wrap_u32]; omega
        rcases (by omega : i = 0 ∨ i = 1 ∨ i = 2 ∨ i = 3) with hI | hI | hI | hI
        · obtain rfl : i = 0 := hI
          obtain rfl : o = off := by omega
          clear ho hlt
          go_wp2_with fail
          refine cL.mono ?_; rintro e w8 ⟨rfl, ⟨tn8, ht8, v8⟩, k8⟩
          rw [hm] at k8
          have n8 : ¬ modVm K B 16 w8.heap.size := fun f => by have := v8.in_lt (j := w8.heap.size) (by rw [hm]; exact f); omega
          replace cR := cR.kp k8 nC
          replace rR := rR.kp k8 nX
          replace kR : Kp noB w w8 := kR.over k8 (fun j hj f => absurd hj (by have := HI.out j (.inr f); omega))
          have kA := Kp.alloc noB w8 (.cells #[.int .i64 qb.ft.vec, .int .i64 qb.ft.code, .int .u32 qb.ft.cr2] 25)
          have r8 : RowT (w8.alloc (.cells #[.int .i64 qb.ft.vec, .int .i64 qb.ft.code, .int .u32 qb.ft.cr2] 25)) w8.heap.size qb.ft := (MapKept.heap_alloc w8 _).1
          replace v8 := v8.kp0 kA
          replace cR := cR.kp0 kA
          replace rR := rR.kp kA (fun f => f)
          replace kR := kR.trans kA
          clear cL kA k8 vR
          have cD := HC.out _ tn8 v8 cR (by omega)
          go_wp2_with fail
          refine cD.mono ?_; rintro e w9 ⟨rfl, ⟨tn9, ht9, v9⟩, k9⟩
          rw [hm] at k9
          replace cR := cR.kp k9 nC
          replace rR := rR.kp k9 nX
          replace r8 := r8.kp k9 n8
          replace kR : Kp noB w w9 := kR.over k9 (fun j hj f => absurd hj (by have := HI.out j (.inr f); omega))
          have kA := Kp.alloc noB w9 (.cells #[.int .i64 qb.ft.vec, .int .i64 qb.ft.code, .int .u32 qb.ft.cr2] 25)
          have r9 : RowT (w9.alloc (.cells #[.int .i64 qb.ft.vec, .int .i64 qb.ft.code, .int .u32 qb.ft.cr2] 25)) w9.heap.size qb.ft := (MapKept.heap_alloc w9 _).1
          replace v9 := v9.kp0 kA
          replace cR := cR.kp0 kA
          replace rR := rR.kp kA (fun f => f)
          replace r8 := r8.kp kA (fun f => f)
          replace kR := kR.trans kA
          clear cD HC kA k9 v8 n8
          go_upto_region 17 with fail
          obtain ⟨W9, hW9⟩ : ∃ W, W = w9.alloc (.cells #[.int .i64 qb.ft.vec, .int .i64 qb.ft.code, .int .u32 qb.ft.cr2] 25) := ⟨_, rfl⟩
          obtain ⟨X8, hX8⟩ : ∃ X, X = w8.heap.size := ⟨_, rfl⟩
          obtain ⟨X9, hX9⟩ : ∃ X, X = w9.heap.size := ⟨_, rfl⟩
          rw [← hW9] at v9 cR rR r8 r9 kR
          rw [← hX8] at r8
          rw [← hX9] at r9
          rw [← hW9, ← hX8, ← hX9]
          clear hW9 hX8 hX9
          have f0 := rR.c0
          have g0 := r8.c0; have g1 := r8.c1; have g2 := r8.c2
          have h0 := r9.c0; have h1 := r9.c1; have h2 := r9.c2
          have HRl : Hid (RowT W9 X q.ft ∧ VmAt W9 V K B 8 tn9 qb.m ∧ tn9 ≤ tn + 4 ∧ qb.m.n = 16 ∧ CpAt W9 C (flatP s d 1 0) ∧ Kp noB w W9) := ⟨rR, v9, by omega, hm, cR, kR⟩
          clear r8 r9 rR v9 hm cR kR ht8 ht9
          have HTn : Hid (tn ≤ 2 + 4 * 0) := htn
          rcases HS'.out with ⟨e1, e2, e3, e4, e5, e6⟩ | ⟨e1, e2, e3⟩ | ⟨e1, e2, e3⟩
          · rw [e2] at g0 g1 g2 h0 h1 h2
            rw [e1] at f0
            have HE : Hid (qb.m = q.m ∧ y + v0 * 256 ^ 0 = parS q.m q.s (0 + 1) ∧ parS q.m q.s (0 + 1) < 4294967296) := ⟨e3, e4, e6⟩
            unfold noFt at f0 g0 g1 g2 h0 h1 h2
            simp only at f0 g0 g1 g2 h0 h1 h2
            clear e1 e2 e3 e4 e6 HS'
            go_wp2_with fail
            have hY : (y + v0) % 4294967296 = parS q.m q.s (0 + 1) := by
              have h1 : y + v0 * 256 ^ 0 = parS q.m q.s (0 + 1) := HE.out.2.1
              have h3 := HE.out.2.2
              have h4 : (y + v0) = y + v0 * 256 ^ 0 := by show _ = y + v0 * 1; omega
              rw [h4, h1]
              have h5 : 0 ≤ parS q.m q.s (0 + 1) := by rw [← h1]; show 0 ≤ y + v0 * 1; omega
              omega
            have HY : Hid _ := hY
            clear hY
            go_roundg (4 - (0 + 1))
            case measure => have := HK.out; omega
            case rel =>
              obtain ⟨z1, z2, z3, z4, z5, z6⟩ := HRl.out
              exact ⟨0 + 1, _, tn9, qb.m, rfl, rfl, by decide, Nat.le_refl _, z2, by have := HTn.out; omega, z4, HB3.out, z5, z1, nX, z6, fun _ => ⟨HE.out.1, HY.out⟩⟩
          · rw [e3] at g0 g1 g2 h0 h1 h2
            unfold noFt at g0 g1 g2 h0 h1 h2
            simp only at g0 g1 g2 h0 h1 h2
            have HE : Hid (q.f = none → False) := e2
            have e4 : decide (q.ft.vec < 0) = false := decide_eq_false (by omega)
            have e5 : ¬ q.ft.vec < 0 := by omega
            clear e2 e3 HS'
            go_wp2_with fail
            go_roundg (4 - (0 + 1))
            case measure => have := HK.out; omega
            case rel =>
              obtain ⟨z1, z2, z3, z4, z5, z6⟩ := HRl.out
              exact ⟨0 + 1, _, tn9, qb.m, rfl, rfl, by decide, Nat.le_refl _, z2, by have := HTn.out; omega, z4, HB3.out, z5, z1, nX, z6, fun f => (HE.out f).elim⟩
          · have HE : Hid (q.f = none → False) := e2
            have e4 : decide (q.ft.vec < 0) = false := decide_eq_false (by omega)
            have e5 : ¬ q.ft.vec < 0 := by omega
            have e6 : decide (qb.ft.vec < 0) = false := decide_eq_false (by omega)
            have e7 : ¬ qb.ft.vec < 0 := by omega
            clear e2 HS'
            go_wp2_with fail
            go_roundg (4 - (0 + 1))
            case measure => have := HK.out; omega
            case rel =>
              obtain ⟨z1, z2, z3, z4, z5, z6⟩ := HRl.out
              exact ⟨0 + 1, _, tn9, qb.m, rfl, rfl, by decide, Nat.le_refl _, z2, by have := HTn.out; omega, z4, HB3.out, z5, z1, nX, z6, fun f => (HE.out f).elim⟩
        · obtain rfl : i = 1 := hI
          have hs1 : IntKind.u32.wrap (off + 1) = o := by rw [IntKind.wrap_u32]; omega
          have hs2 : (off + 1) % 4294967296 = o := by omega
          clear ho hlt
          go_wp2_with fail
          refine cL.mono ?_; rintro e w8 ⟨rfl, ⟨tn8, ht8, v8⟩, k8⟩
          rw [hm] at k8
          have n8 : ¬ modVm K B 16 w8.heap.size := fun f => by have := v8.in_lt (j := w8.heap.size) (by rw [hm]; exact f); omega
          replace cR := cR.kp k8 nC
          replace rR := rR.kp k8 nX
          replace kR : Kp noB w w8 := kR.over k8 (fun j hj f => absurd hj (by have := HI.out j (.inr f); omega))
          have kA := Kp.alloc noB w8 (.cells #[.int .i64 qb.ft.vec, .int .i64 qb.ft.code, .int .u32 qb.ft.cr2] 25)
          have r8 : RowT (w8.alloc (.cells #[.int .i64 qb.ft.vec, .int .i64 qb.ft.code, .int .u32 qb.ft.cr2] 25)) w8.heap.size qb.ft := (MapKept.heap_alloc w8 _).1
          replace v8 := v8.kp0 kA
          replace cR := cR.kp0 kA
          replace rR := rR.kp kA (fun f => f)
          replace kR := kR.trans kA
          clear cL kA k8 vR
          have cD := HC.out _ tn8 v8 cR (by omega)
          go_wp2_with fail
          refine cD.mono ?_; rintro e w9 ⟨rfl, ⟨tn9, ht9, v9⟩, k9⟩
          rw [hm] at k9
          replace cR := cR.kp k9 nC
          replace rR := rR.kp k9 nX
          replace r8 := r8.kp k9 n8
          replace kR : Kp noB w w9 := kR.over k9 (fun j hj f => absurd hj (by have := HI.out j (.inr f); omega))
          have kA := Kp.alloc noB w9 (.cells #[.int .i64 qb.ft.vec, .int .i64 qb.ft.code, .int .u32 qb.ft.cr2] 25)
          have r9 : RowT (w9.alloc (.cells #[.int .i64 qb.ft.vec, .int .i64 qb.ft.code, .int .u32 qb.ft.cr2] 25)) w9.heap.size qb.ft := (MapKept.heap_alloc w9 _).1
          replace v9 := v9.kp0 kA
          replace cR := cR.kp0 kA
          replace rR := rR.kp kA (fun f => f)
          replace r8 := r8.kp kA (fun f => f)
          replace kR := kR.trans kA
          clear cD HC kA k9 v8 n8
          go_upto_region 17 with fail
          obtain ⟨W9, hW9⟩ : ∃ W, W = w9.alloc (.cells #[.int .i64 qb.ft.vec, .int .i64 qb.ft.code, .int .u32 qb.ft.cr2] 25) := ⟨_, rfl⟩
          obtain ⟨X8, hX8⟩ : ∃ X, X = w8.heap.size := ⟨_, rfl⟩
          obtain ⟨X9, hX9⟩ : ∃ X, X = w9.heap.size := ⟨_, rfl⟩
          rw [← hW9] at v9 cR rR r8 r9 kR
          rw [← hX8] at r8
          rw [← hX9] at r9
          rw [← hW9, ← hX8, ← hX9]
          clear hW9 hX8 hX9
          have f0 := rR.c0
          have g0 := r8.c0; have g1 := r8.c1; have g2 := r8.c2
          have h0 := r9.c0; have h1 := r9.c1; have h2 := r9.c2
          have HRl : Hid (RowT W9 X q.ft ∧ VmAt W9 V K B 8 tn9 qb.m ∧ tn9 ≤ tn + 4 ∧ qb.m.n = 16 ∧ CpAt W9 C (flatP s d 1 0) ∧ Kp noB w W9) := ⟨rR, v9, by omega, hm, cR, kR⟩
          clear r8 r9 rR v9 hm cR kR ht8 ht9
          have HTn : Hid (tn ≤ 2 + 4 * 1) := htn
          rcases HS'.out with ⟨e1, e2, e3, e4, e5, e6⟩ | ⟨e1, e2, e3⟩ | ⟨e1, e2, e3⟩
          · rw [e2] at g0 g1 g2 h0 h1 h2
            rw [e1] at f0
            have HE : Hid (qb.m = q.m ∧ y + v0 * 256 ^ 1 = parS q.m q.s (1 + 1) ∧ parS q.m q.s (1 + 1) < 4294967296) := ⟨e3, e4, e6⟩
            unfold noFt at f0 g0 g1 g2 h0 h1 h2
            simp only at f0 g0 g1 g2 h0 h1 h2
            clear e1 e2 e3 e4 e6 HS'
            go_wp2_with fail
            have hY : (y + v0 * 256) % 4294967296 = parS q.m q.s (1 + 1) := by
              have h1 : y + v0 * 256 ^ 1 = parS q.m q.s (1 + 1) := HE.out.2.1
              have h3 := HE.out.2.2
              have h4 : (y + v0 * 256) = y + v0 * 256 ^ 1 := by show _ = y + v0 * 256; omega
              rw [h4, h1]
              have h5 : 0 ≤ parS q.m q.s (1 + 1) := by rw [← h1]; show 0 ≤ y + v0 * 256; omega
              omega
            have HY : Hid _ := hY
            clear hY
            go_roundg (4 - (1 + 1))
            case measure => have := HK.out; omega
            case rel =>
              obtain ⟨z1, z2, z3, z4, z5, z6⟩ := HRl.out
              exact ⟨1 + 1, _, tn9, qb.m, rfl, rfl, by decide, Nat.le_refl _, z2, by have := HTn.out; omega, z4, HB3.out, z5, z1, nX, z6, fun _ => ⟨HE.out.1, HY.out⟩⟩
          · rw [e3] at g0 g1 g2 h0 h1 h2
            unfold noFt at g0 g1 g2 h0 h1 h2
            simp only at g0 g1 g2 h0 h1 h2
            have HE : Hid (q.f = none → False) := e2
            have e4 : decide (q.ft.vec < 0) = false := decide_eq_false (by omega)
            have e5 : ¬ q.ft.vec < 0 := by omega
            clear e2 e3 HS'
            go_wp2_with fail
            go_roundg (4 - (1 + 1))
            case measure => have := HK.out; omega
            case rel =>
              obtain ⟨z1, z2, z3, z4, z5, z6⟩ := HRl.out
              exact ⟨1 + 1, _, tn9, qb.m, rfl, rfl, by decide, Nat.le_refl _, z2, by have := HTn.out; omega, z4, HB3.out, z5, z1, nX, z6, fun f => (HE.out f).elim⟩
          · have HE : Hid (q.f = none → False) := e2
            have e4 : decide (q.ft.vec < 0) = false := decide_eq_false (by omega)
            have e5 : ¬ q.ft.vec < 0 := by omega
            have e6 : decide (qb.ft.vec < 0) = false := decide_eq_false (by omega)
            have e7 : ¬ qb.ft.vec < 0 := by omega
            clear e2 HS'
            go_wp2_with fail
            go_roundg (4 - (1 + 1))
            case measure => have := HK.out; omega
            case rel =>
              obtain ⟨z1, z2, z3, z4, z5, z6⟩ := HRl.out
              exact ⟨1 + 1, _, tn9, qb.m, rfl, rfl, by decide, Nat.le_refl _, z2, by have := HTn.out; omega, z4, HB3.out, z5, z1, nX, z6, fun f => (HE.out f).elim⟩
        · obtain rfl : i = 2 := hI
          have hs1 : IntKind.u32.wrap (off + 2) = o := by rw [IntKind.wrap_u32]; omega
          have hs2 : (off + 2) % 4294967296 = o := by omega
          clear ho hlt
          go_wp2_with fail
          refine cL.mono ?_; rintro e w8 ⟨rfl, ⟨tn8, ht8, v8⟩, k8⟩
          rw [hm] at k8
          have n8 : ¬ modVm K B 16 w8.heap.size := fun f => by have := v8.in_lt (j := w8.heap.size) (by rw [hm]; exact f); omega
          replace cR := cR.kp k8 nC
          replace rR := rR.kp k8 nX
          replace kR : Kp noB w w8 := kR.over k8 (fun j hj f => absurd hj (by have := HI.out j (.inr f); omega))
          have kA := Kp.alloc noB w8 (.cells #[.int .i64 qb.ft.vec, .int .i64 qb.ft.code, .int .u32 qb.ft.cr2] 25)
          have r8 : RowT (w8.alloc (.cells #[.int .i64 qb.ft.vec, .int .i64 qb.ft.code, .int .u32 qb.ft.cr2] 25)) w8.heap.size qb.ft := (MapKept.heap_alloc w8 _).1
          replace v8 := v8.kp0 kA
          replace cR := cR.kp0 kA
          replace rR := rR.kp kA (fun f => f)
          replace kR := kR.trans kA
          clear cL kA k8 vR
          have cD := HC.out _ tn8 v8 cR (by omega)
          go_wp2_with fail
          refine cD.mono ?_; rintro e w9 ⟨rfl, ⟨tn9, ht9, v9⟩, k9⟩
          rw [hm] at k9
          replace cR := cR.kp k9 nC
          replace rR := rR.kp k9 nX
          replace r8 := r8.kp k9 n8
          replace kR : Kp noB w w9 := kR.over k9 (fun j hj f => absurd hj (by have := HI.out j (.inr f); omega))
          have kA := Kp.alloc noB w9 (.cells #[.int .i64 qb.ft.vec, .int .i64 qb.ft.code, .int .u32 qb.ft.cr2] 25)
          have r9 : RowT (w9.alloc (.cells #[.int .i64 qb.ft.vec, .int .i64 qb.ft.code, .int .u32 qb.ft.cr2] 25)) w9.heap.size qb.ft := (MapKept.heap_alloc w9 _).1
          replace v9 := v9.kp0 kA
          replace cR := cR.kp0 kA
          replace rR := rR.kp kA (fun f => f)
          replace r8 := r8.kp kA (fun f => f)
          replace kR := kR.trans kA
          clear cD HC kA k9 v8 n8
          go_upto_region 17 with fail
          obtain ⟨W9, hW9⟩ : ∃ W, W = w9.alloc (.cells #[.int .i64 qb.ft.vec, .int .i64 qb.ft.code, .int .u32 qb.ft.cr2] 25) := ⟨_, rfl⟩
          obtain ⟨X8, hX8⟩ : ∃ X, X = w8.heap.size := ⟨_, rfl⟩
          obtain ⟨X9, hX9⟩ : ∃ X, X = w9.heap.size := ⟨_, rfl⟩
          rw [← hW9] at v9 cR rR r8 r9 kR
          rw [← hX8] at r8
          rw [← hX9] at r9
          rw [← hW9, ← hX8, ← hX9]
          clear hW9 hX8 hX9
          have f0 := rR.c0
          have g0 := r8.c0; have g1 := r8.c1; have g2 := r8.c2
          have h0 := r9.c0; have h1 := r9.c1; have h2 := r9.c2
          have HRl : Hid (RowT W9 X q.ft ∧ VmAt W9 V K B 8 tn9 qb.m ∧ tn9 ≤ tn + 4 ∧ qb.m.n = 16 ∧ CpAt W9 C (flatP s d 1 0) ∧ Kp noB w W9) := ⟨rR, v9, by omega, hm, cR, kR⟩
          clear r8 r9 rR v9 hm cR kR ht8 ht9
          have HTn : Hid (tn ≤ 2 + 4 * 2) := htn
          rcases HS'.out with ⟨e1, e2, e3, e4, e5, e6⟩ | ⟨e1, e2, e3⟩ | ⟨e1, e2, e3⟩
          · rw [e2] at g0 g1 g2 h0 h1 h2
            rw [e1] at f0
            have HE : Hid (qb.m = q.m ∧ y + v0 * 256 ^ 2 = parS q.m q.s (2 + 1) ∧ parS q.m q.s (2 + 1) < 4294967296) := ⟨e3, e4, e6⟩
            unfold noFt at f0 g0 g1 g2 h0 h1 h2
            simp only at f0 g0 g1 g2 h0 h1 h2
            clear e1 e2 e3 e4 e6 HS'
            go_wp2_with fail
            have hY : (y + v0 * 65536) % 4294967296 = parS q.m q.s (2 + 1) := by
              have h1 : y + v0 * 256 ^ 2 = parS q.m q.s (2 + 1) := HE.out.2.1
              have h3 := HE.out.2.2
              have h4 : (y + v0 * 65536) = y + v0 * 256 ^ 2 := by show _ = y + v0 * 65536; omega
              rw [h4, h1]
              have h5 : 0 ≤ parS q.m q.s (2 + 1) := by rw [← h1]; show 0 ≤ y + v0 * 65536; omega
              omega
            have HY : Hid _ := hY
            clear hY
            go_roundg (4 - (2 + 1))
            case measure => have := HK.out; omega
            case rel =>
              obtain ⟨z1, z2, z3, z4, z5, z6⟩ := HRl.out
              exact ⟨2 + 1, _, tn9, qb.m, rfl, rfl, by decide, Nat.le_refl _, z2, by have := HTn.out; omega, z4, HB3.out, z5, z1, nX, z6, fun _ => ⟨HE.out.1, HY.out⟩⟩
          · rw [e3] at g0 g1 g2 h0 h1 h2
            unfold noFt at g0 g1 g2 h0 h1 h2
            simp only at g0 g1 g2 h0 h1 h2
            have HE : Hid (q.f = none → False) := e2
            have e4 : decide (q.ft.vec < 0) = false := decide_eq_false (by omega)
            have e5 : ¬ q.ft.vec < 0 := by omega
            clear e2 e3 HS'
            go_wp2_with fail
            go_roundg (4 - (2 + 1))
            case measure => have := HK.out; omega
            case rel =>
              obtain ⟨z1, z2, z3, z4, z5, z6⟩ := HRl.out
              exact ⟨2 + 1, _, tn9, qb.m, rfl, rfl, by decide, Nat.le_refl _, z2, by have := HTn.out; omega, z4, HB3.out, z5, z1, nX, z6, fun f => (HE.out f).elim⟩
          · have HE : Hid (q.f = none → False) := e2
            have e4 : decide (q.ft.vec < 0) = false := decide_eq_false (by omega)
            have e5 : ¬ q.ft.vec < 0 := by omega
            have e6 : decide (qb.ft.vec < 0) = false := decide_eq_false (by omega)
            have e7 : ¬ qb.ft.vec < 0 := by omega
            clear e2 HS'
            go_wp2_with fail
            go_roundg (4 - (2 + 1))
            case measure => have := HK.out; omega
            case rel =>
              obtain ⟨z1, z2, z3, z4, z5, z6⟩ := HRl.out
              exact ⟨2 + 1, _, tn9, qb.m, rfl, rfl, by decide, Nat.le_refl _, z2, by have := HTn.out; omega, z4, HB3.out, z5, z1, nX, z6, fun f => (HE.out f).elim⟩
        · obtain rfl : i = 3 := hI
          have hs1 : IntKind.u32.wrap (off + 3) = o := by rw [IntKind.wrap_u32]; omega
          have hs2 : (off + 3) % 4294967296 = o := by omega
          clear ho hlt
          go_wp2_with fail
          refine cL.mono ?_; rintro e w8 ⟨rfl, ⟨tn8, ht8, v8⟩, k8⟩
          rw [hm] at k8
          have n8 : ¬ modVm K B 16 w8.heap.size := fun f => by have := v8.in_lt (j := w8.heap.size) (by rw [hm]; exact f); omega
          replace cR := cR.kp k8 nC
          replace rR := rR.kp k8 nX
          replace kR : Kp noB w w8 := kR.over k8 (fun j hj f => absurd hj (by have := HI.out j (.inr f); omega))
          have kA := Kp.alloc noB w8 (.cells #[.int .i64 qb.ft.vec, .int .i64 qb.ft.code, .int .u32 qb.ft.cr2] 25)
          have r8 : RowT (w8.alloc (.cells #[.int .i64 qb.ft.vec, .int .i64 qb.ft.code, .int .u32 qb.ft.cr2] 25)) w8.heap.size qb.ft := (MapKept.heap_alloc w8 _).1
          replace v8 := v8.kp0 kA
          replace cR := cR.kp0 kA
          replace rR := rR.kp kA (fun f => f)
          replace kR := kR.trans kA
          clear cL kA k8 vR
          have cD := HC.out _ tn8 v8 cR (by omega)
          go_wp2_with fail
          refine cD.mono ?_; rintro e w9 ⟨rfl, ⟨tn9, ht9, v9⟩, k9⟩
          rw [hm] at k9
          replace cR := cR.kp k9 nC
          replace rR := rR.kp k9 nX
          replace r8 := r8.kp k9 n8
          replace kR : Kp noB w w9 := kR.over k9 (fun j hj f => absurd hj (by have := HI.out j (.inr f); omega))
          have kA := Kp.alloc noB w9 (.cells #[.int .i64 qb.ft.vec, .int .i64 qb.ft.code, .int .u32 qb.ft.cr2] 25)
          have r9 : RowT (w9.alloc (.cells #[.int .i64 qb.ft.vec, .int .i64 qb.ft.code, .int .u32 qb.ft.cr2] 25)) w9.heap.size qb.ft := (MapKept.heap_alloc w9 _).1
          replace v9 := v9.kp0 kA
          replace cR := cR.kp0 kA
          replace rR := rR.kp kA (fun f => f)
          replace r8 := r8.kp kA (fun f => f)
          replace kR := kR.trans kA
          clear cD HC kA k9 v8 n8
          go_upto_region 17 with fail
          obtain ⟨W9, hW9⟩ : ∃ W, W = w9.alloc (.cells #[.int .i64 qb.ft.vec, .int .i64 qb.ft.code, .int .u32 qb.ft.cr2] 25) := ⟨_, rfl⟩
          obtain ⟨X8, hX8⟩ : ∃ X, X = w8.heap.size := ⟨_, rfl⟩
          obtain ⟨X9, hX9⟩ : ∃ X, X = w9.heap.size := ⟨_, rfl⟩
          rw [← hW9] at v9 cR rR r8 r9 kR
          rw [← hX8] at r8
          rw [← hX9] at r9
          rw [← hW9, ← hX8, ← hX9]
          clear hW9 hX8 hX9
          have f0 := rR.c0
          have g0 := r8.c0; have g1 := r8.c1; have g2 := r8.c2
          have h0 := r9.c0; have h1 := r9.c1; have h2 := r9.c2
          have HRl : Hid (RowT W9 X q.ft ∧ VmAt W9 V K B 8 tn9 qb.m ∧ tn9 ≤ tn + 4 ∧ qb.m.n = 16 ∧ CpAt W9 C (flatP s d 1 0) ∧ Kp noB w W9) := ⟨rR, v9, by omega, hm, cR, kR⟩
          clear r8 r9 rR v9 hm cR kR ht8 ht9
          have HTn : Hid (tn ≤ 2 + 4 * 3) := htn
          rcases HS'.out with ⟨e1, e2, e3, e4, e5, e6⟩ | ⟨e1, e2, e3⟩ | ⟨e1, e2, e3⟩
          · rw [e2] at g0 g1 g2 h0 h1 h2
            rw [e1] at f0
            have HE : Hid (qb.m = q.m ∧ y + v0 * 256 ^ 3 = parS q.m q.s (3 + 1) ∧ parS q.m q.s (3 + 1) < 4294967296) := ⟨e3, e4, e6⟩
            unfold noFt at f0 g0 g1 g2 h0 h1 h2
            simp only at f0 g0 g1 g2 h0 h1 h2
            clear e1 e2 e3 e4 e6 HS'
            go_wp2_with fail
            have hY : (y + v0 * 16777216) % 4294967296 = parS q.m q.s (3 + 1) := by
              have h1 : y + v0 * 256 ^ 3 = parS q.m q.s (3 + 1) := HE.out.2.1
              have h3 := HE.out.2.2
              have h4 : (y + v0 * 16777216) = y + v0 * 256 ^ 3 := by show _ = y + v0 * 16777216; omega
              rw [h4, h1]
              have h5 : 0 ≤ parS q.m q.s (3 + 1) := by rw [← h1]; show 0 ≤ y + v0 * 16777216; omega
              omega
            have HY : Hid _ := hY
            clear hY
            go_roundg (4 - (3 + 1))
            case measure => have := HK.out; omega
            case rel =>
              obtain ⟨z1, z2, z3, z4, z5, z6⟩ := HRl.out
              exact ⟨3 + 1, _, tn9, qb.m, rfl, rfl, by decide, Nat.le_refl _, z2, by have := HTn.out; omega, z4, HB3.out, z5, z1, nX, z6, fun _ => ⟨HE.out.1, HY.out⟩⟩
          · rw [e3] at g0 g1 g2 h0 h1 h2
            unfold noFt at g0 g1 g2 h0 h1 h2
            simp only at g0 g1 g2 h0 h1 h2
            have HE : Hid (q.f = none → False) := e2
            have e4 : decide (q.ft.vec < 0) = false := decide_eq_false (by omega)
            have e5 : ¬ q.ft.vec < 0 := by omega
            clear e2 e3 HS'
            go_wp2_with fail
            go_roundg (4 - (3 + 1))
            case measure => have := HK.out; omega
            case rel =>
              obtain ⟨z1, z2, z3, z4, z5, z6⟩ := HRl.out
              exact ⟨3 + 1, _, tn9, qb.m, rfl, rfl, by decide, Nat.le_refl _, z2, by have := HTn.out; omega, z4, HB3.out, z5, z1, nX, z6, fun f => (HE.out f).elim⟩
          · have HE : Hid (q.f = none → False) := e2
            have e4 : decide (q.ft.vec < 0) = false := decide_eq_false (by omega)
            have e5 : ¬ q.ft.vec < 0 := by omega
            have e6 : decide (qb.ft.vec < 0) = false := decide_eq_false (by omega)
            have e7 : ¬ qb.ft.vec < 0 := by omega
            clear e2 HS'
            go_wp2_with fail
            go_roundg (4 - (3 + 1))
            case measure => have := HK.out; omega
            case rel =>
              obtain ⟨z1, z2, z3, z4, z5, z6⟩ := HRl.out
              exact ⟨3 + 1, _, tn9, qb.m, rfl, rfl, by decide, Nat.le_refl _, z2, by have := HTn.out; omega, z4, HB3.out, z5, z1, nX, z6, fun f => (HE.out f).elim⟩
      · obtain rfl : i = 4 := by omega
        have f0 := rR.c0
        rcases ft_sign q (fun f h => by rw [HQ.out] at h; exact segQ_vec h) with ⟨hf, e⟩ | e
        · have hy := (HP.out hf).2
          rw [parS_all] at hy
          have hv : q.val = q.m.rdS q.s := by unfold Qy.val; rw [hf]
          rw [← hv] at hy
          subst hy
          rw [e] at f0
          unfold noFt at f0
          simp only at f0
          clear e hf hv HP
          go_wp2
          go_ret
          exact ⟨rfl, kR.every⟩
        · have e' : decide (0 ≤ q.ft.vec) = true := decide_eq_true e
          go_wp2
          go_ret
          exact ⟨rfl, kR.every⟩
  · skip
    have pA := HV.out.at wf w2
    have c64 := pA.cell hcp.z; have c66 := pA.cell hcp.t
    have f64 := pA.fz 64; have f66 := pA.fz 66
    have pB := HV.out.at (wf.set 64 (v := .int .u32 2147483649) rfl) w2
    have d66 := pB.cell (flat_c64 (a' := 2147483649) wf hcp).t
    have e66 := pB.fz 66
    have cC := (HV.out.at ((wf.set 64 (v := .int .u32 2147483649) rfl).set 66 (v := .int .u32 4096) rfl) w2).cp (flat_cr wf hcp) (flatP_ok s d 2147483649 4096 (by decide) (by decide) (by decide) (by decide))
    have k4 := k2.trans (Kp.alloc noB w2 (.cells ((cs.setIfInBounds 64 (.int .u32 2147483649)).setIfInBounds 66 (.int .u32 4096)) T))
    go_wp2_with fail
    obtain ⟨C, hC⟩ : ∃ C, C = w2.heap.size := ⟨_, rfl⟩
    obtain ⟨W4, hW4⟩ : ∃ W, W = w2.alloc (.cells ((cs.setIfInBounds 64 (.int .u32 2147483649)).setIfInBounds 66 (.int .u32 4096)) T) := ⟨_, rfl⟩
    rw [← hC] at cC HOw
    rw [← hW4] at cC k4
    rw [← hW4, ← hC]
    clear hW4 hC k2 hst hsz hcp wf pA c64 c66 f64 f66 pB d66 e66
    have HCl : Hid (C < W4.heap.size) := cC.lt
    refine Calls.mono (HB.out W4 k4) ?_; rintro e w5 ⟨B, R, rfl, hb1, ho1, k5⟩
    have ra := hb1.ram
    replace cC := cC.kp0 k5
    have s4 := k5.size
    replace k5 := k4.trans k5
    clear hb1 k4
    have cN := vNew_ok w5 B 8 (by omega) M ra HN.out.2
    go_wp2_with fail
    refine cN.mono ?_; rintro e w6 ⟨V, rfl, hV, v6, k6⟩
    have i1 := inR_of ho1 ra HN.out.1 hV v6 rfl
    have HOC : Hid (w.heap.size ≤ C ∧ C < W4.heap.size ∧ W4.heap.size ≤ w5.heap.size) := ⟨HOw.out, HCl.out, s4⟩
    replace cC := cC.kp0 k6
    replace k6 := k5.trans k6
    clear cN k5 s4
    obtain ⟨K, hK⟩ : ∃ K, K = w5.heap.size := ⟨_, rfl⟩
    rw [← hK] at v6 i1 HOC
    clear hK
    have HI : Hid (∀ j, inVm V K B 16 j → j ≠ C ∧ w.heap.size ≤ j) := fun j hj => by
      rcases i1 j hj with f | f <;> (have := HCl.out; have := HOC.out; omega)
    have HG : Hid (Gd M) := ⟨ra.rdB, HN.out.2⟩
    clear i1 ho1 hV ra
    have nC : ¬ modVm K B 16 C := fun f => ((HI.out _ (.inr f)).1 rfl)
    have cS := load_any w6 V K B 8 0 C M v6 (flatP s d 2147483649 4096) cC (by rw [HN.out.1]; exact nC) 3 off 4 o0 o1 (by decide)
    have hn : (segQ M (flatP s d 2147483649 4096) 3 off 4 false).m.n = 16 := by rw [segQ_n]; exact HN.out.1
    obtain ⟨q, hq⟩ : ∃ q, q = segQ M (flatP s d 2147483649 4096) 3 off 4 false := ⟨_, rfl⟩
    have HQ : Hid (q = segQ M (flatP s d 2147483649 4096) 3 off 4 false) := hq
    rw [← hq] at cS hn
    clear hq
    rw [Ft.val_is] at cS
    go_wp2_with fail
    refine cS.mono ?_; rintro e w7 ⟨rfl, ⟨tn7, ht7, v7⟩, k7⟩
    rw [hn] at k7
    have n7 : ¬ modVm K B 16 w7.heap.size := fun f => by have := v7.in_lt (j := w7.heap.size) (by rw [hn]; exact f); omega
    replace cC := cC.kp k7 nC
    replace k7 : Kp noB w w7 := k6.over k7 (fun j hj f => absurd hj (by have := HI.out j (.inr f); omega))
    have kA := Kp.alloc noB w7 (.cells #[.int .i64 q.ft.vec, .int .i64 q.ft.code, .int .u32 q.ft.cr2] 25)
    have r7 : RowT (w7.alloc (.cells #[.int .i64 q.ft.vec, .int .i64 q.ft.code, .int .u32 q.ft.cr2] 25)) w7.heap.size q.ft := (MapKept.heap_alloc w7 _).1
    replace v7 := v7.kp0 kA
    replace cC := cC.kp0 kA
    replace k7 := k7.trans kA
    clear cS kA k6 v6
    have hb0 : (0 : Int) ≤ 4096 := by decide
    have hb1 : (4096 : Int) < 4294967296 := by decide
    obtain ⟨X, hX⟩ : ∃ X, X = w7.heap.size := ⟨_, rfl⟩
    rw [← hX] at r7 n7
    have HGq : Hid (Gd q.m) := ⟨v7.ram.rdB, v7.cl⟩
    have HS0 : Hid (PtL w V K B C X (flatP s d 2147483649 4096) q 4 (.int .u32 0) (.int .i64 0) (w7.alloc (.cells #[.int .i64 q.ft.vec, .int .i64 q.ft.code, .int .u32 q.ft.cr2] 25))) := ⟨0, 0, tn7, q.m, rfl, rfl, by decide, by decide, v7, by omega, hn, HGq.out, cC, r7, n7, k7, fun _ => ⟨rfl, rfl⟩⟩
    clear v7 cC r7 n7 k7 ht7 hn
    go_wp2_with fail
    rw [← hX]
    clear hX
    go_loopg [17, 18] 4 (PtL w V K B C X (flatP s d 2147483649 4096) q)
    case atStart => exact HS0.out
    case round =>
      clear HS0
      obtain ⟨i, y, tn, Mi, hr⟩ := hrel
      obtain ⟨ei, ey, hi4, hik, vR, htn, hn, hg, cR, rR, nX, kR, hp⟩ := hr
      subst ei; subst ey
      have HK : Hid (4 - i ≤ gk) := hik
      have HP : Hid (q.f = none → Mi = q.m ∧ y = parS q.m q.s i) := hp
      clear hik hp
      by_cases hlt : i < 4
      · obtain ⟨o, ho⟩ : ∃ o, o = (off + i) % 4294967296 := ⟨_, rfl⟩
        have ob0 : 0 ≤ o := by omega
        have ob1 : o < 4294967296 := by omega
        have BQ := byte_q hg s d 2147483649 4096 hb0 hb1 ob0 ob1
        have cL := load_any wr V K B 8 tn C Mi vR (flatP s d 2147483649 4096) cR (by rw [hn]; exact nC) 3 o 1 ob0 ob1 (by omega)
        have hm : (segQ Mi (flatP s d 2147483649 4096) 3 o 1 false).m.n = 16 := by rw [segQ_n]; exact hn
        obtain ⟨qb, hqb⟩ : ∃ q, q = segQ Mi (flatP s d 2147483649 4096) 3 o 1 false := ⟨_, rfl⟩
        rw [← hqb] at cL hm BQ
        obtain ⟨bq1, bq2, bq3, bq4⟩ := BQ
        have HS := part_step HG.out hb0 hb1 o0 o1 HQ.out hlt HP.out (qb := qb) (by rw [hqb, ho]) bq4 HGq.out
        have HS' : Hid _ := HS
        have HB3 : Hid (Gd qb.m) := bq3
        clear hqb bq3 bq4 HS hg
        rw [Ft.val_is] at cL
        have HC : Hid (∀ W tn', VmAt W V K B 8 tn' qb.m → CpAt W C (flatP s d 2147483649 4096) → tn' < 18446744073709551613 → Calls Try.prog 20 #[.pointer (some ⟨V, 0, none⟩), .pointer (some ⟨C, 0, none⟩), .int .u32 o] W fun e w' => e = .returned (.tuple #[.int .u8 qb.val, .int .u32 qb.place, .agg #[.int .i64 qb.ft.vec, .int .i64 qb.ft.code, .int .u32 qb.ft.cr2]]) ∧ VmP W V K B 8 tn' qb.m 2 w') := fun W t vW cW hW => by
          have := cde_any W V K B 8 t C qb.m vW (flatP s d 2147483649 4096) cW (by rw [hm]; exact nC) o ob0 ob1 hW
          rw [bq1, Ft.val_is] at this
          exact this
        clear bq1
        obtain ⟨v0, hv0⟩ : ∃ v, v = qb.val := ⟨_, rfl⟩
        rw [← hv0] at cL HC bq2 HS'
        have HV0 : Hid (v0 = qb.val) := hv0
        clear hv0
        obtain ⟨v1, v2⟩ := bq2
        have v3 : v0 % 4294967296 = v0 := by omega
        have v4 : IntKind.u32.wrap v0 = v0 := by rw [IntKind.wrap_u32]; omega
        rcases (by omega : i = 0 ∨ i = 1 ∨ i = 2 ∨ i = 3) with hI | hI | hI | hI
        · obtain rfl : i = 0 := hI
          obtain rfl : o = off := by omega
          clear ho hlt
          go_wp2_with fail
          refine cL.mono ?_; rintro e w8 ⟨rfl, ⟨tn8, ht8, v8⟩, k8⟩
          rw [hm] at k8
          have n8 : ¬ modVm K B 16 w8.heap.size := fun f => by have := v8.in_lt (j := w8.heap.size) (by rw [hm]; exact f); omega
          replace cR := cR.kp k8 nC
          replace rR := rR.kp k8 nX
          replace kR : Kp noB w w8 := kR.over k8 (fun j hj f => absurd hj (by have := HI.out j (.inr f); omega))
          have kA := Kp.alloc noB w8 (.cells #[.int .i64 qb.ft.vec, .int .i64 qb.ft.code, .int .u32 qb.ft.cr2] 25)
          have r8 : RowT (w8.alloc (.cells #[.int .i64 qb.ft.vec, .int .i64 qb.ft.code, .int .u32 qb.ft.cr2] 25)) w8.heap.size qb.ft := (MapKept.heap_alloc w8 _).1
          replace v8 := v8.kp0 kA
          replace cR := cR.kp0 kA
          replace rR := rR.kp kA (fun f => f)
          replace kR := kR.trans kA
          clear cL kA k8 vR
          have cD := HC.out _ tn8 v8 cR (by omega)
          go_wp2_with fail
          refine cD.mono ?_; rintro e w9 ⟨rfl, ⟨tn9, ht9, v9⟩, k9⟩
          rw [hm] at k9
          replace cR := cR.kp k9 nC
          replace rR := rR.kp k9 nX
          replace r8 := r8.kp k9 n8
          replace kR : Kp noB w w9 := kR.over k9 (fun j hj f => absurd hj (by have := HI.out j (.inr f); omega))
          have kA := Kp.alloc noB w9 (.cells #[.int .i64 qb.ft.vec, .int .i64 qb.ft.code, .int .u32 qb.ft.cr2] 25)
          have r9 : RowT (w9.alloc (.cells #[.int .i64 qb.ft.vec, .int .i64 qb.ft.code, .int .u32 qb.ft.cr2] 25)) w9.heap.size qb.ft := (MapKept.heap_alloc w9 _).1
          replace v9 := v9.kp0 kA
          replace cR := cR.kp0 kA
          replace rR := rR.kp kA (fun f => f)
          replace r8 := r8.kp kA (fun f => f)
          replace kR := kR.trans kA
          clear cD HC kA k9 v8 n8
          go_upto_region 17 with fail
          obtain ⟨W9, hW9⟩ : ∃ W, W = w9.alloc (.cells #[.int .i64 qb.ft.vec, .int .i64 qb.ft.code, .int .u32 qb.ft.cr2] 25) := ⟨_, rfl⟩
          obtain ⟨X8, hX8⟩ : ∃ X, X = w8.heap.size := ⟨_, rfl⟩
          obtain ⟨X9, hX9⟩ : ∃ X, X = w9.heap.size := ⟨_, rfl⟩
          rw [← hW9] at v9 cR rR r8 r9 kR
          rw [← hX8] at r8
          rw [← hX9] at r9
          rw [← hW9, ← hX8, ← hX9]
          clear hW9 hX8 hX9
          have f0 := rR.c0
          have g0 := r8.c0; have g1 := r8.c1; have g2 := r8.c2
          have h0 := r9.c0; have h1 := r9.c1; have h2 := r9.c2
          have HRl : Hid (RowT W9 X q.ft ∧ VmAt W9 V K B 8 tn9 qb.m ∧ tn9 ≤ tn + 4 ∧ qb.m.n = 16 ∧ CpAt W9 C (flatP s d 2147483649 4096) ∧ Kp noB w W9) := ⟨rR, v9, by omega, hm, cR, kR⟩
          clear r8 r9 rR v9 hm cR kR ht8 ht9
          have HTn : Hid (tn ≤ 2 + 4 * 0) := htn
          rcases HS'.out with ⟨e1, e2, e3, e4, e5, e6⟩ | ⟨e1, e2, e3⟩ | ⟨e1, e2, e3⟩
          · rw [e2] at g0 g1 g2 h0 h1 h2
            rw [e1] at f0
            have HE : Hid (qb.m = q.m ∧ y + v0 * 256 ^ 0 = parS q.m q.s (0 + 1) ∧ parS q.m q.s (0 + 1) < 4294967296) := ⟨e3, e4, e6⟩
            unfold noFt at f0 g0 g1 g2 h0 h1 h2
            simp only at f0 g0 g1 g2 h0 h1 h2
            clear e1 e2 e3 e4 e6 HS'
            go_wp2_with fail
            have hY : (y + v0) % 4294967296 = parS q.m q.s (0 + 1) := by
              have h1 : y + v0 * 256 ^ 0 = parS q.m q.s (0 + 1) := HE.out.2.1
              have h3 := HE.out.2.2
              have h4 : (y + v0) = y + v0 * 256 ^ 0 := by show _ = y + v0 * 1; omega
              rw [h4, h1]
              have h5 : 0 ≤ parS q.m q.s (0 + 1) := by rw [← h1]; show 0 ≤ y + v0 * 1; omega
              omega
            have HY : Hid _ := hY
            clear hY
            go_roundg (4 - (0 + 1))
            case measure => have := HK.out; omega
            case rel =>
              obtain ⟨z1, z2, z3, z4, z5, z6⟩ := HRl.out
              exact ⟨0 + 1, _, tn9, qb.m, rfl, rfl, by decide, Nat.le_refl _, z2, by have := HTn.out; omega, z4, HB3.out, z5, z1, nX, z6, fun _ => ⟨HE.out.1, HY.out⟩⟩
          · rw [e3] at g0 g1 g2 h0 h1 h2
            unfold noFt at g0 g1 g2 h0 h1 h2
            simp only at g0 g1 g2 h0 h1 h2
            have HE : Hid (q.f = none → False) := e2
            have e4 : decide (q.ft.vec < 0) = false := decide_eq_false (by omega)
            have e5 : ¬ q.ft.vec < 0 := by omega
            clear e2 e3 HS'
            go_wp2_with fail
            go_roundg (4 - (0 + 1))
            case measure => have := HK.out; omega
            case rel =>
              obtain ⟨z1, z2, z3, z4, z5, z6⟩ := HRl.out
              exact ⟨0 + 1, _, tn9, qb.m, rfl, rfl, by decide, Nat.le_refl _, z2, by have := HTn.out; omega, z4, HB3.out, z5, z1, nX, z6, fun f => (HE.out f).elim⟩
          · have HE : Hid (q.f = none → False) := e2
            have e4 : decide (q.ft.vec < 0) = false := decide_eq_false (by omega)
            have e5 : ¬ q.ft.vec < 0 := by omega
            have e6 : decide (qb.ft.vec < 0) = false := decide_eq_false (by omega)
            have e7 : ¬ qb.ft.vec < 0 := by omega
            clear e2 HS'
            go_wp2_with fail
            go_roundg (4 - (0 + 1))
            case measure => have := HK.out; omega
            case rel =>
              obtain ⟨z1, z2, z3, z4, z5, z6⟩ := HRl.out
              exact ⟨0 + 1, _, tn9, qb.m, rfl, rfl, by decide, Nat.le_refl _, z2, by have := HTn.out; omega, z4, HB3.out, z5, z1, nX, z6, fun f => (HE.out f).elim⟩
        · obtain rfl : i = 1 := hI
          have hs1 : IntKind.u32.wrap (off + 1) = o := by rw [IntKind.wrap_u32]; omega
          have hs2 : (off + 1) % 4294967296 = o := by omega
          clear ho hlt
          go_wp2_with fail
          refine cL.mono ?_; rintro e w8 ⟨rfl, ⟨tn8, ht8, v8⟩, k8⟩
          rw [hm] at k8
          have n8 : ¬ modVm K B 16 w8.heap.size := fun f => by have := v8.in_lt (j := w8.heap.size) (by rw [hm]; exact f); omega
          replace cR := cR.kp k8 nC
          replace rR := rR.kp k8 nX
          replace kR : Kp noB w w8 := kR.over k8 (fun j hj f => absurd hj (by have := HI.out j (.inr f); omega))
          have kA := Kp.alloc noB w8 (.cells #[.int .i64 qb.ft.vec, .int .i64 qb.ft.code, .int .u32 qb.ft.cr2] 25)
          have r8 : RowT (w8.alloc (.cells #[.int .i64 qb.ft.vec, .int .i64 qb.ft.code, .int .u32 qb.ft.cr2] 25)) w8.heap.size qb.ft := (MapKept.heap_alloc w8 _).1
          replace v8 := v8.kp0 kA
          replace cR := cR.kp0 kA
          replace rR := rR.kp kA (fun f => f)
          replace kR := kR.trans kA
          clear cL kA k8 vR
          have cD := HC.out _ tn8 v8 cR (by omega)
          go_wp2_with fail
          refine cD.mono ?_; rintro e w9 ⟨rfl, ⟨tn9, ht9, v9⟩, k9⟩
          rw [hm] at k9
          replace cR := cR.kp k9 nC
          replace rR := rR.kp k9 nX
          replace r8 := r8.kp k9 n8
          replace kR : Kp noB w w9 := kR.over k9 (fun j hj f => absurd hj (by have := HI.out j (.inr f); omega))
          have kA := Kp.alloc noB w9 (.cells #[.int .i64 qb.ft.vec, .int .i64 qb.ft.code, .int .u32 qb.ft.cr2] 25)
          have r9 : RowT (w9.alloc (.cells #[.int .i64 qb.ft.vec, .int .i64 qb.ft.code, .int .u32 qb.ft.cr2] 25)) w9.heap.size qb.ft := (MapKept.heap_alloc w9 _).1
          replace v9 := v9.kp0 kA
          replace cR := cR.kp0 kA
          replace rR := rR.kp kA (fun f => f)
          replace r8 := r8.kp kA (fun f => f)
          replace kR := kR.trans kA
          clear cD HC kA k9 v8 n8
          go_upto_region 17 with fail
          obtain ⟨W9, hW9⟩ : ∃ W, W = w9.alloc (.cells #[.int .i64 qb.ft.vec, .int .i64 qb.ft.code, .int .u32 qb.ft.cr2] 25) := ⟨_, rfl⟩
          obtain ⟨X8, hX8⟩ : ∃ X, X = w8.heap.size := ⟨_, rfl⟩
          obtain ⟨X9, hX9⟩ : ∃ X, X = w9.heap.size := ⟨_, rfl⟩
          rw [← hW9] at v9 cR rR r8 r9 kR
          rw [← hX8] at r8
          rw [← hX9] at r9
          rw [← hW9, ← hX8, ← hX9]
          clear hW9 hX8 hX9
          have f0 := rR.c0
          have g0 := r8.c0; have g1 := r8.c1; have g2 := r8.c2
          have h0 := r9.c0; have h1 := r9.c1; have h2 := r9.c2
          have HRl : Hid (RowT W9 X q.ft ∧ VmAt W9 V K B 8 tn9 qb.m ∧ tn9 ≤ tn + 4 ∧ qb.m.n = 16 ∧ CpAt W9 C (flatP s d 2147483649 4096) ∧ Kp noB w W9) := ⟨rR, v9, by omega, hm, cR, kR⟩
          clear r8 r9 rR v9 hm cR kR ht8 ht9
          have HTn : Hid (tn ≤ 2 + 4 * 1) := htn
          rcases HS'.out with ⟨e1, e2, e3, e4, e5, e6⟩ | ⟨e1, e2, e3⟩ | ⟨e1, e2, e3⟩
          · rw [e2] at g0 g1 g2 h0 h1 h2
            rw [e1] at f0
            have HE : Hid (qb.m = q.m ∧ y + v0 * 256 ^ 1 = parS q.m q.s (1 + 1) ∧ parS q.m q.s (1 + 1) < 4294967296) := ⟨e3, e4, e6⟩
            unfold noFt at f0 g0 g1 g2 h0 h1 h2
            simp only at f0 g0 g1 g2 h0 h1 h2
            clear e1 e2 e3 e4 e6 HS'
            go_wp2_with fail
            have hY : (y + v0 * 256) % 4294967296 = parS q.m q.s (1 + 1) := by
              have h1 : y + v0 * 256 ^ 1 = parS q.m q.s (1 + 1) := HE.out.2.1
              have h3 := HE.out.2.2
              have h4 : (y + v0 * 256) = y + v0 * 256 ^ 1 := by show _ = y + v0 * 256; omega
              rw [h4, h1]
              have h5 : 0 ≤ parS q.m q.s (1 + 1) := by rw [← h1]; show 0 ≤ y + v0 * 256; omega
              omega
            have HY : Hid _ := hY
            clear hY
            go_roundg (4 - (1 + 1))
            case measure => have := HK.out; omega
            case rel =>
              obtain ⟨z1, z2, z3, z4, z5, z6⟩ := HRl.out
              exact ⟨1 + 1, _, tn9, qb.m, rfl, rfl, by decide, Nat.le_refl _, z2, by have := HTn.out; omega, z4, HB3.out, z5, z1, nX, z6, fun _ => ⟨HE.out.1, HY.out⟩⟩
          · rw [e3] at g0 g1 g2 h0 h1 h2
            unfold noFt at g0 g1 g2 h0 h1 h2
            simp only at g0 g1 g2 h0 h1 h2
            have HE : Hid (q.f = none → False) := e2
            have e4 : decide (q.ft.vec < 0) = false := decide_eq_false (by omega)
            have e5 : ¬ q.ft.vec < 0 := by omega
            clear e2 e3 HS'
            go_wp2_with fail
            go_roundg (4 - (1 + 1))
            case measure => have := HK.out; omega
            case rel =>
              obtain ⟨z1, z2, z3, z4, z5, z6⟩ := HRl.out
              exact ⟨1 + 1, _, tn9, qb.m, rfl, rfl, by decide, Nat.le_refl _, z2, by have := HTn.out; omega, z4, HB3.out, z5, z1, nX, z6, fun f => (HE.out f).elim⟩
          · have HE : Hid (q.f = none → False) := e2
            have e4 : decide (q.ft.vec < 0) = false := decide_eq_false (by omega)
            have e5 : ¬ q.ft.vec < 0 := by omega
            have e6 : decide (qb.ft.vec < 0) = false := decide_eq_false (by omega)
            have e7 : ¬ qb.ft.vec < 0 := by omega
            clear e2 HS'
            go_wp2_with fail
            go_roundg (4 - (1 + 1))
            case measure => have := HK.out; omega
            case rel =>
              obtain ⟨z1, z2, z3, z4, z5, z6⟩ := HRl.out
              exact ⟨1 + 1, _, tn9, qb.m, rfl, rfl, by decide, Nat.le_refl _, z2, by have := HTn.out; omega, z4, HB3.out, z5, z1, nX, z6, fun f => (HE.out f).elim⟩
        · obtain rfl : i = 2 := hI
          have hs1 : IntKind.u32.wrap (off + 2) = o := by rw [IntKind.wrap_u32]; omega
          have hs2 : (off + 2) % 4294967296 = o := by omega
          clear ho hlt
          go_wp2_with fail
          refine cL.mono ?_; rintro e w8 ⟨rfl, ⟨tn8, ht8, v8⟩, k8⟩
          rw [hm] at k8
          have n8 : ¬ modVm K B 16 w8.heap.size := fun f => by have := v8.in_lt (j := w8.heap.size) (by rw [hm]; exact f); omega
          replace cR := cR.kp k8 nC
          replace rR := rR.kp k8 nX
          replace kR : Kp noB w w8 := kR.over k8 (fun j hj f => absurd hj (by have := HI.out j (.inr f); omega))
          have kA := Kp.alloc noB w8 (.cells #[.int .i64 qb.ft.vec, .int .i64 qb.ft.code, .int .u32 qb.ft.cr2] 25)
          have r8 : RowT (w8.alloc (.cells #[.int .i64 qb.ft.vec, .int .i64 qb.ft.code, .int .u32 qb.ft.cr2] 25)) w8.heap.size qb.ft := (MapKept.heap_alloc w8 _).1
          replace v8 := v8.kp0 kA
          replace cR := cR.kp0 kA
          replace rR := rR.kp kA (fun f => f)
          replace kR := kR.trans kA
          clear cL kA k8 vR
          have cD := HC.out _ tn8 v8 cR (by omega)
          go_wp2_with fail
          refine cD.mono ?_; rintro e w9 ⟨rfl, ⟨tn9, ht9, v9⟩, k9⟩
          rw [hm] at k9
          replace cR := cR.kp k9 nC
          replace rR := rR.kp k9 nX
          replace r8 := r8.kp k9 n8
          replace kR : Kp noB w w9 := kR.over k9 (fun j hj f => absurd hj (by have := HI.out j (.inr f); omega))
          have kA := Kp.alloc noB w9 (.cells #[.int .i64 qb.ft.vec, .int .i64 qb.ft.code, .int .u32 qb.ft.cr2] 25)
          have r9 : RowT (w9.alloc (.cells #[.int .i64 qb.ft.vec, .int .i64 qb.ft.code, .int .u32 qb.ft.cr2] 25)) w9.heap.size qb.ft := (MapKept.heap_alloc w9 _).1
          replace v9 := v9.kp0 kA
          replace cR := cR.kp0 kA
          replace rR := rR.kp kA (fun f => f)
          replace r8 := r8.kp kA (fun f => f)
          replace kR := kR.trans kA
          clear cD HC kA k9 v8 n8
          go_upto_region 17 with fail
          obtain ⟨W9, hW9⟩ : ∃ W, W = w9.alloc (.cells #[.int .i64 qb.ft.vec, .int .i64 qb.ft.code, .int .u32 qb.ft.cr2] 25) := ⟨_, rfl⟩
          obtain ⟨X8, hX8⟩ : ∃ X, X = w8.heap.size := ⟨_, rfl⟩
          obtain ⟨X9, hX9⟩ : ∃ X, X = w9.heap.size := ⟨_, rfl⟩
          rw [← hW9] at v9 cR rR r8 r9 kR
          rw [← hX8] at r8
          rw [← hX9] at r9
          rw [← hW9, ← hX8, ← hX9]
          clear hW9 hX8 hX9
          have f0 := rR.c0
          have g0 := r8.c0; have g1 := r8.c1; have g2 := r8.c2
          have h0 := r9.c0; have h1 := r9.c1; have h2 := r9.c2
          have HRl : Hid (RowT W9 X q.ft ∧ VmAt W9 V K B 8 tn9 qb.m ∧ tn9 ≤ tn + 4 ∧ qb.m.n = 16 ∧ CpAt W9 C (flatP s d 2147483649 4096) ∧ Kp noB w W9) := ⟨rR, v9, by omega, hm, cR, kR⟩
          clear r8 r9 rR v9 hm cR kR ht8 ht9
          have HTn : Hid (tn ≤ 2 + 4 * 2) := htn
          rcases HS'.out with ⟨e1, e2, e3, e4, e5, e6⟩ | ⟨e1, e2, e3⟩ | ⟨e1, e2, e3⟩
          · rw [e2] at g0 g1 g2 h0 h1 h2
            rw [e1] at f0
            have HE : Hid (qb.m = q.m ∧ y + v0 * 256 ^ 2 = parS q.m q.s (2 + 1) ∧ parS q.m q.s (2 + 1) < 4294967296) := ⟨e3, e4, e6⟩
            unfold noFt at f0 g0 g1 g2 h0 h1 h2
            simp only at f0 g0 g1 g2 h0 h1 h2
            clear e1 e2 e3 e4 e6 HS'
            go_wp2_with fail
            have hY : (y + v0 * 65536) % 4294967296 = parS q.m q.s (2 + 1) := by
              have h1 : y + v0 * 256 ^ 2 = parS q.m q.s (2 + 1) := HE.out.2.1
              have h3 := HE.out.2.2
              have h4 : (y + v0 * 65536) = y + v0 * 256 ^ 2 := by show _ = y + v0 * 65536; omega
              rw [h4, h1]
              have h5 : 0 ≤ parS q.m q.s (2 + 1) := by rw [← h1]; show 0 ≤ y + v0 * 65536; omega
              omega
            have HY : Hid _ := hY
            clear hY
            go_roundg (4 - (2 + 1))
            case measure => have := HK.out; omega
            case rel =>
              obtain ⟨z1, z2, z3, z4, z5, z6⟩ := HRl.out
              exact ⟨2 + 1, _, tn9, qb.m, rfl, rfl, by decide, Nat.le_refl _, z2, by have := HTn.out; omega, z4, HB3.out, z5, z1, nX, z6, fun _ => ⟨HE.out.1, HY.out⟩⟩
          · rw [e3] at g0 g1 g2 h0 h1 h2
            unfold noFt at g0 g1 g2 h0 h1 h2
            simp only at g0 g1 g2 h0 h1 h2
            have HE : Hid (q.f = none → False) := e2
            have e4 : decide (q.ft.vec < 0) = false := decide_eq_false (by omega)
            have e5 : ¬ q.ft.vec < 0 := by omega
            clear e2 e3 HS'
            go_wp2_with fail
            go_roundg (4 - (2 + 1))
            case measure => have := HK.out; omega
            case rel =>
              obtain ⟨z1, z2, z3, z4, z5, z6⟩ := HRl.out
              exact ⟨2 + 1, _, tn9, qb.m, rfl, rfl, by decide, Nat.le_refl _, z2, by have := HTn.out; omega, z4, HB3.out, z5, z1, nX, z6, fun f => (HE.out f).elim⟩
          · have HE : Hid (q.f = none → False) := e2
            have e4 : decide (q.ft.vec < 0) = false := decide_eq_false (by omega)
            have e5 : ¬ q.ft.vec < 0 := by omega
            have e6 : decide (qb.ft.vec < 0) = false := decide_eq_false (by omega)
            have e7 : ¬ qb.ft.vec < 0 := by omega
            clear e2 HS'
            go_wp2_with fail
            go_roundg (4 - (2 + 1))
            case measure => have := HK.out; omega
            case rel =>
              obtain ⟨z1, z2, z3, z4, z5, z6⟩ := HRl.out
              exact ⟨2 + 1, _, tn9, qb.m, rfl, rfl, by decide, Nat.le_refl _, z2, by have := HTn.out; omega, z4, HB3.out, z5, z1, nX, z6, fun f => (HE.out f).elim⟩
        · obtain rfl : i = 3 := hI
          have hs1 : IntKind.u32.wrap (off + 3) = o := by rw [IntKind.wrap_u32]; omega
          have hs2 : (off + 3) % 4294967296 = o := by omega
          clear ho hlt
          go_wp2_with fail
          refine cL.mono ?_; rintro e w8 ⟨rfl, ⟨tn8, ht8, v8⟩, k8⟩
          rw [hm] at k8
          have n8 : ¬ modVm K B 16 w8.heap.size := fun f => by have := v8.in_lt (j := w8.heap.size) (by rw [hm]; exact f); omega
          replace cR := cR.kp k8 nC
          replace rR := rR.kp k8 nX
          replace kR : Kp noB w w8 := kR.over k8 (fun j hj f => absurd hj (by have := HI.out j (.inr f); omega))
          have kA := Kp.alloc noB w8 (.cells #[.int .i64 qb.ft.vec, .int .i64 qb.ft.code, .int .u32 qb.ft.cr2] 25)
          have r8 : RowT (w8.alloc (.cells #[.int .i64 qb.ft.vec, .int .i64 qb.ft.code, .int .u32 qb.ft.cr2] 25)) w8.heap.size qb.ft := (MapKept.heap_alloc w8 _).1
          replace v8 := v8.kp0 kA
          replace cR := cR.kp0 kA
          replace rR := rR.kp kA (fun f => f)
          replace kR := kR.trans kA
          clear cL kA k8 vR
          have cD := HC.out _ tn8 v8 cR (by omega)
          go_wp2_with fail
          refine cD.mono ?_; rintro e w9 ⟨rfl, ⟨tn9, ht9, v9⟩, k9⟩
          rw [hm] at k9
          replace cR := cR.kp k9 nC
          replace rR := rR.kp k9 nX
          replace r8 := r8.kp k9 n8
          replace kR : Kp noB w w9 := kR.over k9 (fun j hj f => absurd hj (by have := HI.out j (.inr f); omega))
          have kA := Kp.alloc noB w9 (.cells #[.int .i64 qb.ft.vec, .int .i64 qb.ft.code, .int .u32 qb.ft.cr2] 25)
          have r9 : RowT (w9.alloc (.cells #[.int .i64 qb.ft.vec, .int .i64 qb.ft.code, .int .u32 qb.ft.cr2] 25)) w9.heap.size qb.ft := (MapKept.heap_alloc w9 _).1
          replace v9 := v9.kp0 kA
          replace cR := cR.kp0 kA
          replace rR := rR.kp kA (fun f => f)
          replace r8 := r8.kp kA (fun f => f)
          replace kR := kR.trans kA
          clear cD HC kA k9 v8 n8
          go_upto_region 17 with fail
          obtain ⟨W9, hW9⟩ : ∃ W, W = w9.alloc (.cells #[.int .i64 qb.ft.vec, .int .i64 qb.ft.code, .int .u32 qb.ft.cr2] 25) := ⟨_, rfl⟩
          obtain ⟨X8, hX8⟩ : ∃ X, X = w8.heap.size := ⟨_, rfl⟩
          obtain ⟨X9, hX9⟩ : ∃ X, X = w9.heap.size := ⟨_, rfl⟩
          rw [← hW9] at v9 cR rR r8 r9 kR
          rw [← hX8] at r8
          rw [← hX9] at r9
          rw [← hW9, ← hX8, ← hX9]
          clear hW9 hX8 hX9
          have f0 := rR.c0
          have g0 := r8.c0; have g1 := r8.c1; have g2 := r8.c2
          have h0 := r9.c0; have h1 := r9.c1; have h2 := r9.c2
          have HRl : Hid (RowT W9 X q.ft ∧ VmAt W9 V K B 8 tn9 qb.m ∧ tn9 ≤ tn + 4 ∧ qb.m.n = 16 ∧ CpAt W9 C (flatP s d 2147483649 4096) ∧ Kp noB w W9) := ⟨rR, v9, by omega, hm, cR, kR⟩
          clear r8 r9 rR v9 hm cR kR ht8 ht9
          have HTn : Hid (tn ≤ 2 + 4 * 3) := htn
          rcases HS'.out with ⟨e1, e2, e3, e4, e5, e6⟩ | ⟨e1, e2, e3⟩ | ⟨e1, e2, e3⟩
          · rw [e2] at g0 g1 g2 h0 h1 h2
            rw [e1] at f0
            have HE : Hid (qb.m = q.m ∧ y + v0 * 256 ^ 3 = parS q.m q.s (3 + 1) ∧ parS q.m q.s (3 + 1) < 4294967296) := ⟨e3, e4, e6⟩
            unfold noFt at f0 g0 g1 g2 h0 h1 h2
            simp only at f0 g0 g1 g2 h0 h1 h2
            clear e1 e2 e3 e4 e6 HS'
            go_wp2_with fail
            have hY : (y + v0 * 16777216) % 4294967296 = parS q.m q.s (3 + 1) := by
              have h1 : y + v0 * 256 ^ 3 = parS q.m q.s (3 + 1) := HE.out.2.1
              have h3 := HE.out.2.2
              have h4 : (y + v0 * 16777216) = y + v0 * 256 ^ 3 := by show _ = y + v0 * 16777216; omega
              rw [h4, h1]
              have h5 : 0 ≤ parS q.m q.s (3 + 1) := by rw [← h1]; show 0 ≤ y + v0 * 16777216; omega
              omega
            have HY : Hid _ := hY
            clear hY
            go_roundg (4 - (3 + 1))
            case measure => have := HK.out; omega
            case rel =>
              obtain ⟨z1, z2, z3, z4, z5, z6⟩ := HRl.out
              exact ⟨3 + 1, _, tn9, qb.m, rfl, rfl, by decide, Nat.le_refl _, z2, by have := HTn.out; omega, z4, HB3.out, z5, z1, nX, z6, fun _ => ⟨HE.out.1, HY.out⟩⟩
          · rw [e3] at g0 g1 g2 h0 h1 h2
            unfold noFt at g0 g1 g2 h0 h1 h2
            simp only at g0 g1 g2 h0 h1 h2
            have HE : Hid (q.f = none → False) := e2
            have e4 : decide (q.ft.vec < 0) = false := decide_eq_false (by omega)
            have e5 : ¬ q.ft.vec < 0 := by omega
            clear e2 e3 HS'
            go_wp2_with fail
            go_roundg (4 - (3 + 1))
            case measure => have := HK.out; omega
            case rel =>
              obtain ⟨z1, z2, z3, z4, z5, z6⟩ := HRl.out
              exact ⟨3 + 1, _, tn9, qb.m, rfl, rfl, by decide, Nat.le_refl _, z2, by have := HTn.out; omega, z4, HB3.out, z5, z1, nX, z6, fun f => (HE.out f).elim⟩
          · have HE : Hid (q.f = none → False) := e2
            have e4 : decide (q.ft.vec < 0) = false := decide_eq_false (by omega)
            have e5 : ¬ q.ft.vec < 0 := by omega
            have e6 : decide (qb.ft.vec < 0) = false := decide_eq_false (by omega)
            have e7 : ¬ qb.ft.vec < 0 := by omega
            clear e2 HS'
            go_wp2_with fail
            go_roundg (4 - (3 + 1))
            case measure => have := HK.out; omega
            case rel =>
              obtain ⟨z1, z2, z3, z4, z5, z6⟩ := HRl.out
              exact ⟨3 + 1, _, tn9, qb.m, rfl, rfl, by decide, Nat.le_refl _, z2, by have := HTn.out; omega, z4, HB3.out, z5, z1, nX, z6, fun f => (HE.out f).elim⟩
      · obtain rfl : i = 4 := by omega
        have f0 := rR.c0
        rcases ft_sign q (fun f h => by rw [HQ.out] at h; exact segQ_vec h) with ⟨hf, e⟩ | e
        · have hy := (HP.out hf).2
          rw [parS_all] at hy
          have hv : q.val = q.m.rdS q.s := by unfold Qy.val; rw [hf]
          rw [← hv] at hy
          subst hy
          rw [e] at f0
          unfold noFt at f0
          simp only at f0
          clear e hf hv HP
          go_wp2
          go_ret
          exact ⟨rfl, kR.every⟩
        · have e' : decide (0 ≤ q.ft.vec) = true := decide_eq_true e
          go_wp2
          go_ret
          exact ⟨rfl, kR.every⟩
end Go.Proofs.Ytmmnnafjikilpaa
