/- The walk of the statement VmemBack: what is stored is loaded; Check has Store's fault; with a fault no byte is another. -/
import Derived.Test.YtmmnnafjikilpaaVk
import Derived.Test.YtmmnnafjikilpaaVg
import Derived.Test.YtmmnnafjikilpaaVb
namespace Go.Proofs.Ytmmnnafjikilpaa
open Go.ChangeShapes Go.WideShapes Go.ChangeAt Go.RowKit Go.Maps
set_option linter.unusedVariables false
set_option maxRecDepth 20000

set_option maxHeartbeats 4000000 in
theorem VmemBack_walk (w : World) (x : Option Addr) (L cp : Nat) (f g : Nat → Int) (hL : L ≤ 9223372036854775807) (hw : ∀ i, i < L → WordIn w x f g i) (cs : Array Value) (wf : WfC cs) (c : Cp) (hc : CpC cs c) (hok : c.Ok) (kd sg off z v : Int) (ho : OpOk kd sg off z v) :
    Calls Try.prog 4 #[.slice x L cp, .agg cs, .agg (op5 kd sg off z v)] w fun e w' => e = .returned (.bool true) ∧ Below w.heap.size w w' := by
  obtain ⟨T, n, Z, h⟩ := vlP
  obtain ⟨vl, vs, va, vb⟩ := h.ops
  have g1 := h.agg; have g2 := h.size; have g3 := h.zero
  have hsz : cs.size = n := by rw [wf.s, h.s]
  have HV : Hid (VlP T n Z) := h
  obtain ⟨M, hM⟩ : ∃ M, M = memOf f g (fun _ => 0) L 0 := ⟨_, rfl⟩
  have HO : Hid (Op16 M) := by rw [hM]; exact op16_of _ _ _ _
  have HB : Hid (∀ W, Kp noB w W → Calls Try.prog 10 #[.int .i64 16, .slice x L cp, .slice none 0 0] W (BothPost W M)) := fun W k => by
    rw [hM]
    exact both_any W x none L cp 0 0 f g (fun _ => 0) hL (by omega) (fun i hi => (hw i hi).kp k) (fun i hi => absurd hi (by omega))
  obtain ⟨W0, hW0⟩ : ∃ W, W = (w.alloc (.cells cs T)).alloc (.cells (op5 kd sg off z v) 40) := ⟨_, rfl⟩
  obtain ⟨C, hC⟩ : ∃ X, X = w.heap.size := ⟨_, rfl⟩
  have k0 : Kp noB w W0 := by rw [hW0]; exact (Kp.alloc _ _ _).trans (Kp.alloc _ _ _)
  have rO : RowO W0 (C + 1) kd sg off z v := by
    have := (MapKept.heap_alloc (w.alloc (.cells cs T)) (.cells (op5 kd sg off z v) 40)).1
    rw [show (w.alloc (.cells cs T)).heap.size = C + 1 by simp [hC]] at this
    rw [hW0]; exact this
  have cC : CpAt W0 C c := by
    rw [hW0, hC]
    exact ((h.at wf w).cp hc hok).kp0 (Kp.alloc _ _ _)
  have HOk : Hid (OpOk kd sg off z v ∧ c.Ok) := ⟨ho, hok⟩
  clear hM hw hL
  unfold op5
  go_enter Try.func4, Try.ntmps4
  simp only [vl, vs, va, vb] at *
  unfold op5 at hW0
  go_wp2_with fail
  rw [← hW0, ← hC]
  clear hW0 h wf hsz hc hok ho
  have HC0 : Hid (C = w.heap.size ∧ C + 1 < W0.heap.size) := ⟨hC, rO.lt⟩
  clear hC
  refine (vmAwake_any W0).mono ?_; rintro e w1 ⟨rfl, k1⟩
  have HC1 : Hid (C = w.heap.size ∧ C + 1 < w1.heap.size) := ⟨HC0.out.1, Nat.lt_of_lt_of_le HC0.out.2 k1.size⟩
  replace rO := rO.kp k1 (fun f => f)
  replace cC := cC.kp0 k1
  replace k1 := k0.trans k1
  clear k0
  go_wp2_with fail
  refine Calls.mono (HB.out w1 k1) ?_; rintro e w2 ⟨B1, R1, rfl, hb1, ho1, k2⟩
  have ra := hb1.ram
  replace rO := rO.kp k2 (fun f => f)
  replace cC := cC.kp0 k2
  have HC2 : Hid (w1.heap.size ≤ w2.heap.size) := k2.size
  replace k2 := k1.trans k2
  clear hb1 k1
  go_wp2_with fail
  refine Calls.mono (HB.out w2 k2) ?_; rintro e w3 ⟨B2, R2, rfl, hb2, ho2, k3⟩
  have rb := hb2.ram
  have ra3 := ra.kp k3 (fun _ _ f => f)
  replace rO := rO.kp k3 (fun f => f)
  replace cC := cC.kp0 k3
  have s3 := k3.size
  replace k3 := k2.trans k3
  clear hb2 k2
  have cN := vNew_ok w3 B1 8 (by omega) M ra3 HO.out.c
  go_wp2_with fail
  refine cN.mono ?_; rintro e w4 ⟨V1, rfl, hV1, v1, k4⟩
  have i1 := inR_of ho1 ra HO.out.n hV1 v1 rfl
  have rb4 := rb.kp k4 (fun _ _ f => f)
  replace rO := rO.kp k4 (fun f => f)
  replace cC := cC.kp0 k4
  have s4 := k4.size
  replace k4 := k3.trans k4
  clear cN k3 ra3
  have cN := vNew_ok w4 B2 0 (by omega) M rb4 HO.out.c
  go_wp2_with fail
  refine cN.mono ?_; rintro e w5 ⟨V2, rfl, hV2, v2, k5⟩
  have i2 := inR_of ho2 rb HO.out.n hV2 v2 rfl
  replace v1 := v1.kp0 k5
  replace rO := rO.kp k5 (fun f => f)
  replace cC := cC.kp0 k5
  have s5 := k5.size
  replace k5 := k4.trans k5
  clear cN k4 rb4 ra rb
  obtain ⟨K1, hK1⟩ : ∃ K, K = w3.heap.size := ⟨_, rfl⟩
  obtain ⟨K2, hK2⟩ : ∃ K, K = w4.heap.size := ⟨_, rfl⟩
  have HX : Hid (∀ j, (inVm V1 K1 B1 16 j → ¬ inVm V2 K2 B2 16 j ∧ w.heap.size ≤ j ∧ j ≠ C ∧ j ≠ C + 1) ∧ (inVm V2 K2 B2 16 j → w.heap.size ≤ j ∧ j ≠ C ∧ j ≠ C + 1)) := fun j => by
    rw [hK1, hK2]
    have a1 := i1 j; have a2 := i2 j
    have q := HC1.out
    have q2 := HC2.out
    refine ⟨fun h => ?_, fun h => ?_⟩
    · have b1 := a1 h
      exact ⟨fun f => by have b2 := a2 f; omega, by omega, by omega, by omega⟩
    · have b2 := a2 h
      exact ⟨by omega, by omega, by omega⟩
  rw [← hK1] at v1; rw [← hK2] at v2
  clear i1 i2 ho1 ho2 hV1 hV2 s3 s4 s5 hK1 hK2
  obtain ⟨c0, c1, c2, c3, c4⟩ := rO.all
  have cS := check_any w5 V2 K2 B2 0 0 C M v2 c cC (fun f => by rw [HO.out.n] at f; exact ((HX.out _).2 (.inr f)).2.1 rfl) sg off z HOk.out.1.o0 HOk.out.1.o1 (by decide)
  have hn : (segQ M c sg off z true).m.n = 16 := by rw [segQ_n]; exact HO.out.n
  have cT : Hid (∀ W, VmAt W V1 K1 B1 8 0 M → CpAt W C c → Calls Try.prog 15 #[.pointer (some ⟨V1, 0, none⟩), .pointer (some ⟨C, 0, none⟩), .int .i64 sg, .int .u32 off, .int .i64 z, .int .u32 v] W fun e w' => e = .returned ((segQ M c sg off z true).ft.val) ∧ VmP W V1 K1 B1 8 0 ((segQ M c sg off z true).put v) 2 w') := fun W hv hc => store_any W V1 K1 B1 8 0 C M hv c hc (fun f => by rw [HO.out.n] at f; exact ((HX.out _).1 (.inr f)).2.2.1 rfl) sg off z v HOk.out.1.o0 HOk.out.1.o1 HOk.out.1.v0 HOk.out.1.v1 (by decide)
  obtain ⟨q, hq⟩ : ∃ q, q = segQ M c sg off z true := ⟨_, rfl⟩
  have HQ : Hid (q = segQ M c sg off z true) := hq
  rw [← hq] at cS hn cT
  clear hq
  rw [Ft.val_is] at cS cT
  go_wp2_with fail
  refine cS.mono ?_; rintro e w6 ⟨rfl, ⟨tn6, ht6, v6⟩, k6⟩
  rw [hn] at k6
  clear cS c0 c1 c2 c3 c4 v2 ht6
  replace v1 := v1.kp k6 (fun j hj f => by rw [HO.out.n] at hj; exact ((HX.out j).1 hj).1 (.inr f))
  replace cC := cC.kp k6 (fun f => ((HX.out _).2 (.inr f)).2.1 rfl)
  replace rO := rO.kp k6 (fun f => ((HX.out _).2 (.inr f)).2.2 rfl)
  replace k6 : Kp noB w w6 := k5.over k6 (fun j hj f => absurd hj (by have := (HX.out j).2 (.inr f); omega))
  have n6 : ¬ modVm K1 B1 16 w6.heap.size := fun f => by have := v1.in_lt (j := w6.heap.size) (by rw [HO.out.n]; exact f); omega
  have kA := Kp.alloc noB w6 (.cells #[.int .i64 q.ft.vec, .int .i64 q.ft.code, .int .u32 q.ft.cr2] 25)
  have r6 : RowT (w6.alloc (.cells #[.int .i64 q.ft.vec, .int .i64 q.ft.code, .int .u32 q.ft.cr2] 25)) w6.heap.size q.ft := (MapKept.heap_alloc w6 _).1
  have ra := v6.ram.kp kA (fun _ _ f => f)
  replace v1 := v1.kp0 kA
  replace cC := cC.kp0 kA
  replace rO := rO.kp kA (fun f => f)
  replace k6 := k6.trans kA
  have HCl : Hid (q.m.closed = false) := v6.cl
  clear kA v6 k5
  obtain ⟨N, hN⟩ : ∃ N : Nat, N = 4096 * q.m.n := ⟨_, rfl⟩
  have HNb : Hid (1 ≤ N ∧ N ≤ 2147483647) := by rw [hN, hn]; exact ⟨by decide, by decide⟩
  have HLn : Hid (∀ (X : Nat) (W : World), RamAt W X q.m → Calls Try.prog 14 #[.pointer (some ⟨X + 3, 0, none⟩)] W fun e w' => e = .returned (.int .i64 N) ∧ w' = W) := fun X W hW => by
    have := len_ok W X q.m hW
    rw [show ((4096 * q.m.n : Int)) = (N : Int) by omega] at this
    exact this
  obtain ⟨S, hS⟩ : ∃ S, S = strOfNums (allB q.m N) := ⟨_, rfl⟩
  have HCd : Hid (∀ (W : World) (b : Nat) (cs : Array Value), W.heap[b]? = some (.cells cs 5 (0, 0)) → (∀ j, j < N → cs[j]? = some (.int .u8 (q.m.rd ((0 + j) % 4294967296)))) → (convert 51 9 (.slice (some ⟨b, 0, none⟩) N N)).run Try.prog W = .ok (.string S) W) := fun W b cs h1 h2 => by rw [hS]; exact conv_dump h1 h2 hN hn HCl.out
  clear hS hN
  have cD := dump_ok _ B2 q.m ra 0 (by omega) (by omega) N HNb.out.1 HNb.out.2
  go_wp2_with fail
  refine (HLn.out B2 _ ra).mono ?_; rintro e wx ⟨rfl, hw⟩; replace hw := hw.symm; subst hw
  go_wp2_with fail
  refine cD.mono ?_; rintro e w7 ⟨ds, rfl, hh, hsz, hcell, k7⟩
  obtain ⟨b0, hb0⟩ : ∃ b, b = (w6.alloc (.cells #[.int .i64 q.ft.vec, .int .i64 q.ft.code, .int .u32 q.ft.cr2] 25)).heap.size := ⟨_, rfl⟩
  have n7 : ¬ modVm K1 B1 16 b0 := fun f => by have := v1.in_lt (j := b0) (by rw [HO.out.n]; exact f); omega
  replace v1 := v1.kp0 k7
  replace cC := cC.kp0 k7
  replace rO := rO.kp k7 (fun f => f)
  replace r6 := r6.kp k7 (fun f => f)
  replace k7 := k6.trans k7
  rw [← hb0] at hh
  have HDs : Hid (∀ j, j < N → ds[j]? = some (.int .u8 (q.m.rd ((0 + j) % 4294967296)))) := hcell
  clear cD hcell hsz k6 ra
  have cS := cT.out w7 v1 cC
  obtain ⟨c0, c1, c2, c3, c4⟩ := rO.all
  obtain ⟨M1, hM1⟩ : ∃ M1, M1 = q.put v := ⟨_, rfl⟩
  have HM1 : Hid (M1 = q.put v) := hM1
  have hn1 : M1.n = 16 := by rw [hM1, qput_n]; exact hn
  rw [← hM1] at cS
  clear cT hM1
  go_wp2_with fail
  refine cS.mono ?_; rintro e w8 ⟨rfl, ⟨tn8, ht8, v8⟩, k8⟩
  rw [hn1] at k8
  clear cS c0 c1 c2 c3 c4 v1
  replace cC := cC.kp k8 (fun f => ((HX.out _).1 (.inr f)).2.2.1 rfl)
  replace rO := rO.kp k8 (fun f => ((HX.out _).1 (.inr f)).2.2.2 rfl)
  replace r6 := r6.kp k8 n6
  replace hh := (k8.block b0 (Array.getElem?_eq_some_iff.1 hh).1 n7).trans hh
  replace k8 : Kp noB w w8 := k7.over k8 (fun j hj f => absurd hj (by have := (HX.out j).1 (.inr f); omega))
  have kA := Kp.alloc noB w8 (.cells #[.int .i64 q.ft.vec, .int .i64 q.ft.code, .int .u32 q.ft.cr2] 25)
  have r8 : RowT (w8.alloc (.cells #[.int .i64 q.ft.vec, .int .i64 q.ft.code, .int .u32 q.ft.cr2] 25)) w8.heap.size q.ft := (MapKept.heap_alloc w8 _).1
  replace v8 := v8.kp0 kA
  replace cC := cC.kp0 kA
  replace rO := rO.kp kA (fun f => f)
  replace r6 := r6.kp kA (fun f => f)
  replace hh := (kA.block b0 (Array.getElem?_eq_some_iff.1 hh).1 (fun f => f)).trans hh
  replace k8 := k8.trans kA
  clear kA k7 n6 n7
  go_upto_region 11 with fail
  obtain ⟨W8, hW8⟩ : ∃ W, W = w8.alloc (.cells #[.int .i64 q.ft.vec, .int .i64 q.ft.code, .int .u32 q.ft.cr2] 25) := ⟨_, rfl⟩
  obtain ⟨x6, hx6⟩ : ∃ x, x = w6.heap.size := ⟨_, rfl⟩
  obtain ⟨x8, hx8⟩ : ∃ x, x = w8.heap.size := ⟨_, rfl⟩
  rw [← hW8] at v8 cC rO r6 r8 hh k8
  rw [← hx6] at r6
  rw [← hx8] at r8
  have hb1 : b0 = x6 + 1 := by rw [hb0, hx6]; simp
  rw [← hW8, ← hx6, ← hx8, ← hb1]
  clear hW8 hx6 hx8 hb0 hb1
  have f0 := r6.c0; have f1 := r6.c1; have f2 := r6.c2
  have g0 := r8.c0; have g1 := r8.c1; have g2 := r8.c2
  rcases ft_sign q (fun f h => by rw [HQ.out] at h; exact segQ_vec h) with ⟨hf, e⟩ | e
  · rw [e] at f0 f1 f2 g0 g1 g2
    unfold noFt at f0 f1 f2 g0 g1 g2
    simp only at f0 f1 f2 g0 g1 g2
    have HF : Hid (q.f = none) := hf
    obtain ⟨hz, sg0, sg1, -, -⟩ := seg_inv (M := M) (c := c) (k := sg) (off := off) (z := z) (wr := true) (by rw [← HQ.out]; exact hf)
    obtain ⟨k, rfl⟩ : ∃ k : Nat, sg = k := ⟨sg.toNat, by omega⟩
    have k60 : k < 6 := by omega
    have kI0 : (0 : Int) ≤ k := by omega
    have kI1 : (k : Int) < 6 := by omega
    clear hf e hh sg0 sg1 HDs HCd HLn HNb HCl HB hn
    obtain ⟨c0, c1, c2, c3, c4⟩ := rO.all
    have cz := cC.z
    have cb := (cC.sg k k60).a2
    have q0 := HOk.out.2.z0
    have q1 := HOk.out.2.z1
    by_cases hp : c.cr0 / 2147483648 = 1
    · go_wp2
      go_ret
      exact ⟨rfl, k8.every⟩
    · have hp0 : c.cr0 / 2147483648 = 0 := by omega
      have HP : Hid (c.pg = false) := by
        unfold Cp.pg
        rw [has_is, hp0]
        rfl
      clear hp q0 q1
      by_cases hb : (c.seg k).b = 0
      · rw [hb] at cb
        have HBs : Hid ((c.seg (k : Int).toNat).b = 0) := by rw [Int.toNat_natCast]; exact hb
        clear hb
        by_cases ho : off ≤ 65280
        · have ho' : ¬ 65280 < off := by omega
          clear ho
          have BQ := back_all HO.out HOk.out.1.v0 HOk.out.1.v1 (by rw [← HQ.out]; exact HF.out) HP.out HBs.out HOk.out.1.o0 (by omega)
          rw [← HQ.out, ← HM1.out] at BQ
          have HBQ : Hid _ := BQ
          have ob0 := HOk.out.1.o0
          have ob1 : off < 4294967290 := by omega
          have vb0 := HOk.out.1.v0
          have vb1 := HOk.out.1.v1
          have nC : ¬ modVm K1 B1 16 C := fun f => ((HX.out _).1 (.inr f)).2.2.1 rfl
          have nO : ¬ modVm K1 B1 16 (C + 1) := fun f => ((HX.out _).1 (.inr f)).2.2.2 rfl
          have HKw : Hid (∀ j, modVm K1 B1 16 j → w.heap.size ≤ j) := fun j hj => ((HX.out j).1 (.inr hj)).2.1
          clear HX HQ HM1 HF HP HBs HO BQ
          rcases hz with rfl | rfl | rfl
          · have hv : (segQ M1 c k off 1 false).val = v % 256 := HBQ.out.vv
            have cL := load_any W8 V1 K1 B1 8 tn8 C M1 v8 c cC (by rw [hn1]; exact nC) k off 1 ob0 (by omega) (by omega)
            rw [HBQ.out.m, hv, HBQ.out.hf, Ft.val_is] at cL
            unfold noFt at cL
            simp only at cL
            clear hv
            go_wp2_with fail
            refine cL.mono ?_; rintro e w9 ⟨rfl, ⟨tn9, ht9, v9⟩, k9⟩
            rw [hn1] at k9
            replace cC := cC.kp k9 nC
            replace rO := rO.kp k9 nO
            replace k9 : Kp noB w w9 := k8.over k9 (fun j hj f => absurd hj (by have := HKw.out j f; omega))
            have kA := Kp.alloc noB w9 (.cells #[.int .i64 (-1), .int .i64 (-1), .int .u32 0] 25)
            replace v9 := v9.kp0 kA
            replace cC := cC.kp0 kA
            replace rO := rO.kp kA (fun f => f)
            have r9 : RowT (w9.alloc (.cells #[.int .i64 (-1), .int .i64 (-1), .int .u32 0] 25)) w9.heap.size noFt := (MapKept.heap_alloc w9 _).1
            replace k9 := k9.trans kA
            clear cL kA k8 v8 c0 c1 c2 c3 c4 cz cb r6 r8 f0 f1 f2 g0 g1 g2
            obtain ⟨c0, c1, c2, c3, c4⟩ := rO.all
            have d0 := r9.c0
            unfold noFt at d0
            simp only at d0
            have HS0 : Hid (BkL w V1 K1 B1 C c M1 kd k off 1 v 1 1 (.int .i64 0) (w9.alloc (.cells #[.int .i64 (-1), .int .i64 (-1), .int .u32 0] 25))) := ⟨0, tn9, rfl, by decide, by decide, v9, by omega, cC, rO, k9⟩
            go_upto_region 18 with fail
            obtain ⟨W9, hW9⟩ : ∃ W, W = w9.alloc (.cells #[.int .i64 (-1), .int .i64 (-1), .int .u32 0] 25) := ⟨_, rfl⟩
            obtain ⟨x9, hx9⟩ : ∃ x, x = w9.heap.size := ⟨_, rfl⟩
            rw [← hW9] at c0 c1 c2 c3 c4 d0 HS0
            rw [← hx9] at d0
            rw [← hW9, ← hx9]
            clear hW9 hx9 v9 cC rO r9 k9
            go_wp2_with fail
            clear c0 c1 c2 c3 c4 d0 ht9
            go_loopg [21] 1 (BkL w V1 K1 B1 C c M1 kd k off 1 v 1)
            case atStart => exact HS0.out
            case round =>
              clear HS0
              obtain ⟨i, tn, hr⟩ := hrel
              obtain ⟨ei, hi4, hik, vR, htn, cR, oR, kR⟩ := hr
              subst ei
              have HK : Hid (1 - i ≤ gk) := hik
              clear hik
              obtain ⟨c0, c1, c2, c3, c4⟩ := oR.all
              by_cases hlt : i < 1
              · rcases (by omega : i = 0) with hI
                · obtain rfl : i = 0 := hI
                  have hv := HBQ.out.bv 0 (by decide)
                  have hf := HBQ.out.bf 0 (by decide)
                  have hm := HBQ.out.bm 0 (by decide)
                  have eo : off + ((0 : Nat) : Int) = off := by omega
                  have ev : v / 256 ^ 0 % 256 = v % 256 := by show v / 1 % 256 = v % 256; omega
                  rw [eo] at hv hf hm
                  rw [ev] at hv
                  have cL := load_any wr V1 K1 B1 8 tn C M1 vR c cR (by rw [hn1]; exact nC) k (off) 1 (by omega) (by omega) (by omega)
                  rw [hv, hf, hm, Ft.val_is] at cL
                  unfold noFt at cL
                  simp only at cL
                  have w1 : IntKind.u32.wrap (off) = off := by rw [IntKind.wrap_u32]; omega
                  have w2 : (off) % 4294967296 = off := by omega
                  have HT : Hid (tn ≤ 4 + 2 * 0) := htn
                  clear hv hf hm eo ev hlt hi4 htn
                  go_wp2_with fail
                  refine cL.mono ?_; rintro e w10 ⟨rfl, ⟨tnx, htx, vX⟩, kX⟩
                  rw [hn1] at kX
                  replace cR := cR.kp kX nC
                  replace oR := oR.kp kX nO
                  replace kX : Kp noB w w10 := kR.over kX (fun j hj f => absurd hj (by have := HKw.out j f; omega))
                  have kA := Kp.alloc noB w10 (.cells #[.int .i64 (-1), .int .i64 (-1), .int .u32 0] 25)
                  replace vX := vX.kp0 kA
                  replace cR := cR.kp0 kA
                  replace oR := oR.kp kA (fun f => f)
                  replace kX := kX.trans kA
                  clear cL kA kR vR c0 c1 c2 c3 c4
                  obtain ⟨c0, c1, c2, c3, c4⟩ := oR.all
                  go_wp2_with fail
                  go_roundg (1 - (0 + 1))
                  case measure => have := HK.out; omega
                  case rel => exact ⟨0 + 1, tnx, rfl, by decide, Nat.le_refl _, vX, by have := HT.out; omega, cR, oR, kX⟩
              · obtain rfl : i = 1 := by omega
                go_wp2
                go_ret
                exact ⟨rfl, kR.every⟩
          · have hv : (segQ M1 c k off 2 false).val = v % 65536 := HBQ.out.vv
            have cL := load_any W8 V1 K1 B1 8 tn8 C M1 v8 c cC (by rw [hn1]; exact nC) k off 2 ob0 (by omega) (by omega)
            rw [HBQ.out.m, hv, HBQ.out.hf, Ft.val_is] at cL
            unfold noFt at cL
            simp only at cL
            clear hv
            go_wp2_with fail
            refine cL.mono ?_; rintro e w9 ⟨rfl, ⟨tn9, ht9, v9⟩, k9⟩
            rw [hn1] at k9
            replace cC := cC.kp k9 nC
            replace rO := rO.kp k9 nO
            replace k9 : Kp noB w w9 := k8.over k9 (fun j hj f => absurd hj (by have := HKw.out j f; omega))
            have kA := Kp.alloc noB w9 (.cells #[.int .i64 (-1), .int .i64 (-1), .int .u32 0] 25)
            replace v9 := v9.kp0 kA
            replace cC := cC.kp0 kA
            replace rO := rO.kp kA (fun f => f)
            have r9 : RowT (w9.alloc (.cells #[.int .i64 (-1), .int .i64 (-1), .int .u32 0] 25)) w9.heap.size noFt := (MapKept.heap_alloc w9 _).1
            replace k9 := k9.trans kA
            clear cL kA k8 v8 c0 c1 c2 c3 c4 cz cb r6 r8 f0 f1 f2 g0 g1 g2
            obtain ⟨c0, c1, c2, c3, c4⟩ := rO.all
            have d0 := r9.c0
            unfold noFt at d0
            simp only at d0
            have HS0 : Hid (BkL w V1 K1 B1 C c M1 kd k off 2 v 2 2 (.int .i64 0) (w9.alloc (.cells #[.int .i64 (-1), .int .i64 (-1), .int .u32 0] 25))) := ⟨0, tn9, rfl, by decide, by decide, v9, by omega, cC, rO, k9⟩
            go_upto_region 18 with fail
            obtain ⟨W9, hW9⟩ : ∃ W, W = w9.alloc (.cells #[.int .i64 (-1), .int .i64 (-1), .int .u32 0] 25) := ⟨_, rfl⟩
            obtain ⟨x9, hx9⟩ : ∃ x, x = w9.heap.size := ⟨_, rfl⟩
            rw [← hW9] at c0 c1 c2 c3 c4 d0 HS0
            rw [← hx9] at d0
            rw [← hW9, ← hx9]
            clear hW9 hx9 v9 cC rO r9 k9
            go_wp2_with fail
            clear c0 c1 c2 c3 c4 d0 ht9
            go_loopg [21] 2 (BkL w V1 K1 B1 C c M1 kd k off 2 v 2)
            case atStart => exact HS0.out
            case round =>
              clear HS0
              obtain ⟨i, tn, hr⟩ := hrel
              obtain ⟨ei, hi4, hik, vR, htn, cR, oR, kR⟩ := hr
              subst ei
              have HK : Hid (2 - i ≤ gk) := hik
              clear hik
              obtain ⟨c0, c1, c2, c3, c4⟩ := oR.all
              by_cases hlt : i < 2
              · rcases (by omega : i = 0 ∨ i = 1) with hI | hI
                · obtain rfl : i = 0 := hI
                  have hv := HBQ.out.bv 0 (by decide)
                  have hf := HBQ.out.bf 0 (by decide)
                  have hm := HBQ.out.bm 0 (by decide)
                  have eo : off + ((0 : Nat) : Int) = off := by omega
                  have ev : v / 256 ^ 0 % 256 = v % 256 := by show v / 1 % 256 = v % 256; omega
                  rw [eo] at hv hf hm
                  rw [ev] at hv
                  have cL := load_any wr V1 K1 B1 8 tn C M1 vR c cR (by rw [hn1]; exact nC) k (off) 1 (by omega) (by omega) (by omega)
                  rw [hv, hf, hm, Ft.val_is] at cL
                  unfold noFt at cL
                  simp only at cL
                  have w1 : IntKind.u32.wrap (off) = off := by rw [IntKind.wrap_u32]; omega
                  have w2 : (off) % 4294967296 = off := by omega
                  have HT : Hid (tn ≤ 4 + 2 * 0) := htn
                  clear hv hf hm eo ev hlt hi4 htn
                  go_wp2_with fail
                  refine cL.mono ?_; rintro e w10 ⟨rfl, ⟨tnx, htx, vX⟩, kX⟩
                  rw [hn1] at kX
                  replace cR := cR.kp kX nC
                  replace oR := oR.kp kX nO
                  replace kX : Kp noB w w10 := kR.over kX (fun j hj f => absurd hj (by have := HKw.out j f; omega))
                  have kA := Kp.alloc noB w10 (.cells #[.int .i64 (-1), .int .i64 (-1), .int .u32 0] 25)
                  replace vX := vX.kp0 kA
                  replace cR := cR.kp0 kA
                  replace oR := oR.kp kA (fun f => f)
                  replace kX := kX.trans kA
                  clear cL kA kR vR c0 c1 c2 c3 c4
                  obtain ⟨c0, c1, c2, c3, c4⟩ := oR.all
                  go_wp2_with fail
                  go_roundg (2 - (0 + 1))
                  case measure => have := HK.out; omega
                  case rel => exact ⟨0 + 1, tnx, rfl, by decide, Nat.le_refl _, vX, by have := HT.out; omega, cR, oR, kX⟩
                · obtain rfl : i = 1 := hI
                  have hv := HBQ.out.bv 1 (by decide)
                  have hf := HBQ.out.bf 1 (by decide)
                  have hm := HBQ.out.bm 1 (by decide)
                  have eo : off + ((1 : Nat) : Int) = off + 1 := rfl
                  have ev : v / 256 ^ 1 % 256 = v / 256 % 256 := rfl
                  rw [eo] at hv hf hm
                  rw [ev] at hv
                  have cL := load_any wr V1 K1 B1 8 tn C M1 vR c cR (by rw [hn1]; exact nC) k (off + 1) 1 (by omega) (by omega) (by omega)
                  rw [hv, hf, hm, Ft.val_is] at cL
                  unfold noFt at cL
                  simp only at cL
                  have w1 : IntKind.u32.wrap (off + 1) = off + 1 := by rw [IntKind.wrap_u32]; omega
                  have w2 : (off + 1) % 4294967296 = off + 1 := by omega
                  have HT : Hid (tn ≤ 4 + 2 * 1) := htn
                  clear hv hf hm eo ev hlt hi4 htn
                  go_wp2_with fail
                  refine cL.mono ?_; rintro e w10 ⟨rfl, ⟨tnx, htx, vX⟩, kX⟩
                  rw [hn1] at kX
                  replace cR := cR.kp kX nC
                  replace oR := oR.kp kX nO
                  replace kX : Kp noB w w10 := kR.over kX (fun j hj f => absurd hj (by have := HKw.out j f; omega))
                  have kA := Kp.alloc noB w10 (.cells #[.int .i64 (-1), .int .i64 (-1), .int .u32 0] 25)
                  replace vX := vX.kp0 kA
                  replace cR := cR.kp0 kA
                  replace oR := oR.kp kA (fun f => f)
                  replace kX := kX.trans kA
                  clear cL kA kR vR c0 c1 c2 c3 c4
                  obtain ⟨c0, c1, c2, c3, c4⟩ := oR.all
                  go_wp2_with fail
                  go_roundg (2 - (1 + 1))
                  case measure => have := HK.out; omega
                  case rel => exact ⟨1 + 1, tnx, rfl, by decide, Nat.le_refl _, vX, by have := HT.out; omega, cR, oR, kX⟩
              · obtain rfl : i = 2 := by omega
                go_wp2
                go_ret
                exact ⟨rfl, kR.every⟩
          · have hv : (segQ M1 c k off 4 false).val = v := by rw [HBQ.out.vv]; show v % 4294967296 = v; omega
            have cL := load_any W8 V1 K1 B1 8 tn8 C M1 v8 c cC (by rw [hn1]; exact nC) k off 4 ob0 (by omega) (by omega)
            rw [HBQ.out.m, hv, HBQ.out.hf, Ft.val_is] at cL
            unfold noFt at cL
            simp only at cL
            clear hv
            go_wp2_with fail
            refine cL.mono ?_; rintro e w9 ⟨rfl, ⟨tn9, ht9, v9⟩, k9⟩
            rw [hn1] at k9
            replace cC := cC.kp k9 nC
            replace rO := rO.kp k9 nO
            replace k9 : Kp noB w w9 := k8.over k9 (fun j hj f => absurd hj (by have := HKw.out j f; omega))
            have kA := Kp.alloc noB w9 (.cells #[.int .i64 (-1), .int .i64 (-1), .int .u32 0] 25)
            replace v9 := v9.kp0 kA
            replace cC := cC.kp0 kA
            replace rO := rO.kp kA (fun f => f)
            have r9 : RowT (w9.alloc (.cells #[.int .i64 (-1), .int .i64 (-1), .int .u32 0] 25)) w9.heap.size noFt := (MapKept.heap_alloc w9 _).1
            replace k9 := k9.trans kA
            clear cL kA k8 v8 c0 c1 c2 c3 c4 cz cb r6 r8 f0 f1 f2 g0 g1 g2
            obtain ⟨c0, c1, c2, c3, c4⟩ := rO.all
            have d0 := r9.c0
            unfold noFt at d0
            simp only at d0
            have HS0 : Hid (BkL w V1 K1 B1 C c M1 kd k off 4 v 4 4 (.int .i64 0) (w9.alloc (.cells #[.int .i64 (-1), .int .i64 (-1), .int .u32 0] 25))) := ⟨0, tn9, rfl, by decide, by decide, v9, by omega, cC, rO, k9⟩
            go_upto_region 18 with fail
            obtain ⟨W9, hW9⟩ : ∃ W, W = w9.alloc (.cells #[.int .i64 (-1), .int .i64 (-1), .int .u32 0] 25) := ⟨_, rfl⟩
            obtain ⟨x9, hx9⟩ : ∃ x, x = w9.heap.size := ⟨_, rfl⟩
            rw [← hW9] at c0 c1 c2 c3 c4 d0 HS0
            rw [← hx9] at d0
            rw [← hW9, ← hx9]
            clear hW9 hx9 v9 cC rO r9 k9
            go_wp2_with fail
            rw [show v % 4294967296 = v by omega, show (v != v) = false by simp]
            clear c0 c1 c2 c3 c4 d0 ht9
            go_loopg [21] 4 (BkL w V1 K1 B1 C c M1 kd k off 4 v 4)
            case atStart => exact HS0.out
            case round =>
              clear HS0
              obtain ⟨i, tn, hr⟩ := hrel
              obtain ⟨ei, hi4, hik, vR, htn, cR, oR, kR⟩ := hr
              subst ei
              have HK : Hid (4 - i ≤ gk) := hik
              clear hik
              obtain ⟨c0, c1, c2, c3, c4⟩ := oR.all
              by_cases hlt : i < 4
              · rcases (by omega : i = 0 ∨ i = 1 ∨ i = 2 ∨ i = 3) with hI | hI | hI | hI
                · obtain rfl : i = 0 := hI
                  have hv := HBQ.out.bv 0 (by decide)
                  have hf := HBQ.out.bf 0 (by decide)
                  have hm := HBQ.out.bm 0 (by decide)
                  have eo : off + ((0 : Nat) : Int) = off := by omega
                  have ev : v / 256 ^ 0 % 256 = v % 256 := by show v / 1 % 256 = v % 256; omega
                  rw [eo] at hv hf hm
                  rw [ev] at hv
                  have cL := load_any wr V1 K1 B1 8 tn C M1 vR c cR (by rw [hn1]; exact nC) k (off) 1 (by omega) (by omega) (by omega)
                  rw [hv, hf, hm, Ft.val_is] at cL
                  unfold noFt at cL
                  simp only at cL
                  have w1 : IntKind.u32.wrap (off) = off := by rw [IntKind.wrap_u32]; omega
                  have w2 : (off) % 4294967296 = off := by omega
                  have HT : Hid (tn ≤ 4 + 2 * 0) := htn
                  clear hv hf hm eo ev hlt hi4 htn
                  go_wp2_with fail
                  refine cL.mono ?_; rintro e w10 ⟨rfl, ⟨tnx, htx, vX⟩, kX⟩
                  rw [hn1] at kX
                  replace cR := cR.kp kX nC
                  replace oR := oR.kp kX nO
                  replace kX : Kp noB w w10 := kR.over kX (fun j hj f => absurd hj (by have := HKw.out j f; omega))
                  have kA := Kp.alloc noB w10 (.cells #[.int .i64 (-1), .int .i64 (-1), .int .u32 0] 25)
                  replace vX := vX.kp0 kA
                  replace cR := cR.kp0 kA
                  replace oR := oR.kp kA (fun f => f)
                  replace kX := kX.trans kA
                  clear cL kA kR vR c0 c1 c2 c3 c4
                  obtain ⟨c0, c1, c2, c3, c4⟩ := oR.all
                  go_wp2_with fail
                  go_roundg (4 - (0 + 1))
                  case measure => have := HK.out; omega
                  case rel => exact ⟨0 + 1, tnx, rfl, by decide, Nat.le_refl _, vX, by have := HT.out; omega, cR, oR, kX⟩
                · obtain rfl : i = 1 := hI
                  have hv := HBQ.out.bv 1 (by decide)
                  have hf := HBQ.out.bf 1 (by decide)
                  have hm := HBQ.out.bm 1 (by decide)
                  have eo : off + ((1 : Nat) : Int) = off + 1 := rfl
                  have ev : v / 256 ^ 1 % 256 = v / 256 % 256 := rfl
                  rw [eo] at hv hf hm
                  rw [ev] at hv
                  have cL := load_any wr V1 K1 B1 8 tn C M1 vR c cR (by rw [hn1]; exact nC) k (off + 1) 1 (by omega) (by omega) (by omega)
                  rw [hv, hf, hm, Ft.val_is] at cL
                  unfold noFt at cL
                  simp only at cL
                  have w1 : IntKind.u32.wrap (off + 1) = off + 1 := by rw [IntKind.wrap_u32]; omega
                  have w2 : (off + 1) % 4294967296 = off + 1 := by omega
                  have HT : Hid (tn ≤ 4 + 2 * 1) := htn
                  clear hv hf hm eo ev hlt hi4 htn
                  go_wp2_with fail
                  refine cL.mono ?_; rintro e w10 ⟨rfl, ⟨tnx, htx, vX⟩, kX⟩
                  rw [hn1] at kX
                  replace cR := cR.kp kX nC
                  replace oR := oR.kp kX nO
                  replace kX : Kp noB w w10 := kR.over kX (fun j hj f => absurd hj (by have := HKw.out j f; omega))
                  have kA := Kp.alloc noB w10 (.cells #[.int .i64 (-1), .int .i64 (-1), .int .u32 0] 25)
                  replace vX := vX.kp0 kA
                  replace cR := cR.kp0 kA
                  replace oR := oR.kp kA (fun f => f)
                  replace kX := kX.trans kA
                  clear cL kA kR vR c0 c1 c2 c3 c4
                  obtain ⟨c0, c1, c2, c3, c4⟩ := oR.all
                  go_wp2_with fail
                  go_roundg (4 - (1 + 1))
                  case measure => have := HK.out; omega
                  case rel => exact ⟨1 + 1, tnx, rfl, by decide, Nat.le_refl _, vX, by have := HT.out; omega, cR, oR, kX⟩
                · obtain rfl : i = 2 := hI
                  have hv := HBQ.out.bv 2 (by decide)
                  have hf := HBQ.out.bf 2 (by decide)
                  have hm := HBQ.out.bm 2 (by decide)
                  have eo : off + ((2 : Nat) : Int) = off + 2 := rfl
                  have ev : v / 256 ^ 2 % 256 = v / 65536 % 256 := rfl
                  rw [eo] at hv hf hm
                  rw [ev] at hv
                  have cL := load_any wr V1 K1 B1 8 tn C M1 vR c cR (by rw [hn1]; exact nC) k (off + 2) 1 (by omega) (by omega) (by omega)
                  rw [hv, hf, hm, Ft.val_is] at cL
                  unfold noFt at cL
                  simp only at cL
                  have w1 : IntKind.u32.wrap (off + 2) = off + 2 := by rw [IntKind.wrap_u32]; omega
                  have w2 : (off + 2) % 4294967296 = off + 2 := by omega
                  have HT : Hid (tn ≤ 4 + 2 * 2) := htn
                  clear hv hf hm eo ev hlt hi4 htn
                  go_wp2_with fail
                  refine cL.mono ?_; rintro e w10 ⟨rfl, ⟨tnx, htx, vX⟩, kX⟩
                  rw [hn1] at kX
                  replace cR := cR.kp kX nC
                  replace oR := oR.kp kX nO
                  replace kX : Kp noB w w10 := kR.over kX (fun j hj f => absurd hj (by have := HKw.out j f; omega))
                  have kA := Kp.alloc noB w10 (.cells #[.int .i64 (-1), .int .i64 (-1), .int .u32 0] 25)
                  replace vX := vX.kp0 kA
                  replace cR := cR.kp0 kA
                  replace oR := oR.kp kA (fun f => f)
                  replace kX := kX.trans kA
                  clear cL kA kR vR c0 c1 c2 c3 c4
                  obtain ⟨c0, c1, c2, c3, c4⟩ := oR.all
                  go_wp2_with fail
                  go_roundg (4 - (2 + 1))
                  case measure => have := HK.out; omega
                  case rel => exact ⟨2 + 1, tnx, rfl, by decide, Nat.le_refl _, vX, by have := HT.out; omega, cR, oR, kX⟩
                · obtain rfl : i = 3 := hI
                  have hv := HBQ.out.bv 3 (by decide)
                  have hf := HBQ.out.bf 3 (by decide)
                  have hm := HBQ.out.bm 3 (by decide)
                  have eo : off + ((3 : Nat) : Int) = off + 3 := rfl
                  have ev : v / 256 ^ 3 % 256 = v / 16777216 % 256 := rfl
                  rw [eo] at hv hf hm
                  rw [ev] at hv
                  have cL := load_any wr V1 K1 B1 8 tn C M1 vR c cR (by rw [hn1]; exact nC) k (off + 3) 1 (by omega) (by omega) (by omega)
                  rw [hv, hf, hm, Ft.val_is] at cL
                  unfold noFt at cL
                  simp only at cL
                  have w1 : IntKind.u32.wrap (off + 3) = off + 3 := by rw [IntKind.wrap_u32]; omega
                  have w2 : (off + 3) % 4294967296 = off + 3 := by omega
                  have HT : Hid (tn ≤ 4 + 2 * 3) := htn
                  clear hv hf hm eo ev hlt hi4 htn
                  go_wp2_with fail
                  refine cL.mono ?_; rintro e w10 ⟨rfl, ⟨tnx, htx, vX⟩, kX⟩
                  rw [hn1] at kX
                  replace cR := cR.kp kX nC
                  replace oR := oR.kp kX nO
                  replace kX : Kp noB w w10 := kR.over kX (fun j hj f => absurd hj (by have := HKw.out j f; omega))
                  have kA := Kp.alloc noB w10 (.cells #[.int .i64 (-1), .int .i64 (-1), .int .u32 0] 25)
                  replace vX := vX.kp0 kA
                  replace cR := cR.kp0 kA
                  replace oR := oR.kp kA (fun f => f)
                  replace kX := kX.trans kA
                  clear cL kA kR vR c0 c1 c2 c3 c4
                  obtain ⟨c0, c1, c2, c3, c4⟩ := oR.all
                  go_wp2_with fail
                  go_roundg (4 - (3 + 1))
                  case measure => have := HK.out; omega
                  case rel => exact ⟨3 + 1, tnx, rfl, by decide, Nat.le_refl _, vX, by have := HT.out; omega, cR, oR, kX⟩
              · obtain rfl : i = 4 := by omega
                go_wp2
                go_ret
                exact ⟨rfl, kR.every⟩
        · have ho' : 65280 < off := by omega
          clear ho
          go_wp2
          go_ret
          exact ⟨rfl, k8.every⟩
      · have hb' : ((c.seg k).b != 0) = true := by simp [hb]
        go_wp2
        go_ret
        exact ⟨rfl, k8.every⟩
  · have e' : decide (0 ≤ q.ft.vec) = true := decide_eq_true e
    have eM : M1 = q.m := by
      rw [HM1.out]
      unfold Qy.put
      cases hq : q.f with
      | some f => rfl
      | none => exfalso; unfold Qy.ft at e; rw [hq] at e; exact absurd e (by decide)
    have HD0 : Hid (BkD w B1 b0 q.m N ds 0 false { W8 with drawn := W8.drawn + 1 }) := by
      have h0 : BkD w B1 b0 q.m N ds 0 false W8 := ⟨by rw [← eM]; exact v8.ram, hh, k8, fun h => by cases h⟩
      exact h0.kp ((Kp.refl noB W8).drew)
    clear eM hh v8
    go_upto_region 14 with fail
    refine OrdG.region_vals (τ := Nat) (fun t => [.pointer (some ⟨B1 + 3, 0, none⟩), .pointer (some ⟨B1 + 3, 0, none⟩), .int .i64 N, .slice (some ⟨t, 0, none⟩) N N, .string S, .slice (some ⟨b0, 0, none⟩) N N, .string S, .bool true, .bool true]) (fun t listed w' => BkD w B1 b0 q.m N ds t (listed.getD 3 false) w') 0 (by kernel_rfl) (by kernel_rfl) (by kernel_rfl) (by kernel_rfl) (fun _ => rfl) (fun t => by simp only [OrdG.puts, Act.put, List.setIfInBounds_toArray, List.set_cons_zero, List.set_cons_succ]; rfl) (fun _ => by kernel_rfl) HD0.out ?_ ?_
    · refine ⟨?_, ?_, ?_, ?_, ?_, ?_, ?_, ?_, ?_, trivial⟩
      all_goals (intro t listed W' hz hSh hl hI hb KK hK hK0; change BkD w B1 b0 q.m N ds t (listed.getD 3 false) W' at hI)
      · go_simp
        exact hK0 _ (by show BkD w B1 b0 q.m N ds _ (Array.getD _ 3 false) _; rw [getD_set_ne false (by decide)]; exact hI)
      · go_simp
        exact hK0 _ (by show BkD w B1 b0 q.m N ds _ (Array.getD _ 3 false) _; rw [getD_set_ne false (by decide)]; exact hI)
      · have H1 : Hid _ := HLn.out B1 W' hI.r
        go_simp
        refine Calls.mono H1.out ?_; rintro e z5 ⟨rfl, h1⟩
        subst h1
        exact hK0 _ (by show BkD w B1 b0 q.m N ds _ (Array.getD _ 3 false) _; rw [getD_set_ne false (by decide)]; exact hI)
      · have H1 : Hid _ := hI.dump HNb.out.1 HNb.out.2
        clear hI
        go_simp
        refine Calls.mono H1.out ?_; rintro e z5 ⟨rfl, h1⟩
        refine hK _ _ ⟨W'.heap.size, rfl, OrdG.vals_one rfl hl, ?_⟩
        show BkD w B1 b0 q.m N ds _ (Array.getD _ 3 false) _
        rw [OrdG.getD_self hz (by decide)]
        exact h1
      · have y3 := OrdG.on_of (i := 3) hb (by kernel_rfl)
        have s3 : (convert 51 9 (.slice (some ⟨t, 0, none⟩) N N)).run Try.prog W' = .ok (.string S) W' := by
          obtain ⟨cs, h1, h2⟩ := hI.d y3
          exact HCd.out _ _ _ h1 h2
        go_simp
        exact hK0 _ (by show BkD w B1 b0 q.m N ds _ (Array.getD _ 3 false) _; rw [getD_set_ne false (by decide)]; exact hI)
      · go_simp
        exact hK0 _ (by show BkD w B1 b0 q.m N ds _ (Array.getD _ 3 false) _; rw [getD_set_ne false (by decide)]; exact hI)
      · have s3 : (convert 51 9 (.slice (some ⟨b0, 0, none⟩) N N)).run Try.prog W' = .ok (.string S) W' := HCd.out _ _ _ hI.h HDs.out
        go_simp
        exact hK0 _ (by show BkD w B1 b0 q.m N ds _ (Array.getD _ 3 false) _; rw [getD_set_ne false (by decide)]; exact hI)
      · go_simp
        exact hK0 _ (by show BkD w B1 b0 q.m N ds _ (Array.getD _ 3 false) _; rw [getD_set_ne false (by decide)]; exact hI)
      · go_simp
        exact hK0 _ (by show BkD w B1 b0 q.m N ds _ (Array.getD _ 3 false) _; rw [getD_set_ne false (by decide)]; exact hI)
    · intro t listed W' hall hI
      have KZ : Hid (Kp noB w W') := hI.k
      clear hI hall
      go_wp2
      go_ret
      exact ⟨rfl, KZ.out.every⟩
end Go.Proofs.Ytmmnnafjikilpaa
