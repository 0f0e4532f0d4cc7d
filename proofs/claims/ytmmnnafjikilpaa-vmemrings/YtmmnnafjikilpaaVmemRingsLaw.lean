/- The walk of the statement VmemRings: what ring 3 may, the inner rings may. -/
import Derived.Test.YtmmnnafjikilpaaVmRing
import Derived.Test.YtmmnnafjikilpaaPgLaw0
namespace Go.Proofs.Ytmmnnafjikilpaa
open Go.ChangeShapes Go.WideShapes Go.ChangeAt Go.RowKit Go.Maps
set_option linter.unusedVariables false
set_option maxRecDepth 20000

set_option maxHeartbeats 4000000 in
theorem VmemRings_walk (w : World) (x : Option Addr) (L cp : Nat) (f g : Nat → Int) (hL : L ≤ 9223372036854775807) (hw : ∀ i, i < L → WordIn w x f g i) (off : Int) (o0 : 0 ≤ off) (o1 : off < 4294967296) (z : Int) (z0 : -9223372036854775808 ≤ z) (z1 : z ≤ 9223372036854775807) (st wp : Bool) :
    Calls Try.prog 5 #[.slice x L cp, .int .u32 off, .int .i64 z, .bool st, .bool wp] w fun e w' => e = .returned (.bool true) ∧ Below w.heap.size w w' := by
  obtain ⟨T, n, Z, h⟩ := vlP
  obtain ⟨vl, vs, va, vb⟩ := h.ops
  have g1 := h.agg; have g2 := h.size; have g3 := h.zero
  have HV : Hid (VlP T n Z) := h
  obtain ⟨M, hM⟩ : ∃ M, M = memOf f g (fun _ => 0) L 0 := ⟨_, rfl⟩
  have HN : Hid (M.n = 16 ∧ M.closed = false) := by rw [hM]; exact memOf_same _ _ _ _ _
  have HB : Hid (∀ W, Kp noB w W → Calls Try.prog 10 #[.int .i64 16, .slice x L cp, .slice none 0 0] W (BothPost W M)) := fun W k => by
    rw [hM]
    exact both_any W x none L cp 0 0 f g (fun _ => 0) hL (by omega) (fun i hi => (hw i hi).kp k) (fun i hi => absurd hi (by omega))
  clear h hM hw hL
  go_enter Try.func5, Try.ntmps5
  simp only [vl, vs, va, vb] at *
  go_wp2_with fail
  refine (vmAwake_any _).mono ?_; rintro e w1 ⟨rfl, k1⟩
  have cL := flat_any w1 3 (by decide) (by decide)
  go_wp2_with fail
  refine cL.mono ?_; rintro e w2 ⟨cs, rfl, wf, hcp, k2⟩
  replace hcp : CpC cs (flatP 3 3 1 0) := hcp
  replace k2 := k1.trans k2
  clear cL k1
  have hst := HV.out.new wf w2
  have hsz : cs.size = n := by rw [wf.s, HV.out.s]
  have pO := HV.out.at wf w2
  have k3 := k2.trans (Kp.alloc noB w2 (.cells cs T))
  have HOw : Hid (w.heap.size ≤ w2.heap.size) := k2.size
  obtain ⟨Co, hCo⟩ : ∃ C, C = w2.heap.size := ⟨_, rfl⟩
  rw [← hCo] at pO HOw
  have cL := flat_any (w2.alloc (.cells cs T)) 0 (by decide) (by decide)
  go_wp2_with fail
  refine cL.mono ?_; rintro e w3 ⟨ci, rfl, wi, hci, k4⟩
  replace hci : CpC ci (flatP 0 0 1 0) := hci
  replace pO := pO.kp k4 (fun f => f)
  replace k3 := k3.trans k4
  rw [← hCo]
  clear cL k2 k4 hst hsz hCo
  have hst := HV.out.new wi w3
  have hsz : ci.size = n := by rw [wi.s, HV.out.s]
  have pI := HV.out.at wi w3
  have kA := Kp.alloc noB w3 (.cells ci T)
  have HIw : Hid (Co < w3.heap.size) := pO.lt
  replace pO := pO.kp kA (fun f => f)
  replace k3 := k3.trans kA
  go_upto_region 4 with fail
  obtain ⟨Ci, hCi⟩ : ∃ C, C = w3.heap.size := ⟨_, rfl⟩
  obtain ⟨W3, hW3⟩ : ∃ W, W = w3.alloc (.cells ci T) := ⟨_, rfl⟩
  rw [← hCi] at pI HIw
  rw [← hW3] at pO pI k3
  rw [← hW3, ← hCi]
  clear hst hsz kA hW3 hCi
  have HO : Hid (w.heap.size ≤ Co ∧ Co < Ci) := ⟨HOw.out, HIw.out⟩
  have hne : Co ≠ Ci := by have := HIw.out; omega
  have hne' : Ci ≠ Co := by have := HIw.out; omega
  have c1 : W3.cell? ⟨Co, 64, none⟩ = some (.int .u32 1) := pO.cell hcp.z
  have c2 : W3.cell? ⟨Ci, 64, none⟩ = some (.int .u32 1) := pI.cell hci.z
  have c3 : W3.cell? ⟨Co, 66, none⟩ = some (.int .u32 0) := pO.cell hcp.t
  have c4 : W3.cell? ⟨Ci, 66, none⟩ = some (.int .u32 0) := pI.cell hci.t
  have f1 := pO.fz; have f2 := pI.fz
  have hor : bits .or .u32 2147483649 65536 = 2147549185 := by decide
  clear HOw HIw
  cases wp
  · skip
    have p1 := (pO.set 64 (v := .int .u32 2147483649) rfl)
    have kO : ∀ (W : World) (k : Nat) (v : Value), Kp (fun j => j = Co) W (W.setCell ⟨Co, k, none⟩ v) := fun W k v => Kp.setCell (S := fun j => j = Co) W (p := ⟨Co, k, none⟩) rfl v
    have kI : ∀ (W : World) (k : Nat) (v : Value), Kp (fun j => j = Ci) W (W.setCell ⟨Ci, k, none⟩ v) := fun W k v => Kp.setCell (S := fun j => j = Ci) W (p := ⟨Ci, k, none⟩) rfl v
    have hOo : ∀ j, j < w.heap.size → j = Co → noB j := fun j hj e => absurd hj (by have := HO.out; omega)
    have hIi : ∀ j, j < w.heap.size → j = Ci → noB j := fun j hj e => absurd hj (by have := HO.out; omega)
    have cO := ((((pO.set 64 (v := .int .u32 2147483649) rfl).kp (kI _ 64 (.int .u32 2147483649)) hne).set 66 (v := .int .u32 4096) rfl).kp (kI _ 66 (.int .u32 4096)) hne).cp (flat_c66 (b' := 4096) (wf.set 64 (v := .int .u32 2147483649) rfl) (flat_c64 (a' := 2147483649) wf hcp)) (flatP_ok _ _ _ _ (by decide) (by decide) (by decide) (by decide))
    have cI := ((((pI.kp (kO _ 64 (.int .u32 2147483649)) hne').set 64 (v := .int .u32 2147483649) rfl).kp (kO _ 66 (.int .u32 4096)) hne').set 66 (v := .int .u32 4096) rfl).cp (flat_c66 (b' := 4096) (wi.set 64 (v := .int .u32 2147483649) rfl) (flat_c64 (a' := 2147483649) wi hci)) (flatP_ok _ _ _ _ (by decide) (by decide) (by decide) (by decide))
    have k5 : Kp noB w ((((W3.setCell ⟨Co, 64, none⟩ (.int .u32 2147483649)).setCell ⟨Ci, 64, none⟩ (.int .u32 2147483649)).setCell ⟨Co, 66, none⟩ (.int .u32 4096)).setCell ⟨Ci, 66, none⟩ (.int .u32 4096)) := ((((k3.over (kO _ _ _) hOo).over (kI _ _ _) hIi).over (kO _ _ _) hOo).over (kI _ _ _) hIi)
    go_wp2_with fail
    obtain ⟨W5, hW5⟩ : ∃ W, W = ((((W3.setCell ⟨Co, 64, none⟩ (.int .u32 2147483649)).setCell ⟨Ci, 64, none⟩ (.int .u32 2147483649)).setCell ⟨Co, 66, none⟩ (.int .u32 4096)).setCell ⟨Ci, 66, none⟩ (.int .u32 4096)) := ⟨_, rfl⟩
    rw [← hW5]
    rw [← hW5] at cO cI k5
    have HL5 : Hid (Co < W5.heap.size ∧ Ci < W5.heap.size) := ⟨cO.lt, cI.lt⟩
    clear hW5 pO pI c1 c2 c3 c4 f1 f2 p1 k3 hcp hci wf wi hOo hIi kO kI hor hne hne'
    refine Calls.mono (HB.out W5 k5) ?_; rintro e w6 ⟨B1, R1, rfl, hb1, ho1, k6⟩
    have ra := hb1.ram
    replace cO := cO.kp0 k6; replace cI := cI.kp0 k6
    have s5 := k6.size
    replace k6 := k5.trans k6
    clear hb1 k5
    go_wp2_with fail
    refine Calls.mono (HB.out w6 k6) ?_; rintro e w7 ⟨B2, R2, rfl, hb2, ho2, k7⟩
    have rb := hb2.ram
    have ra7 := ra.kp k7 (fun _ _ f => f)
    replace cO := cO.kp0 k7; replace cI := cI.kp0 k7
    have s6 := k7.size
    replace k7 := k6.trans k7
    clear hb2 k6
    go_wp2_with fail
    refine Calls.mono (HB.out w7 k7) ?_; rintro e w8 ⟨B3, R3, rfl, hb3, ho3, k8⟩
    have rd := hb3.ram
    have ra8 := ra7.kp k8 (fun _ _ f => f)
    have rb8 := rb.kp k8 (fun _ _ f => f)
    replace cO := cO.kp0 k8; replace cI := cI.kp0 k8
    have s7 := k8.size
    replace k8 := k7.trans k8
    clear hb3 k7 ra7
    have cN := vNew_ok w8 B1 8 (by omega) M ra8 HN.out.2
    go_wp2_with fail
    refine cN.mono ?_; rintro e w9 ⟨V1, rfl, hV1, v1, k9⟩
    have i1 := inR_of ho1 ra HN.out.1 hV1 v1 rfl
    have rb9 := rb8.kp k9 (fun _ _ f => f)
    have rd9 := rd.kp k9 (fun _ _ f => f)
    replace cO := cO.kp0 k9; replace cI := cI.kp0 k9
    have s8 := k9.size
    replace k9 := k8.trans k9
    clear cN k8 ra8 rb8
    have cN := vNew_ok w9 B2 8 (by omega) M rb9 HN.out.2
    go_wp2_with fail
    refine cN.mono ?_; rintro e w10 ⟨V2, rfl, hV2, v2, k10⟩
    have i2 := inR_of ho2 rb HN.out.1 hV2 v2 rfl
    have rd10 := rd9.kp k10 (fun _ _ f => f)
    replace v1 := v1.kp0 k10
    replace cO := cO.kp0 k10; replace cI := cI.kp0 k10
    have s9 := k10.size
    replace k10 := k9.trans k10
    clear cN k9 rb9 rd9
    have cN := vNew_ok w10 B3 8 (by omega) M rd10 HN.out.2
    go_wp2_with fail
    refine cN.mono ?_; rintro e w11 ⟨V3, rfl, hV3, v3, k11⟩
    have i3 := inR_of ho3 rd HN.out.1 hV3 v3 rfl
    replace v1 := v1.kp0 k11; replace v2 := v2.kp0 k11
    replace cO := cO.kp0 k11; replace cI := cI.kp0 k11
    have s10 := k11.size
    replace k11 := k10.trans k11
    clear cN k10 rd10 ra rb rd
    have HS : Hid (w.heap.size ≤ Co ∧ w.heap.size ≤ Ci ∧ Co < W5.heap.size ∧ Ci < W5.heap.size ∧ W5.heap.size ≤ w6.heap.size ∧ w6.heap.size ≤ w7.heap.size ∧ w7.heap.size ≤ w8.heap.size ∧ w8.heap.size ≤ w9.heap.size ∧ w9.heap.size ≤ w10.heap.size ∧ w10.heap.size ≤ w11.heap.size) := ⟨HO.out.1, by have := HO.out; omega, HL5.out.1, HL5.out.2, s5, s6, s7, s8, s9, s10⟩
    obtain ⟨K1, hK1⟩ : ∃ K, K = w8.heap.size := ⟨_, rfl⟩
    obtain ⟨K2, hK2⟩ : ∃ K, K = w9.heap.size := ⟨_, rfl⟩
    obtain ⟨K3, hK3⟩ : ∃ K, K = w10.heap.size := ⟨_, rfl⟩
    rw [← hK1] at v1 i1 i3 HS; rw [← hK2] at v2 i1 i2 HS; rw [← hK3] at v3 i2 i3 HS
    have HI : Hid (InR V1 K1 B1 W5.heap.size w6.heap.size K1 K2 ∧ InR V2 K2 B2 w6.heap.size w7.heap.size K2 K3 ∧ InR V3 K3 B3 w7.heap.size K1 K3 w11.heap.size) := ⟨i1, i2, i3⟩
    clear hK1 hK2 hK3 s5 s6 s7 s8 s9 s10 i1 i2 i3 ho1 ho2 ho3 hV1 hV2 hV3 HL5 HO
    have HX : Hid (∀ j, (inVm V1 K1 B1 16 j → j ≠ Co ∧ j ≠ Ci ∧ ¬ inVm V2 K2 B2 16 j ∧ ¬ inVm V3 K3 B3 16 j ∧ w.heap.size ≤ j) ∧ (inVm V2 K2 B2 16 j → j ≠ Co ∧ j ≠ Ci ∧ ¬ inVm V3 K3 B3 16 j ∧ w.heap.size ≤ j) ∧ (inVm V3 K3 B3 16 j → j ≠ Co ∧ w.heap.size ≤ j)) := fun j => by
      have a1 := HI.out.1 j; have a2 := HI.out.2.1 j; have a3 := HI.out.2.2 j
      obtain ⟨h1, h2, h3, h4, h5, h6, h7, h8, h9, h10⟩ := HS.out
      refine ⟨fun h => ?_, fun h => ?_, fun h => ?_⟩
      · have b1 := a1 h
        refine ⟨by omega, by omega, fun f => ?_, fun f => ?_, by omega⟩
        · have b2 := a2 f; omega
        · have b3 := a3 f; omega
      · have b2 := a2 h
        refine ⟨by omega, by omega, fun f => ?_, by omega⟩
        have b3 := a3 f; omega
      · have b3 := a3 h
        exact ⟨by omega, by omega⟩
    clear HI HS
    cases st
    · skip
      have HR : Hid (∀ q qi qs : Qy, q = segQ M (flatP 3 3 2147483649 4096) 3 off z false → qi = segQ M (flatP 0 0 2147483649 4096) 3 off z false → qs = sysQ M (flatP 3 3 2147483649 4096) off z false → (0 ≤ q.ft.vec) ∨ (q.ft = noFt ∧ qi = q ∧ qs = q)) := fun q qi qs e1 e2 e3 => by
        rw [e1, e2, e3]
        rcases ft_sign (segQ M (flatP 3 3 2147483649 4096) 3 off z false) (fun f h => segQ_vec h) with ⟨h, e⟩ | h
        · obtain ⟨r1, r2⟩ := rings_fact M false o0 o1 2147483649 (by decide) h
          exact .inr ⟨e, r1, r2⟩
        · exact .inl h
      have cS := load_any w11 V1 K1 B1 8 0 Co M v1 (flatP 3 3 2147483649 4096) cO (fun f => by rw [HN.out.1] at f; exact ((HX.out _).1 (.inr f)).1 rfl) 3 off z o0 o1 (by decide)
      have hn : (segQ M (flatP 3 3 2147483649 4096) 3 off z false).m.n = 16 := by rw [segQ_n]; exact HN.out.1
      obtain ⟨q1, hq1⟩ : ∃ q, q = (segQ M (flatP 3 3 2147483649 4096) 3 off z false) := ⟨_, rfl⟩
      rw [← hq1] at cS hn
      have HQ1 : Hid (q1 = (segQ M (flatP 3 3 2147483649 4096) 3 off z false)) := hq1
      clear hq1
      rw [Ft.val_is] at cS
      go_wp2_with fail
      refine cS.mono ?_; rintro e w12 ⟨rfl, -, k12⟩
      rw [hn] at k12
      have j12 := k12
      replace v2 := v2.kp k12 (fun j hj f => by rw [HN.out.1] at hj; exact ((HX.out j).1 (.inr f)).2.2.1 hj)
      replace v3 := v3.kp k12 (fun j hj f => by rw [HN.out.1] at hj; exact ((HX.out j).1 (.inr f)).2.2.2.1 hj)
      replace cO := cO.kp k12 (fun f => ((HX.out _).1 (.inr f)).1 rfl)
      replace cI := cI.kp k12 (fun f => ((HX.out _).1 (.inr f)).2.1 rfl)
      replace k12 : Kp noB w w12 := k11.over k12 (fun j hj f => absurd hj (by have := (HX.out j).1 (.inr f); omega))
      have n12 : ¬ modVm K2 B2 16 w12.heap.size := fun f => by have := v2.in_lt (j := w12.heap.size) (by rw [HN.out.1]; exact f); omega
      have n13 : ¬ modVm K3 B3 16 w12.heap.size := fun f => by have := v3.in_lt (j := w12.heap.size) (by rw [HN.out.1]; exact f); omega
      have kA := Kp.alloc noB w12 (.cells #[.int .i64 q1.ft.vec, .int .i64 q1.ft.code, .int .u32 q1.ft.cr2] 25)
      have r1 : RowT (w12.alloc (.cells #[.int .i64 q1.ft.vec, .int .i64 q1.ft.code, .int .u32 q1.ft.cr2] 25)) w12.heap.size q1.ft := (MapKept.heap_alloc w12 _).1
      replace v2 := v2.kp0 kA
      replace v3 := v3.kp0 kA
      replace cO := cO.kp0 kA
      replace cI := cI.kp0 kA
      replace k12 := k12.trans kA
      clear cS kA hn j12 k11
      have cS := load_any (w12.alloc (.cells #[.int .i64 q1.ft.vec, .int .i64 q1.ft.code, .int .u32 q1.ft.cr2] 25)) V2 K2 B2 8 0 Ci M v2 (flatP 0 0 2147483649 4096) cI (fun f => by rw [HN.out.1] at f; exact ((HX.out _).2.1 (.inr f)).2.1 rfl) 3 off z o0 o1 (by decide)
      have hn : (segQ M (flatP 0 0 2147483649 4096) 3 off z false).m.n = 16 := by rw [segQ_n]; exact HN.out.1
      obtain ⟨q2, hq2⟩ : ∃ q, q = (segQ M (flatP 0 0 2147483649 4096) 3 off z false) := ⟨_, rfl⟩
      rw [← hq2] at cS hn
      have HQ2 : Hid (q2 = (segQ M (flatP 0 0 2147483649 4096) 3 off z false)) := hq2
      clear hq2
      rw [Ft.val_is] at cS
      go_wp2_with fail
      refine cS.mono ?_; rintro e w13 ⟨rfl, -, k13⟩
      rw [hn] at k13
      have j13 := k13
      replace v3 := v3.kp k13 (fun j hj f => by rw [HN.out.1] at hj; exact ((HX.out j).2.1 (.inr f)).2.2.1 hj)
      replace cO := cO.kp k13 (fun f => ((HX.out _).2.1 (.inr f)).1 rfl)
      replace k13 : Kp noB w w13 := k12.over k13 (fun j hj f => absurd hj (by have := (HX.out j).2.1 (.inr f); omega))
      replace r1 := r1.kp j13 n12
      have n23 : ¬ modVm K3 B3 16 w13.heap.size := fun f => by have := v3.in_lt (j := w13.heap.size) (by rw [HN.out.1]; exact f); omega
      have kA := Kp.alloc noB w13 (.cells #[.int .i64 q2.ft.vec, .int .i64 q2.ft.code, .int .u32 q2.ft.cr2] 25)
      have r2 : RowT (w13.alloc (.cells #[.int .i64 q2.ft.vec, .int .i64 q2.ft.code, .int .u32 q2.ft.cr2] 25)) w13.heap.size q2.ft := (MapKept.heap_alloc w13 _).1
      replace v3 := v3.kp0 kA
      replace cO := cO.kp0 kA
      replace r1 := r1.kp kA (fun f => f)
      replace k13 := k13.trans kA
      clear cS kA hn j13 k12
      have cS := sys_any (w13.alloc (.cells #[.int .i64 q2.ft.vec, .int .i64 q2.ft.code, .int .u32 q2.ft.cr2] 25)) V3 K3 B3 8 0 Co M v3 (flatP 3 3 2147483649 4096) cO (fun f => by rw [HN.out.1] at f; exact ((HX.out _).2.2 (.inr f)).1 rfl) off z o0 o1 (by decide)
      have hn : (sysQ M (flatP 3 3 2147483649 4096) off z false).m.n = 16 := by rw [sysQ_n]; exact HN.out.1
      obtain ⟨q3, hq3⟩ : ∃ q, q = (sysQ M (flatP 3 3 2147483649 4096) off z false) := ⟨_, rfl⟩
      rw [← hq3] at cS hn
      have HQ3 : Hid (q3 = (sysQ M (flatP 3 3 2147483649 4096) off z false)) := hq3
      clear hq3
      rw [Ft.val_is] at cS
      go_wp2_with fail
      refine cS.mono ?_; rintro e w14 ⟨rfl, -, k14⟩
      rw [hn] at k14
      have j14 := k14
      replace k14 : Kp noB w w14 := k13.over k14 (fun j hj f => absurd hj (by have := (HX.out j).2.2 (.inr f); omega))
      replace r1 := r1.kp j14 n13
      replace r2 := r2.kp j14 n23
      have kA := Kp.alloc noB w14 (.cells #[.int .i64 q3.ft.vec, .int .i64 q3.ft.code, .int .u32 q3.ft.cr2] 25)
      have r3 : RowT (w14.alloc (.cells #[.int .i64 q3.ft.vec, .int .i64 q3.ft.code, .int .u32 q3.ft.cr2] 25)) w14.heap.size q3.ft := (MapKept.heap_alloc w14 _).1
      replace r1 := r1.kp kA (fun f => f)
      replace r2 := r2.kp kA (fun f => f)
      replace k14 := k14.trans kA
      clear cS kA hn j14 k13
      have a1 := r1.c0; have a2 := r2.c0; have a3 := r3.c0
      rcases HR.out q1 q2 q3 HQ1.out HQ2.out HQ3.out with h | ⟨h1, h2, h3⟩
      · clear HR
        have h' : decide (0 ≤ q1.ft.vec) = true := decide_eq_true h
        go_wp2
        go_ret
        exact ⟨rfl, k14.every⟩
      · rw [h2, h1] at a2
        rw [h3, h1] at a3
        rw [h1] at a1
        replace a1 : _ = some (Value.int .i64 (-1)) := a1
        replace a2 : _ = some (Value.int .i64 (-1)) := a2
        replace a3 : _ = some (Value.int .i64 (-1)) := a3
        have v3 : decide (q3.ft.vec < 0) = true := by rw [h3, h1]; rfl
        have e2 : q2.val = q1.val := by rw [h2]
        have e3 : q3.val = q1.val := by rw [h3]
        clear HR h1 h2 h3 HQ1 HQ2 HQ3
        go_wp2
        go_ret
        exact ⟨rfl, k14.every⟩
    · skip
      have HR : Hid (∀ q qi qs : Qy, q = segQ M (flatP 3 3 2147483649 4096) 3 off z true → qi = segQ M (flatP 0 0 2147483649 4096) 3 off z true → qs = sysQ M (flatP 3 3 2147483649 4096) off z true → (0 ≤ q.ft.vec) ∨ (q.ft = noFt ∧ qi = q ∧ qs = q)) := fun q qi qs e1 e2 e3 => by
        rw [e1, e2, e3]
        rcases ft_sign (segQ M (flatP 3 3 2147483649 4096) 3 off z true) (fun f h => segQ_vec h) with ⟨h, e⟩ | h
        · obtain ⟨r1, r2⟩ := rings_fact M true o0 o1 2147483649 (by decide) h
          exact .inr ⟨e, r1, r2⟩
        · exact .inl h
      have cS := store_any w11 V1 K1 B1 8 0 Co M v1 (flatP 3 3 2147483649 4096) cO (fun f => by rw [HN.out.1] at f; exact ((HX.out _).1 (.inr f)).1 rfl) 3 off z 5 o0 o1 (by decide) (by decide) (by decide)
      have hn : ((segQ M (flatP 3 3 2147483649 4096) 3 off z true).put 5).n = 16 := by rw [qput_n, segQ_n]; exact HN.out.1
      obtain ⟨q1, hq1⟩ : ∃ q, q = (segQ M (flatP 3 3 2147483649 4096) 3 off z true) := ⟨_, rfl⟩
      rw [← hq1] at cS hn
      have HQ1 : Hid (q1 = (segQ M (flatP 3 3 2147483649 4096) 3 off z true)) := hq1
      clear hq1
      rw [Ft.val_is] at cS
      go_wp2_with fail
      refine cS.mono ?_; rintro e w12 ⟨rfl, -, k12⟩
      rw [hn] at k12
      have j12 := k12
      replace v2 := v2.kp k12 (fun j hj f => by rw [HN.out.1] at hj; exact ((HX.out j).1 (.inr f)).2.2.1 hj)
      replace v3 := v3.kp k12 (fun j hj f => by rw [HN.out.1] at hj; exact ((HX.out j).1 (.inr f)).2.2.2.1 hj)
      replace cO := cO.kp k12 (fun f => ((HX.out _).1 (.inr f)).1 rfl)
      replace cI := cI.kp k12 (fun f => ((HX.out _).1 (.inr f)).2.1 rfl)
      replace k12 : Kp noB w w12 := k11.over k12 (fun j hj f => absurd hj (by have := (HX.out j).1 (.inr f); omega))
      have n12 : ¬ modVm K2 B2 16 w12.heap.size := fun f => by have := v2.in_lt (j := w12.heap.size) (by rw [HN.out.1]; exact f); omega
      have n13 : ¬ modVm K3 B3 16 w12.heap.size := fun f => by have := v3.in_lt (j := w12.heap.size) (by rw [HN.out.1]; exact f); omega
      have kA := Kp.alloc noB w12 (.cells #[.int .i64 q1.ft.vec, .int .i64 q1.ft.code, .int .u32 q1.ft.cr2] 25)
      have r1 : RowT (w12.alloc (.cells #[.int .i64 q1.ft.vec, .int .i64 q1.ft.code, .int .u32 q1.ft.cr2] 25)) w12.heap.size q1.ft := (MapKept.heap_alloc w12 _).1
      replace v2 := v2.kp0 kA
      replace v3 := v3.kp0 kA
      replace cO := cO.kp0 kA
      replace cI := cI.kp0 kA
      replace k12 := k12.trans kA
      clear cS kA hn j12 k11
      have cS := store_any (w12.alloc (.cells #[.int .i64 q1.ft.vec, .int .i64 q1.ft.code, .int .u32 q1.ft.cr2] 25)) V2 K2 B2 8 0 Ci M v2 (flatP 0 0 2147483649 4096) cI (fun f => by rw [HN.out.1] at f; exact ((HX.out _).2.1 (.inr f)).2.1 rfl) 3 off z 5 o0 o1 (by decide) (by decide) (by decide)
      have hn : ((segQ M (flatP 0 0 2147483649 4096) 3 off z true).put 5).n = 16 := by rw [qput_n, segQ_n]; exact HN.out.1
      obtain ⟨q2, hq2⟩ : ∃ q, q = (segQ M (flatP 0 0 2147483649 4096) 3 off z true) := ⟨_, rfl⟩
      rw [← hq2] at cS hn
      have HQ2 : Hid (q2 = (segQ M (flatP 0 0 2147483649 4096) 3 off z true)) := hq2
      clear hq2
      rw [Ft.val_is] at cS
      go_wp2_with fail
      refine cS.mono ?_; rintro e w13 ⟨rfl, -, k13⟩
      rw [hn] at k13
      have j13 := k13
      replace v3 := v3.kp k13 (fun j hj f => by rw [HN.out.1] at hj; exact ((HX.out j).2.1 (.inr f)).2.2.1 hj)
      replace cO := cO.kp k13 (fun f => ((HX.out _).2.1 (.inr f)).1 rfl)
      replace k13 : Kp noB w w13 := k12.over k13 (fun j hj f => absurd hj (by have := (HX.out j).2.1 (.inr f); omega))
      replace r1 := r1.kp j13 n12
      have n23 : ¬ modVm K3 B3 16 w13.heap.size := fun f => by have := v3.in_lt (j := w13.heap.size) (by rw [HN.out.1]; exact f); omega
      have kA := Kp.alloc noB w13 (.cells #[.int .i64 q2.ft.vec, .int .i64 q2.ft.code, .int .u32 q2.ft.cr2] 25)
      have r2 : RowT (w13.alloc (.cells #[.int .i64 q2.ft.vec, .int .i64 q2.ft.code, .int .u32 q2.ft.cr2] 25)) w13.heap.size q2.ft := (MapKept.heap_alloc w13 _).1
      replace v3 := v3.kp0 kA
      replace cO := cO.kp0 kA
      replace r1 := r1.kp kA (fun f => f)
      replace k13 := k13.trans kA
      clear cS kA hn j13 k12
      have cS := setSys_any (w13.alloc (.cells #[.int .i64 q2.ft.vec, .int .i64 q2.ft.code, .int .u32 q2.ft.cr2] 25)) V3 K3 B3 8 0 Co M v3 (flatP 3 3 2147483649 4096) cO (fun f => by rw [HN.out.1] at f; exact ((HX.out _).2.2 (.inr f)).1 rfl) off z 5 o0 o1 (by decide) (by decide) (by decide)
      have hn : ((sysQ M (flatP 3 3 2147483649 4096) off z true).put 5).n = 16 := by rw [qput_n, sysQ_n]; exact HN.out.1
      obtain ⟨q3, hq3⟩ : ∃ q, q = (sysQ M (flatP 3 3 2147483649 4096) off z true) := ⟨_, rfl⟩
      rw [← hq3] at cS hn
      have HQ3 : Hid (q3 = (sysQ M (flatP 3 3 2147483649 4096) off z true)) := hq3
      clear hq3
      rw [Ft.val_is] at cS
      go_wp2_with fail
      refine cS.mono ?_; rintro e w14 ⟨rfl, -, k14⟩
      rw [hn] at k14
      have j14 := k14
      replace k14 : Kp noB w w14 := k13.over k14 (fun j hj f => absurd hj (by have := (HX.out j).2.2 (.inr f); omega))
      replace r1 := r1.kp j14 n13
      replace r2 := r2.kp j14 n23
      have kA := Kp.alloc noB w14 (.cells #[.int .i64 q3.ft.vec, .int .i64 q3.ft.code, .int .u32 q3.ft.cr2] 25)
      have r3 : RowT (w14.alloc (.cells #[.int .i64 q3.ft.vec, .int .i64 q3.ft.code, .int .u32 q3.ft.cr2] 25)) w14.heap.size q3.ft := (MapKept.heap_alloc w14 _).1
      replace r1 := r1.kp kA (fun f => f)
      replace r2 := r2.kp kA (fun f => f)
      replace k14 := k14.trans kA
      clear cS kA hn j14 k13
      have a1 := r1.c0; have a2 := r2.c0; have a3 := r3.c0
      rcases HR.out q1 q2 q3 HQ1.out HQ2.out HQ3.out with h | ⟨h1, h2, h3⟩
      · clear HR
        have h' : decide (0 ≤ q1.ft.vec) = true := decide_eq_true h
        go_wp2
        go_ret
        exact ⟨rfl, k14.every⟩
      · rw [h2, h1] at a2
        rw [h3, h1] at a3
        rw [h1] at a1
        replace a1 : _ = some (Value.int .i64 (-1)) := a1
        replace a2 : _ = some (Value.int .i64 (-1)) := a2
        replace a3 : _ = some (Value.int .i64 (-1)) := a3
        have v3 : decide (q3.ft.vec < 0) = true := by rw [h3, h1]; rfl
        have e2 : q2.val = q1.val := by rw [h2]
        have e3 : q3.val = q1.val := by rw [h3]
        clear HR h1 h2 h3 HQ1 HQ2 HQ3
        go_wp2
        go_ret
        exact ⟨rfl, k14.every⟩
  · skip
    have p1 := (pO.set 64 (v := .int .u32 2147483649) rfl)
    have kO : ∀ (W : World) (k : Nat) (v : Value), Kp (fun j => j = Co) W (W.setCell ⟨Co, k, none⟩ v) := fun W k v => Kp.setCell (S := fun j => j = Co) W (p := ⟨Co, k, none⟩) rfl v
    have kI : ∀ (W : World) (k : Nat) (v : Value), Kp (fun j => j = Ci) W (W.setCell ⟨Ci, k, none⟩ v) := fun W k v => Kp.setCell (S := fun j => j = Ci) W (p := ⟨Ci, k, none⟩) rfl v
    have hOo : ∀ j, j < w.heap.size → j = Co → noB j := fun j hj e => absurd hj (by have := HO.out; omega)
    have hIi : ∀ j, j < w.heap.size → j = Ci → noB j := fun j hj e => absurd hj (by have := HO.out; omega)
    have cO := (((((pO.set 64 (v := .int .u32 2147483649) rfl).kp (kI _ 64 (.int .u32 2147483649)) hne).kp (kI _ 64 (.int .u32 2147549185)) hne).set 66 (v := .int .u32 4096) rfl).kp (kI _ 66 (.int .u32 4096)) hne).cp (flat_c66 (b' := 4096) (wf.set 64 (v := .int .u32 2147483649) rfl) (flat_c64 (a' := 2147483649) wf hcp)) (flatP_ok _ _ _ _ (by decide) (by decide) (by decide) (by decide))
    have cI := (((((pI.kp (kO _ 64 (.int .u32 2147483649)) hne').set 64 (v := .int .u32 2147483649) rfl).set 64 (v := .int .u32 2147549185) rfl).kp (kO _ 66 (.int .u32 4096)) hne').set 66 (v := .int .u32 4096) rfl).cp (flat_c66 (b' := 4096) ((wi.set 64 (v := .int .u32 2147483649) rfl).set 64 (v := .int .u32 2147549185) rfl) (flat_c64 (a' := 2147549185) (wi.set 64 (v := .int .u32 2147483649) rfl) (flat_c64 (a' := 2147483649) wi hci))) (flatP_ok _ _ _ _ (by decide) (by decide) (by decide) (by decide))
    have k5 : Kp noB w (((((W3.setCell ⟨Co, 64, none⟩ (.int .u32 2147483649)).setCell ⟨Ci, 64, none⟩ (.int .u32 2147483649)).setCell ⟨Ci, 64, none⟩ (.int .u32 2147549185)).setCell ⟨Co, 66, none⟩ (.int .u32 4096)).setCell ⟨Ci, 66, none⟩ (.int .u32 4096)) := (((((k3.over (kO _ _ _) hOo).over (kI _ _ _) hIi).over (kI _ _ _) hIi).over (kO _ _ _) hOo).over (kI _ _ _) hIi)
    go_wp2_with fail
    obtain ⟨W5, hW5⟩ : ∃ W, W = (((((W3.setCell ⟨Co, 64, none⟩ (.int .u32 2147483649)).setCell ⟨Ci, 64, none⟩ (.int .u32 2147483649)).setCell ⟨Ci, 64, none⟩ (.int .u32 2147549185)).setCell ⟨Co, 66, none⟩ (.int .u32 4096)).setCell ⟨Ci, 66, none⟩ (.int .u32 4096)) := ⟨_, rfl⟩
    rw [← hW5]
    rw [← hW5] at cO cI k5
    have HL5 : Hid (Co < W5.heap.size ∧ Ci < W5.heap.size) := ⟨cO.lt, cI.lt⟩
    clear hW5 pO pI c1 c2 c3 c4 f1 f2 p1 k3 hcp hci wf wi hOo hIi kO kI hor hne hne'
    refine Calls.mono (HB.out W5 k5) ?_; rintro e w6 ⟨B1, R1, rfl, hb1, ho1, k6⟩
    have ra := hb1.ram
    replace cO := cO.kp0 k6; replace cI := cI.kp0 k6
    have s5 := k6.size
    replace k6 := k5.trans k6
    clear hb1 k5
    go_wp2_with fail
    refine Calls.mono (HB.out w6 k6) ?_; rintro e w7 ⟨B2, R2, rfl, hb2, ho2, k7⟩
    have rb := hb2.ram
    have ra7 := ra.kp k7 (fun _ _ f => f)
    replace cO := cO.kp0 k7; replace cI := cI.kp0 k7
    have s6 := k7.size
    replace k7 := k6.trans k7
    clear hb2 k6
    go_wp2_with fail
    refine Calls.mono (HB.out w7 k7) ?_; rintro e w8 ⟨B3, R3, rfl, hb3, ho3, k8⟩
    have rd := hb3.ram
    have ra8 := ra7.kp k8 (fun _ _ f => f)
    have rb8 := rb.kp k8 (fun _ _ f => f)
    replace cO := cO.kp0 k8; replace cI := cI.kp0 k8
    have s7 := k8.size
    replace k8 := k7.trans k8
    clear hb3 k7 ra7
    have cN := vNew_ok w8 B1 8 (by omega) M ra8 HN.out.2
    go_wp2_with fail
    refine cN.mono ?_; rintro e w9 ⟨V1, rfl, hV1, v1, k9⟩
    have i1 := inR_of ho1 ra HN.out.1 hV1 v1 rfl
    have rb9 := rb8.kp k9 (fun _ _ f => f)
    have rd9 := rd.kp k9 (fun _ _ f => f)
    replace cO := cO.kp0 k9; replace cI := cI.kp0 k9
    have s8 := k9.size
    replace k9 := k8.trans k9
    clear cN k8 ra8 rb8
    have cN := vNew_ok w9 B2 8 (by omega) M rb9 HN.out.2
    go_wp2_with fail
    refine cN.mono ?_; rintro e w10 ⟨V2, rfl, hV2, v2, k10⟩
    have i2 := inR_of ho2 rb HN.out.1 hV2 v2 rfl
    have rd10 := rd9.kp k10 (fun _ _ f => f)
    replace v1 := v1.kp0 k10
    replace cO := cO.kp0 k10; replace cI := cI.kp0 k10
    have s9 := k10.size
    replace k10 := k9.trans k10
    clear cN k9 rb9 rd9
    have cN := vNew_ok w10 B3 8 (by omega) M rd10 HN.out.2
    go_wp2_with fail
    refine cN.mono ?_; rintro e w11 ⟨V3, rfl, hV3, v3, k11⟩
    have i3 := inR_of ho3 rd HN.out.1 hV3 v3 rfl
    replace v1 := v1.kp0 k11; replace v2 := v2.kp0 k11
    replace cO := cO.kp0 k11; replace cI := cI.kp0 k11
    have s10 := k11.size
    replace k11 := k10.trans k11
    clear cN k10 rd10 ra rb rd
    have HS : Hid (w.heap.size ≤ Co ∧ w.heap.size ≤ Ci ∧ Co < W5.heap.size ∧ Ci < W5.heap.size ∧ W5.heap.size ≤ w6.heap.size ∧ w6.heap.size ≤ w7.heap.size ∧ w7.heap.size ≤ w8.heap.size ∧ w8.heap.size ≤ w9.heap.size ∧ w9.heap.size ≤ w10.heap.size ∧ w10.heap.size ≤ w11.heap.size) := ⟨HO.out.1, by have := HO.out; omega, HL5.out.1, HL5.out.2, s5, s6, s7, s8, s9, s10⟩
    obtain ⟨K1, hK1⟩ : ∃ K, K = w8.heap.size := ⟨_, rfl⟩
    obtain ⟨K2, hK2⟩ : ∃ K, K = w9.heap.size := ⟨_, rfl⟩
    obtain ⟨K3, hK3⟩ : ∃ K, K = w10.heap.size := ⟨_, rfl⟩
    rw [← hK1] at v1 i1 i3 HS; rw [← hK2] at v2 i1 i2 HS; rw [← hK3] at v3 i2 i3 HS
    have HI : Hid (InR V1 K1 B1 W5.heap.size w6.heap.size K1 K2 ∧ InR V2 K2 B2 w6.heap.size w7.heap.size K2 K3 ∧ InR V3 K3 B3 w7.heap.size K1 K3 w11.heap.size) := ⟨i1, i2, i3⟩
    clear hK1 hK2 hK3 s5 s6 s7 s8 s9 s10 i1 i2 i3 ho1 ho2 ho3 hV1 hV2 hV3 HL5 HO
    have HX : Hid (∀ j, (inVm V1 K1 B1 16 j → j ≠ Co ∧ j ≠ Ci ∧ ¬ inVm V2 K2 B2 16 j ∧ ¬ inVm V3 K3 B3 16 j ∧ w.heap.size ≤ j) ∧ (inVm V2 K2 B2 16 j → j ≠ Co ∧ j ≠ Ci ∧ ¬ inVm V3 K3 B3 16 j ∧ w.heap.size ≤ j) ∧ (inVm V3 K3 B3 16 j → j ≠ Co ∧ w.heap.size ≤ j)) := fun j => by
      have a1 := HI.out.1 j; have a2 := HI.out.2.1 j; have a3 := HI.out.2.2 j
      obtain ⟨h1, h2, h3, h4, h5, h6, h7, h8, h9, h10⟩ := HS.out
      refine ⟨fun h => ?_, fun h => ?_, fun h => ?_⟩
      · have b1 := a1 h
        refine ⟨by omega, by omega, fun f => ?_, fun f => ?_, by omega⟩
        · have b2 := a2 f; omega
        · have b3 := a3 f; omega
      · have b2 := a2 h
        refine ⟨by omega, by omega, fun f => ?_, by omega⟩
        have b3 := a3 f; omega
      · have b3 := a3 h
        exact ⟨by omega, by omega⟩
    clear HI HS
    cases st
    · skip
      have HR : Hid (∀ q qi qs : Qy, q = segQ M (flatP 3 3 2147483649 4096) 3 off z false → qi = segQ M (flatP 0 0 2147549185 4096) 3 off z false → qs = sysQ M (flatP 3 3 2147483649 4096) off z false → (0 ≤ q.ft.vec) ∨ (q.ft = noFt ∧ qi = q ∧ qs = q)) := fun q qi qs e1 e2 e3 => by
        rw [e1, e2, e3]
        rcases ft_sign (segQ M (flatP 3 3 2147483649 4096) 3 off z false) (fun f h => segQ_vec h) with ⟨h, e⟩ | h
        · obtain ⟨r1, r2⟩ := rings_fact M false o0 o1 2147549185 (by decide) h
          exact .inr ⟨e, r1, r2⟩
        · exact .inl h
      have cS := load_any w11 V1 K1 B1 8 0 Co M v1 (flatP 3 3 2147483649 4096) cO (fun f => by rw [HN.out.1] at f; exact ((HX.out _).1 (.inr f)).1 rfl) 3 off z o0 o1 (by decide)
      have hn : (segQ M (flatP 3 3 2147483649 4096) 3 off z false).m.n = 16 := by rw [segQ_n]; exact HN.out.1
      obtain ⟨q1, hq1⟩ : ∃ q, q = (segQ M (flatP 3 3 2147483649 4096) 3 off z false) := ⟨_, rfl⟩
      rw [← hq1] at cS hn
      have HQ1 : Hid (q1 = (segQ M (flatP 3 3 2147483649 4096) 3 off z false)) := hq1
      clear hq1
      rw [Ft.val_is] at cS
      go_wp2_with fail
      refine cS.mono ?_; rintro e w12 ⟨rfl, -, k12⟩
      rw [hn] at k12
      have j12 := k12
      replace v2 := v2.kp k12 (fun j hj f => by rw [HN.out.1] at hj; exact ((HX.out j).1 (.inr f)).2.2.1 hj)
      replace v3 := v3.kp k12 (fun j hj f => by rw [HN.out.1] at hj; exact ((HX.out j).1 (.inr f)).2.2.2.1 hj)
      replace cO := cO.kp k12 (fun f => ((HX.out _).1 (.inr f)).1 rfl)
      replace cI := cI.kp k12 (fun f => ((HX.out _).1 (.inr f)).2.1 rfl)
      replace k12 : Kp noB w w12 := k11.over k12 (fun j hj f => absurd hj (by have := (HX.out j).1 (.inr f); omega))
      have n12 : ¬ modVm K2 B2 16 w12.heap.size := fun f => by have := v2.in_lt (j := w12.heap.size) (by rw [HN.out.1]; exact f); omega
      have n13 : ¬ modVm K3 B3 16 w12.heap.size := fun f => by have := v3.in_lt (j := w12.heap.size) (by rw [HN.out.1]; exact f); omega
      have kA := Kp.alloc noB w12 (.cells #[.int .i64 q1.ft.vec, .int .i64 q1.ft.code, .int .u32 q1.ft.cr2] 25)
      have r1 : RowT (w12.alloc (.cells #[.int .i64 q1.ft.vec, .int .i64 q1.ft.code, .int .u32 q1.ft.cr2] 25)) w12.heap.size q1.ft := (MapKept.heap_alloc w12 _).1
      replace v2 := v2.kp0 kA
      replace v3 := v3.kp0 kA
      replace cO := cO.kp0 kA
      replace cI := cI.kp0 kA
      replace k12 := k12.trans kA
      clear cS kA hn j12 k11
      have cS := load_any (w12.alloc (.cells #[.int .i64 q1.ft.vec, .int .i64 q1.ft.code, .int .u32 q1.ft.cr2] 25)) V2 K2 B2 8 0 Ci M v2 (flatP 0 0 2147549185 4096) cI (fun f => by rw [HN.out.1] at f; exact ((HX.out _).2.1 (.inr f)).2.1 rfl) 3 off z o0 o1 (by decide)
      have hn : (segQ M (flatP 0 0 2147549185 4096) 3 off z false).m.n = 16 := by rw [segQ_n]; exact HN.out.1
      obtain ⟨q2, hq2⟩ : ∃ q, q = (segQ M (flatP 0 0 2147549185 4096) 3 off z false) := ⟨_, rfl⟩
      rw [← hq2] at cS hn
      have HQ2 : Hid (q2 = (segQ M (flatP 0 0 2147549185 4096) 3 off z false)) := hq2
      clear hq2
      rw [Ft.val_is] at cS
      go_wp2_with fail
      refine cS.mono ?_; rintro e w13 ⟨rfl, -, k13⟩
      rw [hn] at k13
      have j13 := k13
      replace v3 := v3.kp k13 (fun j hj f => by rw [HN.out.1] at hj; exact ((HX.out j).2.1 (.inr f)).2.2.1 hj)
      replace cO := cO.kp k13 (fun f => ((HX.out _).2.1 (.inr f)).1 rfl)
      replace k13 : Kp noB w w13 := k12.over k13 (fun j hj f => absurd hj (by have := (HX.out j).2.1 (.inr f); omega))
      replace r1 := r1.kp j13 n12
      have n23 : ¬ modVm K3 B3 16 w13.heap.size := fun f => by have := v3.in_lt (j := w13.heap.size) (by rw [HN.out.1]; exact f); omega
      have kA := Kp.alloc noB w13 (.cells #[.int .i64 q2.ft.vec, .int .i64 q2.ft.code, .int .u32 q2.ft.cr2] 25)
      have r2 : RowT (w13.alloc (.cells #[.int .i64 q2.ft.vec, .int .i64 q2.ft.code, .int .u32 q2.ft.cr2] 25)) w13.heap.size q2.ft := (MapKept.heap_alloc w13 _).1
      replace v3 := v3.kp0 kA
      replace cO := cO.kp0 kA
      replace r1 := r1.kp kA (fun f => f)
      replace k13 := k13.trans kA
      clear cS kA hn j13 k12
      have cS := sys_any (w13.alloc (.cells #[.int .i64 q2.ft.vec, .int .i64 q2.ft.code, .int .u32 q2.ft.cr2] 25)) V3 K3 B3 8 0 Co M v3 (flatP 3 3 2147483649 4096) cO (fun f => by rw [HN.out.1] at f; exact ((HX.out _).2.2 (.inr f)).1 rfl) off z o0 o1 (by decide)
      have hn : (sysQ M (flatP 3 3 2147483649 4096) off z false).m.n = 16 := by rw [sysQ_n]; exact HN.out.1
      obtain ⟨q3, hq3⟩ : ∃ q, q = (sysQ M (flatP 3 3 2147483649 4096) off z false) := ⟨_, rfl⟩
      rw [← hq3] at cS hn
      have HQ3 : Hid (q3 = (sysQ M (flatP 3 3 2147483649 4096) off z false)) := hq3
      clear hq3
      rw [Ft.val_is] at cS
      go_wp2_with fail
      refine cS.mono ?_; rintro e w14 ⟨rfl, -, k14⟩
      rw [hn] at k14
      have j14 := k14
      replace k14 : Kp noB w w14 := k13.over k14 (fun j hj f => absurd hj (by have := (HX.out j).2.2 (.inr f); omega))
      replace r1 := r1.kp j14 n13
      replace r2 := r2.kp j14 n23
      have kA := Kp.alloc noB w14 (.cells #[.int .i64 q3.ft.vec, .int .i64 q3.ft.code, .int .u32 q3.ft.cr2] 25)
      have r3 : RowT (w14.alloc (.cells #[.int .i64 q3.ft.vec, .int .i64 q3.ft.code, .int .u32 q3.ft.cr2] 25)) w14.heap.size q3.ft := (MapKept.heap_alloc w14 _).1
      replace r1 := r1.kp kA (fun f => f)
      replace r2 := r2.kp kA (fun f => f)
      replace k14 := k14.trans kA
      clear cS kA hn j14 k13
      have a1 := r1.c0; have a2 := r2.c0; have a3 := r3.c0
      rcases HR.out q1 q2 q3 HQ1.out HQ2.out HQ3.out with h | ⟨h1, h2, h3⟩
      · clear HR
        have h' : decide (0 ≤ q1.ft.vec) = true := decide_eq_true h
        go_wp2
        go_ret
        exact ⟨rfl, k14.every⟩
      · rw [h2, h1] at a2
        rw [h3, h1] at a3
        rw [h1] at a1
        replace a1 : _ = some (Value.int .i64 (-1)) := a1
        replace a2 : _ = some (Value.int .i64 (-1)) := a2
        replace a3 : _ = some (Value.int .i64 (-1)) := a3
        have v3 : decide (q3.ft.vec < 0) = true := by rw [h3, h1]; rfl
        have e2 : q2.val = q1.val := by rw [h2]
        have e3 : q3.val = q1.val := by rw [h3]
        clear HR h1 h2 h3 HQ1 HQ2 HQ3
        go_wp2
        go_ret
        exact ⟨rfl, k14.every⟩
    · skip
      have HR : Hid (∀ q qi qs : Qy, q = segQ M (flatP 3 3 2147483649 4096) 3 off z true → qi = segQ M (flatP 0 0 2147549185 4096) 3 off z true → qs = sysQ M (flatP 3 3 2147483649 4096) off z true → (0 ≤ q.ft.vec) ∨ (q.ft = noFt ∧ qi = q ∧ qs = q)) := fun q qi qs e1 e2 e3 => by
        rw [e1, e2, e3]
        rcases ft_sign (segQ M (flatP 3 3 2147483649 4096) 3 off z true) (fun f h => segQ_vec h) with ⟨h, e⟩ | h
        · obtain ⟨r1, r2⟩ := rings_fact M true o0 o1 2147549185 (by decide) h
          exact .inr ⟨e, r1, r2⟩
        · exact .inl h
      have cS := store_any w11 V1 K1 B1 8 0 Co M v1 (flatP 3 3 2147483649 4096) cO (fun f => by rw [HN.out.1] at f; exact ((HX.out _).1 (.inr f)).1 rfl) 3 off z 5 o0 o1 (by decide) (by decide) (by decide)
      have hn : ((segQ M (flatP 3 3 2147483649 4096) 3 off z true).put 5).n = 16 := by rw [qput_n, segQ_n]; exact HN.out.1
      obtain ⟨q1, hq1⟩ : ∃ q, q = (segQ M (flatP 3 3 2147483649 4096) 3 off z true) := ⟨_, rfl⟩
      rw [← hq1] at cS hn
      have HQ1 : Hid (q1 = (segQ M (flatP 3 3 2147483649 4096) 3 off z true)) := hq1
      clear hq1
      rw [Ft.val_is] at cS
      go_wp2_with fail
      refine cS.mono ?_; rintro e w12 ⟨rfl, -, k12⟩
      rw [hn] at k12
      have j12 := k12
      replace v2 := v2.kp k12 (fun j hj f => by rw [HN.out.1] at hj; exact ((HX.out j).1 (.inr f)).2.2.1 hj)
      replace v3 := v3.kp k12 (fun j hj f => by rw [HN.out.1] at hj; exact ((HX.out j).1 (.inr f)).2.2.2.1 hj)
      replace cO := cO.kp k12 (fun f => ((HX.out _).1 (.inr f)).1 rfl)
      replace cI := cI.kp k12 (fun f => ((HX.out _).1 (.inr f)).2.1 rfl)
      replace k12 : Kp noB w w12 := k11.over k12 (fun j hj f => absurd hj (by have := (HX.out j).1 (.inr f); omega))
      have n12 : ¬ modVm K2 B2 16 w12.heap.size := fun f => by have := v2.in_lt (j := w12.heap.size) (by rw [HN.out.1]; exact f); omega
      have n13 : ¬ modVm K3 B3 16 w12.heap.size := fun f => by have := v3.in_lt (j := w12.heap.size) (by rw [HN.out.1]; exact f); omega
      have kA := Kp.alloc noB w12 (.cells #[.int .i64 q1.ft.vec, .int .i64 q1.ft.code, .int .u32 q1.ft.cr2] 25)
      have r1 : RowT (w12.alloc (.cells #[.int .i64 q1.ft.vec, .int .i64 q1.ft.code, .int .u32 q1.ft.cr2] 25)) w12.heap.size q1.ft := (MapKept.heap_alloc w12 _).1
      replace v2 := v2.kp0 kA
      replace v3 := v3.kp0 kA
      replace cO := cO.kp0 kA
      replace cI := cI.kp0 kA
      replace k12 := k12.trans kA
      clear cS kA hn j12 k11
      have cS := store_any (w12.alloc (.cells #[.int .i64 q1.ft.vec, .int .i64 q1.ft.code, .int .u32 q1.ft.cr2] 25)) V2 K2 B2 8 0 Ci M v2 (flatP 0 0 2147549185 4096) cI (fun f => by rw [HN.out.1] at f; exact ((HX.out _).2.1 (.inr f)).2.1 rfl) 3 off z 5 o0 o1 (by decide) (by decide) (by decide)
      have hn : ((segQ M (flatP 0 0 2147549185 4096) 3 off z true).put 5).n = 16 := by rw [qput_n, segQ_n]; exact HN.out.1
      obtain ⟨q2, hq2⟩ : ∃ q, q = (segQ M (flatP 0 0 2147549185 4096) 3 off z true) := ⟨_, rfl⟩
      rw [← hq2] at cS hn
      have HQ2 : Hid (q2 = (segQ M (flatP 0 0 2147549185 4096) 3 off z true)) := hq2
      clear hq2
      rw [Ft.val_is] at cS
      go_wp2_with fail
      refine cS.mono ?_; rintro e w13 ⟨rfl, -, k13⟩
      rw [hn] at k13
      have j13 := k13
      replace v3 := v3.kp k13 (fun j hj f => by rw [HN.out.1] at hj; exact ((HX.out j).2.1 (.inr f)).2.2.1 hj)
      replace cO := cO.kp k13 (fun f => ((HX.out _).2.1 (.inr f)).1 rfl)
      replace k13 : Kp noB w w13 := k12.over k13 (fun j hj f => absurd hj (by have := (HX.out j).2.1 (.inr f); omega))
      replace r1 := r1.kp j13 n12
      have n23 : ¬ modVm K3 B3 16 w13.heap.size := fun f => by have := v3.in_lt (j := w13.heap.size) (by rw [HN.out.1]; exact f); omega
      have kA := Kp.alloc noB w13 (.cells #[.int .i64 q2.ft.vec, .int .i64 q2.ft.code, .int .u32 q2.ft.cr2] 25)
      have r2 : RowT (w13.alloc (.cells #[.int .i64 q2.ft.vec, .int .i64 q2.ft.code, .int .u32 q2.ft.cr2] 25)) w13.heap.size q2.ft := (MapKept.heap_alloc w13 _).1
      replace v3 := v3.kp0 kA
      replace cO := cO.kp0 kA
      replace r1 := r1.kp kA (fun f => f)
      replace k13 := k13.trans kA
      clear cS kA hn j13 k12
      have cS := setSys_any (w13.alloc (.cells #[.int .i64 q2.ft.vec, .int .i64 q2.ft.code, .int .u32 q2.ft.cr2] 25)) V3 K3 B3 8 0 Co M v3 (flatP 3 3 2147483649 4096) cO (fun f => by rw [HN.out.1] at f; exact ((HX.out _).2.2 (.inr f)).1 rfl) off z 5 o0 o1 (by decide) (by decide) (by decide)
      have hn : ((sysQ M (flatP 3 3 2147483649 4096) off z true).put 5).n = 16 := by rw [qput_n, sysQ_n]; exact HN.out.1
      obtain ⟨q3, hq3⟩ : ∃ q, q = (sysQ M (flatP 3 3 2147483649 4096) off z true) := ⟨_, rfl⟩
      rw [← hq3] at cS hn
      have HQ3 : Hid (q3 = (sysQ M (flatP 3 3 2147483649 4096) off z true)) := hq3
      clear hq3
      rw [Ft.val_is] at cS
      go_wp2_with fail
      refine cS.mono ?_; rintro e w14 ⟨rfl, -, k14⟩
      rw [hn] at k14
      have j14 := k14
      replace k14 : Kp noB w w14 := k13.over k14 (fun j hj f => absurd hj (by have := (HX.out j).2.2 (.inr f); omega))
      replace r1 := r1.kp j14 n13
      replace r2 := r2.kp j14 n23
      have kA := Kp.alloc noB w14 (.cells #[.int .i64 q3.ft.vec, .int .i64 q3.ft.code, .int .u32 q3.ft.cr2] 25)
      have r3 : RowT (w14.alloc (.cells #[.int .i64 q3.ft.vec, .int .i64 q3.ft.code, .int .u32 q3.ft.cr2] 25)) w14.heap.size q3.ft := (MapKept.heap_alloc w14 _).1
      replace r1 := r1.kp kA (fun f => f)
      replace r2 := r2.kp kA (fun f => f)
      replace k14 := k14.trans kA
      clear cS kA hn j14 k13
      have a1 := r1.c0; have a2 := r2.c0; have a3 := r3.c0
      rcases HR.out q1 q2 q3 HQ1.out HQ2.out HQ3.out with h | ⟨h1, h2, h3⟩
      · clear HR
        have h' : decide (0 ≤ q1.ft.vec) = true := decide_eq_true h
        go_wp2
        go_ret
        exact ⟨rfl, k14.every⟩
      · rw [h2, h1] at a2
        rw [h3, h1] at a3
        rw [h1] at a1
        replace a1 : _ = some (Value.int .i64 (-1)) := a1
        replace a2 : _ = some (Value.int .i64 (-1)) := a2
        replace a3 : _ = some (Value.int .i64 (-1)) := a3
        have v3 : decide (q3.ft.vec < 0) = true := by rw [h3, h1]; rfl
        have e2 : q2.val = q1.val := by rw [h2]
        have e3 : q3.val = q1.val := by rw [h3]
        clear HR h1 h2 h3 HQ1 HQ2 HQ3
        go_wp2
        go_ret
        exact ⟨rfl, k14.every⟩
end Go.Proofs.Ytmmnnafjikilpaa
