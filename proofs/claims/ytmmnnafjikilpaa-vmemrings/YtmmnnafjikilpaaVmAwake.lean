/- awake: the calls at the head of all statements on vmem answer as the document fixes. -/
import Derived.Test.YtmmnnafjikilpaaVmAll
import Derived.Test.YtmmnnafjikilpaaVmFlat
import Derived.Test.YtmmnnafjikilpaaPgBoth
namespace Go.Proofs.Ytmmnnafjikilpaa
open Go.ChangeShapes Go.WideShapes Go.ChangeAt Go.RowKit Go.Maps
set_option linter.unusedVariables false
set_option maxRecDepth 20000

def limC : Cp := ⟨fun i => if i = 1 then codS 0 0 else if i = 3 then { datS 0 0 with l := 7 } else datS 0 0, 1, 0⟩
theorem lim_cells {cs : Array Value} (wf : WfC cs) (h : CpC cs (flatP 0 0 1 0)) : CpC (cs.setIfInBounds 40 (.int .u32 7)) limC := by
  refine ⟨fun i hi => ?_, ?_, ?_⟩
  · by_cases e : i = 3
    · subst e
      obtain ⟨b0, b1, b2, b3, b4, b5, b6, b7, b8⟩ := h.sg 3 (by decide)
      have e3 : (cs.setIfInBounds 40 (.int .u32 7))[10 + 3 * 9 + 3]? = some (.int .u32 7) := Array.getElem?_setIfInBounds_self_of_lt (by rw [wf.s]; omega)
      constructor
      case a3 => exact e3
      all_goals rw [Array.getElem?_setIfInBounds_ne (by omega)]; assumption
    · have h2 : limC.seg i = (flatP 0 0 1 0).seg i := by unfold limC flatP; simp only [e, if_false]
      rw [h2]
      exact (h.sg i hi).past (by omega)
  · rw [Array.getElem?_setIfInBounds_ne (by omega)]; exact h.z
  · rw [Array.getElem?_setIfInBounds_ne (by omega)]; exact h.t

theorem datS_ok (s d : Int) : (datS s d).Ok := by
  have := IntKind.wrap_u16 (16 + s)
  unfold datS
  constructor <;> simp only <;> omega
theorem codS_ok (s d : Int) : (codS s d).Ok := by
  have := IntKind.wrap_u16 (8 + s)
  unfold codS
  constructor <;> simp only <;> omega
theorem flatP_ok (s d cr0 cr3 : Int) (h0 : 0 ≤ cr0) (h1 : cr0 < 4294967296) (h2 : 0 ≤ cr3) (h3 : cr3 < 4294967296) : (flatP s d cr0 cr3).Ok := by
  refine ⟨fun i _ => ?_, h0, h1, h2, h3⟩
  unfold flatP
  simp only
  split
  · exact codS_ok _ _
  · exact datS_ok _ _
theorem limC_ok : limC.Ok := by
  refine ⟨fun i _ => ?_, by decide, by decide, by decide, by decide⟩
  unfold limC
  simp only
  split
  · exact codS_ok _ _
  · have := datS_ok 0 0
    split
    · exact ⟨this.s0, this.s1, this.b0, this.b1, by decide, by decide, this.t0, this.t1⟩
    · exact this

def mA : Mem := memOf (fun _ => 0) (fun _ => 0) (fun _ => 0) 0 0
def mB : Mem := (segQ mA limC 3 4 4 true).put 16909060
theorem ft_of {f : Ft} {a b c : Int} (h : f.vec = a ∧ f.code = b ∧ f.cr2 = c) : f.val = .agg #[.int .i64 a, .int .i64 b, .int .u32 c] := by
  obtain ⟨rfl, rfl, rfl⟩ := h; rfl
theorem mA_n : mA.n = 16 ∧ mA.closed = false := memOf_same _ _ _ 0 0
theorem aw1 : (segQ mA limC 3 4 4 true).ft.vec = -1 ∧ (segQ mA limC 3 4 4 true).ft.code = -1 ∧ (segQ mA limC 3 4 4 true).ft.cr2 = 0 := by decide +kernel
theorem mB_n : mB.n = 16 ∧ mB.closed = false := by decide +kernel
theorem aw2 : (segQ mB limC 3 4 4 false).ft.vec = -1 ∧ (segQ mB limC 3 4 4 false).ft.code = -1 ∧ (segQ mB limC 3 4 4 false).ft.cr2 = 0 := by decide +kernel
theorem aw2v : (segQ mB limC 3 4 4 false).val = 16909060 := by decide +kernel
theorem aw3 : (segQ mB limC 3 5 4 false).ft.vec = 13 ∧ (segQ mB limC 3 5 4 false).ft.code = 0 ∧ (segQ mB limC 3 5 4 false).ft.cr2 = 0 := by decide +kernel
theorem aw4 : (segQ mB limC 2 4294967295 2 false).ft.vec = 12 ∧ (segQ mB limC 2 4294967295 2 false).ft.code = 0 ∧ (segQ mB limC 2 4294967295 2 false).ft.cr2 = 0 := by decide +kernel
theorem aw2m : (segQ mB limC 3 4 4 false).m = mB := by
  unfold segQ
  split
  · rfl
  split
  · rfl
  · unfold findQ
    split
    · rfl
    · rename_i h; exact absurd (show limC.pg = false by decide +kernel) h
theorem aw3m : (segQ mB limC 3 5 4 false).m = mB := by
  unfold segQ
  split
  · rfl
  split
  · rfl
  · unfold findQ
    split
    · rfl
    · rename_i h; exact absurd (show limC.pg = false by decide +kernel) h
theorem aw4m : (segQ mB limC 2 4294967295 2 false).m = mB := by
  unfold segQ
  split
  · rfl
  split
  · rfl
  · unfold findQ
    split
    · rfl
    · rename_i h; exact absurd (show limC.pg = false by decide +kernel) h

set_option maxHeartbeats 4000000 in
theorem vmAwake_any (w : World) : Calls Try.prog 8 #[] w fun e w' => e = .returned (.bool true) ∧ Kp noB w w' := by
  obtain ⟨T, n, Z, h⟩ := vlP
  obtain ⟨vl, vs, va, vb⟩ := h.ops
  have g1 := h.agg; have g2 := h.size; have g3 := h.zero
  have cB := both_any w none none 0 0 0 0 (fun _ => 0) (fun _ => 0) (fun _ => 0) (by omega) (by omega) (fun i hi => absurd hi (by omega)) (fun i hi => absurd hi (by omega))
  have e0 : memOf (fun _ => 0) (fun _ => 0) (fun _ => 0) 0 0 = mA := rfl
  rw [e0] at cB
  have HV : Hid (VlP T n Z) := h
  clear e0 h
  go_enter Try.func8, Try.ntmps8
  simp only [vl, vs, va, vb] at *
  go_wp2_with fail
  refine cB.mono ?_; rintro e w1 ⟨B, R, rfl, hb1, hout, k1⟩
  have hr1 := hb1.ram
  have HO : Hid (∀ j, inRam B 16 j → w.heap.size ≤ j) := fun j hj => hout j (.inl hj)
  clear cB hout hb1
  have cN := vNew_ok w1 B 4 (by omega) mA hr1 mA_n.2
  go_wp2_with fail
  refine cN.mono ?_; rintro e w2 ⟨V, rfl, hV, v2, k2⟩
  have HK : Hid (w.heap.size ≤ w1.heap.size) := k1.size
  replace k2 := k1.trans k2
  obtain ⟨K, hK⟩ : ∃ K, K = w1.heap.size := ⟨_, rfl⟩
  rw [← hK] at v2 hV HK
  have HI : Hid (∀ j, modVm K B 16 j → w.heap.size ≤ j) := fun j hj => by
    have := HK.out
    rcases hj with f | f
    · exact HO.out j f
    · rcases f with e | e <;> omega
  clear cN hr1 k1 hK HO HK
  have cL := flat_any w2 0 (by decide) (by decide)
  go_wp2_with fail
  refine cL.mono ?_; rintro e w3 ⟨cs, rfl, wf, hcp, k3⟩
  replace hcp : CpC cs (flatP 0 0 1 0) := hcp
  have v3 := v2.kp0 k3
  replace k3 := k2.trans k3
  clear cL k2 v2
  have hst := HV.out.new wf w3
  have hsz : cs.size = n := by rw [wf.s, HV.out.s]
  have pA := HV.out.at wf w3
  have hc40 : (w3.alloc (.cells cs T)).cell? ⟨w3.heap.size, 40, none⟩ = some (.int .u32 4294967295) := pA.cell (hcp.sg 3 (by decide)).a3
  have hf40 : (w3.alloc (.cells cs T)).frozen? ⟨w3.heap.size, 40, none⟩ = false := pA.fz 40
  have pB := (HV.out.at (wf.set 40 (v := .int .u32 7) rfl) w3).cp (lim_cells wf hcp) limC_ok
  have nC : ¬ modVm K B 16 w3.heap.size := fun f => by
    have := v3.in_lt (j := w3.heap.size) (by rw [mA_n.1]; exact f)
    omega
  have kB := Kp.alloc noB w3 (.cells (cs.setIfInBounds 40 (.int .u32 7)) T)
  have v5 := v3.kp0 kB
  have k5 : Kp noB w _ := k3.trans kB
  go_wp2_with fail
  obtain ⟨C, hC⟩ : ∃ C, C = w3.heap.size := ⟨_, rfl⟩
  obtain ⟨W5, hW5⟩ : ∃ W, W = w3.alloc (.cells (cs.setIfInBounds 40 (.int .u32 7)) T) := ⟨_, rfl⟩
  rw [← hC] at pB nC ⊢
  rw [← hW5] at pB kB v5 k5 ⊢
  clear v3 pA kB hcp k3 hst hc40 hf40 hsz wf hW5 hC
  have cS := store_any W5 V K B 4 0 C mA v5 limC pB (by rw [mA_n.1]; exact nC) 3 4 4 16909060 (by decide) (by decide) (by decide) (by decide) (by decide)
  rw [ft_of aw1] at cS
  replace cS : Calls Try.prog 15 _ W5 (fun e w' => e = _ ∧ VmP W5 V K B 4 0 mB 2 w') := cS
  refine cS.mono ?_; rintro e w6 ⟨rfl, ⟨tn6, ht6, v6⟩, k6⟩
  rw [mB_n.1] at k6
  have pC := pB.kp k6 nC
  replace k6 := k5.over k6 (fun j hj f => by have := HI.out j f; omega)
  have n6 : ¬ modVm K B 16 w6.heap.size := fun f => by have := v6.in_lt (j := w6.heap.size) (by rw [mB_n.1]; exact f); omega
  have kA := Kp.alloc noB w6 (.cells #[.int .i64 (-1), .int .i64 (-1), .int .u32 0] 25)
  have r6 : RowT (w6.alloc (.cells #[.int .i64 (-1), .int .i64 (-1), .int .u32 0] 25)) w6.heap.size ⟨-1, -1, 0⟩ := (MapKept.heap_alloc w6 _).1
  replace v6 := v6.kp0 kA
  replace pC := pC.kp0 kA
  replace k6 := k6.trans kA
  clear cS v5 k5 pB kA
  have cS := load_any (w6.alloc (.cells #[.int .i64 (-1), .int .i64 (-1), .int .u32 0] 25)) V K B 4 tn6 C mB v6 limC pC (by rw [mB_n.1]; exact nC) 3 4 4 (by decide) (by decide) (by omega)
  rw [ft_of aw2, aw2v, aw2m] at cS
  go_wp2_with fail
  refine cS.mono ?_; rintro e w7 ⟨rfl, ⟨tn7, ht7, v7⟩, k7⟩
  rw [mB_n.1] at k7
  have pD := pC.kp k7 nC
  replace r6 := r6.kp k7 n6
  replace k7 := k6.over k7 (fun j hj f => by have := HI.out j f; omega)
  have n7 : ¬ modVm K B 16 w7.heap.size := fun f => by have := v7.in_lt (j := w7.heap.size) (by rw [mB_n.1]; exact f); omega
  have kA := Kp.alloc noB w7 (.cells #[.int .i64 (-1), .int .i64 (-1), .int .u32 0] 25)
  have r7 : RowT (w7.alloc (.cells #[.int .i64 (-1), .int .i64 (-1), .int .u32 0] 25)) w7.heap.size ⟨-1, -1, 0⟩ := (MapKept.heap_alloc w7 _).1
  replace v7 := v7.kp0 kA
  replace pD := pD.kp0 kA
  replace k7 := k7.trans kA
  replace r6 := r6.kp kA (fun f => f)
  clear cS v6 k6 pC kA
  have cS := load_any (w7.alloc (.cells #[.int .i64 (-1), .int .i64 (-1), .int .u32 0] 25)) V K B 4 tn7 C mB v7 limC pD (by rw [mB_n.1]; exact nC) 3 5 4 (by decide) (by decide) (by omega)
  rw [ft_of aw3, aw3m] at cS
  go_wp2_with fail
  refine cS.mono ?_; rintro e w8 ⟨rfl, ⟨tn8, ht8, v8⟩, k8⟩
  rw [mB_n.1] at k8
  have pE := pD.kp k8 nC
  replace r6 := r6.kp k8 n6
  replace r7 := r7.kp k8 n7
  replace k8 := k7.over k8 (fun j hj f => by have := HI.out j f; omega)
  have n8 : ¬ modVm K B 16 w8.heap.size := fun f => by have := v8.in_lt (j := w8.heap.size) (by rw [mB_n.1]; exact f); omega
  have kA := Kp.alloc noB w8 (.cells #[.int .i64 13, .int .i64 0, .int .u32 0] 25)
  have r8 : RowT (w8.alloc (.cells #[.int .i64 13, .int .i64 0, .int .u32 0] 25)) w8.heap.size ⟨13, 0, 0⟩ := (MapKept.heap_alloc w8 _).1
  replace v8 := v8.kp0 kA
  replace pE := pE.kp0 kA
  replace k8 := k8.trans kA
  replace r6 := r6.kp kA (fun f => f)
  replace r7 := r7.kp kA (fun f => f)
  clear cS v7 k7 pD kA
  have cS := load_any (w8.alloc (.cells #[.int .i64 13, .int .i64 0, .int .u32 0] 25)) V K B 4 tn8 C mB v8 limC pE (by rw [mB_n.1]; exact nC) 2 4294967295 2 (by decide) (by decide) (by omega)
  rw [ft_of aw4, aw4m] at cS
  go_wp2_with fail
  refine cS.mono ?_; rintro e w9 ⟨rfl, ⟨tn9, ht9, v9⟩, k9⟩
  rw [mB_n.1] at k9
  replace r6 := r6.kp k9 n6
  replace r7 := r7.kp k9 n7
  replace r8 := r8.kp k9 n8
  replace k9 := k8.over k9 (fun j hj f => by have := HI.out j f; omega)
  clear cS v8 k8 pE v9 n6 n7 n8 nC HI
  have kA := Kp.alloc noB w9 (.cells #[.int .i64 12, .int .i64 0, .int .u32 0] 25)
  have kB := Kp.alloc noB (w9.alloc (.cells #[.int .i64 12, .int .i64 0, .int .u32 0] 25)) (.cells #[.int .i64 (-1), .int .i64 (-1), .int .u32 0] 25)
  replace r6 := (r6.kp kA (fun f => f)).kp kB (fun f => f)
  replace r7 := (r7.kp kA (fun f => f)).kp kB (fun f => f)
  replace r8 := (r8.kp kA (fun f => f)).kp kB (fun f => f)
  replace k9 := (k9.trans kA).trans kB
  have a0 := r6.c0; have a1 := r6.c1; have a2 := r6.c2
  have b0 := r7.c0; have b1 := r7.c1; have b2 := r7.c2
  have c0 := r8.c0; have c1 := r8.c1; have c2 := r8.c2
  simp only at a0 a1 a2 b0 b1 b2 c0 c1 c2
  clear r6 r7 r8 kA kB
  go_wp2_with fail
  go_ret
  exact ⟨rfl, k9⟩
end Go.Proofs.Ytmmnnafjikilpaa
