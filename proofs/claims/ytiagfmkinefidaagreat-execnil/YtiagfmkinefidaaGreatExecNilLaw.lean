/- ExecNil: of no environment, or of one that has no memory or no bus, all is refused. -/
import Derived.Test.YtiagfmkinefidaaGreatEx33
import Derived.Test.YtiagfmkinefidaaGreatXeNil
namespace Go.Proofs.YtiagfmkinefidaaGreat.Bs
open Go.ChangeShapes Go.WideShapes Go.ChangeAt Go.RowKit Go.Maps
open Go.Proofs.YtiagfmkinefidaaGreat.Ut (Kp heap_lt heap_kept heap_set heap_new noB isB kpB)
set_option linter.unusedVariables false
set_option maxRecDepth 20000

theorem built_nil {P : Program} {t : TypeId} {z : Array Value} {pl : List (Nat × Nat)} (h : shapeOf P t = some (z, (0, 83) :: (83, 1) :: (84, 1) :: pl)) (hz : 85 ≤ z.size) (cs : Array Value) (hs : cs.size = 83) :
    P.built t [(0, .agg cs)] = some (cs ++ (z.toList.drop 83).toArray) ∧ (∀ p, P.built t [(0, .agg cs), (1, .pointer (some p))] = some (cs ++ ((z.toList.drop 83).set 0 (.pointer (some p))).toArray)) ∧ ∀ p, P.built t [(0, .agg cs), (2, .pointer (some p))] = some (cs ++ ((z.toList.drop 83).set 1 (.pointer (some p))).toArray) := by
  have e : (cs.zipIdx.foldl (fun cs (x : Value × Nat) => cs.setIfInBounds (0 + x.2) x.1) z) = cs ++ (z.toList.drop 83).toArray := by
    apply Array.toList_inj.1
    rw [← Array.foldl_toList, Array.toList_zipIdx, fold_at0 cs.toList 0 z (by simp [hs]; omega)]
    simp [hs]
  have e' : Array.foldl (fun cs x => cs.setIfInBounds x.snd x.fst) z cs.zipIdx 0 83 = cs ++ (z.toList.drop 83).toArray := by simpa [hs] using e
  have h1 : ¬ z.size < 83 := by omega
  have h2 : 84 ≤ 83 + (z.size - 83) := by omega
  have h3 : 85 ≤ 83 + (z.size - 83) := by omega
  refine ⟨?_, fun p => ?_, fun p => ?_⟩
  all_goals (rw [built_of h]; simp [Instr.fill, Value.cells, hs, e', h1, h2, h3])

theorem built_env3 (cs : Array Value) (hs : cs.size = 83) : Tryz.prog.built 53 [(0, .agg cs)] = some (cs ++ #[.pointer none, .pointer none]) ∧ (∀ p, Tryz.prog.built 53 [(0, .agg cs), (1, .pointer (some p))] = some (cs ++ #[.pointer (some p), .pointer none])) ∧ ∀ p, Tryz.prog.built 53 [(0, .agg cs), (2, .pointer (some p))] = some (cs ++ #[.pointer none, .pointer (some p)]) := by
  have h : (shapeOf Tryz.prog 53).map (fun p => (p.1.size, p.1.toList.drop 83, p.2)) = some (85, [.pointer none, .pointer none], [(0, 83), (83, 1), (84, 1)]) := by kernel_rfl
  obtain ⟨⟨z, pl⟩, h1, h2⟩ := Option.map_eq_some_iff.1 h
  simp only [Prod.mk.injEq] at h2
  obtain ⟨hz, hd, rfl⟩ := h2
  have := built_nil h1 (by omega) cs hs
  rw [hd] at this
  exact this

theorem unDrewN {w w' : World} (k : Rm.Kp Rm.noB w.drew w') : Kp noB w w' := rmNo (Rm.unDrew k)
def OcQ (w : World) (q : Nat) (b : Bool) : Prop := if b = true then Rm.OcAt w q ⟨13, 0, 0⟩ (-1) false else Rm.OcAt w q ⟨0, 0, 0⟩ 0 false
theorem OcQ.kp0 {w w' : World} {q : Nat} {b : Bool} (h : OcQ w q b) (k : Kp noB w w') : OcQ w' q b := by
  unfold OcQ at *
  split
  · rename_i e; rw [if_pos e] at h; exact h.kp (noRm k) id
  · rename_i e; rw [if_neg e] at h; exact h.kp (noRm k) id
theorem getD_set_self {listed : Array Bool} {i : Nat} (h : i < listed.size) : (listed.setIfInBounds i true).getD i false = true := by
  simp [Array.getD, h]

set_option maxHeartbeats 8000000 in
theorem ExecNil_walk (w : World) (cs : Array Value) (wf : Rm.WfC cs) (sel : Int) : Calls Tryz.prog 4 #[.agg cs, .int .u16 sel] w fun e w' => e = .returned (.bool true) ∧ Below w.heap.size w w' := by
  obtain ⟨T, nn, Z, hV⟩ := Rm.vlP
  obtain ⟨vl, vs, va, vb⟩ := hV.ops
  have g1 := hV.agg; have g2 := hV.size; have g3 := hV.zero
  have g6 : cs.size = nn := by rw [wf.s, hV.s]
  have rX0 : Rm.PAt (w.alloc (.cells cs T)) w.heap.size cs := hV.at wf w
  have cA := Rm.awake17 (w.alloc (.cells cs T))
  have k0 : Kp noB w (w.alloc (.cells cs T)) := Kp.alloc _ _ _
  obtain ⟨X, hX⟩ : ∃ X, X = w.heap.size := ⟨_, rfl⟩
  obtain ⟨W0, hW0⟩ : ∃ W, W = w.alloc (.cells cs T) := ⟨_, rfl⟩
  rw [← hX, ← hW0] at rX0
  rw [← hW0] at cA k0
  obtain ⟨T2, n2, Z2, fs2, ps2, hF⟩ := Dc.vlF
  obtain ⟨ul, us, ub, ua, ue⟩ := hF.ops
  have e1 := hF.agg; have e2 := hF.size; have e3 := hF.zero
  obtain ⟨I, hI⟩ : ∃ I, I = Dc.insV { Dc.Ins.zero with op := 41, size := 4, len := 1 } := ⟨_, rfl⟩
  have hIs : I.size = n2 := by rw [hI]; exact hF.v.cells _
  have hb : Hid (∀ W, (Instr.build 40 #[(0, .int .i64 41), (2, .int .i64 4), (7, .int .i64 1)]).run Tryz.prog W = .ok (.agg I) W) := fun W => by rw [hI]; exact run_build W _ _ _ (by kernel_rfl)
  have hN : ∀ W : World, (storeCells ⟨W.heap.size, 0, none⟩ I.toList).run Tryz.prog (W.alloc (.cells Z2 T2)) = .ok () (W.alloc (.cells I T2)) := fun W => by rw [hI]; exact hF.new _ W
  have HG2 : Hid (∀ (W : World) (q : Nat), W.heap[q]? = some (.cells I T2 (0, 0)) → (loadCellsFrom ⟨q, 0, none⟩ 0 n2 #[]).run Tryz.prog W = .ok I W) := fun W q h => by rw [hI] at h ⊢; exact hF.get h
  have HI : Hid (I = Dc.insV { Dc.Ins.zero with op := 41, size := 4, len := 1 }) := hI
  have HV : Hid _ := hV
  have HWF : Hid (Rm.WfC cs) := wf
  clear hV wf hF hI
  go_enter Tryz.func4, Tryz.ntmps4
  simp only [vl, vb, ul, us, ua]
  go_wp2_with fail
  rw [← hW0, ← hX]
  refine Calls.mono cA ?_; rintro e w1 ⟨rfl, k1⟩
  have k1' := rmNo k1
  have rX1 : Rm.PAt w1 X cs := rX0.kp k1 id
  have HK1 : Hid (Kp noB w w1) := k0.trans k1'
  clear hW0 hX cA k0 k1 k1' rX0
  go_upto_region 5 with fail
  obtain ⟨Y, hY⟩ : ∃ Y, Y = w1.heap.size := ⟨_, rfl⟩
  obtain ⟨W2, hW2⟩ : ∃ W, W = w1.alloc (.cells #[.int .i64 13, .int .i64 0, .int .u32 0] 36) := ⟨_, rfl⟩
  have rY2 : Rm.RowT W2 Y ⟨13, 0, 0⟩ := by rw [hW2, hY]; exact (MapKept.heap_alloc w1 _).1
  have k2 : Kp noB w1 W2 := by rw [hW2]; exact Kp.alloc _ _ _
  have s2 : w1.heap.size + 1 = W2.heap.size := by rw [hW2, World.size_alloc]
  have HK2 : Hid (Kp noB w W2) := HK1.out.trans k2
  have rX2 := rX1.kp (noRm k2) id
  have hN2 := hN W2
  rw [← hW2, ← hY]
  obtain ⟨Q, hQ⟩ : ∃ Q, Q = W2.heap.size := ⟨_, rfl⟩
  obtain ⟨W3, hW3⟩ : ∃ W, W = W2.alloc (.cells I T2) := ⟨_, rfl⟩
  have rI3 : W3.heap[Q]? = some (.cells I T2 (0, 0)) := by rw [hW3, hQ]; exact (MapKept.heap_alloc W2 _).1
  have k3 : Kp noB W2 W3 := by rw [hW3]; exact Kp.alloc _ _ _
  have HK3 : Hid (Kp noB w W3) := HK2.out.trans k3
  have rX3 := rX2.kp (noRm k3) id
  have rY3 := rY2.kp (noRm k3) id
  rw [← hQ, ← hW3] at hN2
  clear hW2 hY s2 rX1 rX2 rY2 k2 k3 hN
  refine wp_region_list ?_
  rw [wpList, if_pos (by kernel_rfl)]
  left
  refine OrdFree.wp_of_run (run_of_build (ps := #[(0, .int .i64 41), (2, .int .i64 4), (7, .int .i64 1)]) rfl (by kernel_rfl) (hb.out _)) ?_
  have HM : Hid _ := Rm.new_ok W3 1 (by decide) (by decide)
  have hQ' : W2.heap.size = Q := hQ.symm
  clear hQ hW3
  go_wp2_with fail
  refine Calls.mono HM.out ?_; rintro e w4 ⟨rfl, m4, z4, b4⟩
  obtain ⟨M, hM⟩ : ∃ M, M = W3.heap.size := ⟨_, rfl⟩
  rw [← hM] at m4
  have ml : M + 4 + 1 ≤ w4.heap.size := m4.lt
  have s4 : Sys w4 (Rm.inRam M 1) (ramRs M (Rm.mem0 1)) := ⟨fun _ => 6, fun j => by
    by_cases q : j = 6
    · subst q
      exact ⟨Rm.inRam M 1, ⟨m4, fun k g => g⟩, fun k g => ⟨rfl, g, by have : k < M + 4 + 1 := g.2; omega⟩⟩
    · exact ⟨noB, by unfold ramRs; rw [if_neg q]; trivial, fun _ f => f.elim⟩⟩
  have P4 : Hid (Hs W3 w4 (two (sysR (ramRs M (Rm.mem0 1))) .none)) := by
    rw [← none_0]
    exact (Hs.none W3).new rfl s4 (fun k g => ⟨by have : M ≤ k := g.1; omega, by have : k < M + 4 + 1 := g.2; omega⟩) (kBelow b4)
  rw [← hM]
  clear m4 z4 b4 ml s4 HM hM
  go_wp2_with fail
  refine Calls.mono (vNew17 w4 M 1 (by decide)) ?_; rintro e w5 ⟨V, rfl, t1, t2, t3, t4, kv⟩
  have P5 : Hid _ := P4.out.keep kv
  clear t1 t2 t3 t4 P4 kv
  have HC : Hid (Calls Tryz.prog 12 #[.pointer (some ⟨M + 3, 0, none⟩), .slice none 0 0] w5 fun e w' => ∃ B, e = .returned (.tuple #[.pointer (some ⟨B, 0, none⟩), .int .i64 0]) ∧ Kp noB W3 w') := by
    refine (P5.out.call (E := fun e w' r' => ∃ L : Loc, e = .returned (.tuple #[.pointer (some ⟨L.B, 0, none⟩), .int .i64 0])) 0 (fun T a => ?_)).mono ?_
    · refine (new_ok w5 T M (Rm.mem0 1) a none 0 0 (fun _ => 0) (fun j h => absurd h (by omega)) (fun j h => absurd h (by omega)) (by decide) (by decide)).mono ?_
      rintro e w' ⟨B, q, L, S', c1, c2, c3, c4⟩
      subst c1
      exact ⟨busR L ((bm0 (0 / 512) (Dk.dB 0 fun _ => 0) (memO (Rm.mem0 1))).tell), fun k => S' k ∧ k < w'.heap.size, ⟨L, q⟩, Sys.lt c3, ⟨fun k g => c4.sub k g.1, c4.kp⟩, fun k g => g.2⟩
    · rintro e w' ⟨r', ⟨L, q⟩, z⟩
      exact ⟨L.B, q, z.kp⟩
  clear P5
  go_wp2_with fail
  refine Calls.mono HC.out ?_; rintro e w6 ⟨B, rfl, k6⟩
  have HK6 : Hid (Kp noB w w6) := HK3.out.trans k6
  have rX6 := rX3.kp (noRm k6) id
  have rY6 := rY3.kp (noRm k6) id
  have rI6 := (k6.block Q (Array.getElem?_eq_some_iff.1 rI3).1 id).trans rI3
  clear HC k6 rX3 rY3 rI3 hN2 hQ'
  have HLd : Hid (∀ W, Kp noB w6 W → (loadCellsFrom ⟨X, 0, none⟩ 0 nn #[]).run Tryz.prog W = .ok cs W) := fun W k => HV.out.get (rX6.kp (noRm k) id)
  obtain ⟨q1, q2, q3⟩ := built_env3 cs HWF.out.s
  have HB1 : Hid _ := q1
  have HB2 : Hid _ := q2 ⟨V, 0, none⟩
  have HB3 : Hid _ := q3 ⟨B, 0, none⟩
  clear q1 q2 q3
  go_upto_region 9 with fail
  refine wp_region_list ?_
  have hld := HLd.out w6 (Kp.refl _ _)
  rw [wpList, if_pos (by kernel_rfl)]
  left
  go_simp
  clear hld
  rw [wpList, if_pos (by kernel_rfl)]
  left
  refine OrdFree.wp_of_run (run_of_build (ps := #[(0, .agg cs)]) rfl (by kernel_rfl) (run_build _ _ _ _ HB1.out)) ?_
  rw [wpList, if_pos (by kernel_rfl)]
  left
  refine OrdFree.wp_of_run (v := .pointer (some ⟨w6.heap.size, 0, none⟩)) (w' := w6.alloc (.cells (cs ++ #[.pointer none, .pointer none]) 53)) (by kernel_rfl) ?_
  obtain ⟨E1, hE1⟩ : ∃ E, E = w6.heap.size := ⟨_, rfl⟩
  obtain ⟨v1, hv1⟩ : ∃ W, W = w6.alloc (.cells (cs ++ #[.pointer none, .pointer none]) 53) := ⟨_, rfl⟩
  have r1 : Rm.EAt v1 E1 cs (.pointer none) (.pointer none) := ⟨by rw [hv1, hE1]; exact (MapKept.heap_alloc w6 _).1, HWF.out⟩
  have i1 : Kp noB w6 v1 := by rw [hv1]; exact Kp.alloc _ _ _
  have j1 : Kp noB w6 v1 := i1
  rw [← hE1, ← hv1]
  clear hE1 hv1
  have hld := HLd.out v1 (j1)
  rw [wpList, if_pos (by kernel_rfl)]
  left
  go_simp
  clear hld
  rw [wpList, if_pos (by kernel_rfl)]
  left
  go_simp
  rw [wpList, if_pos (by kernel_rfl)]
  left
  refine OrdFree.wp_of_run (run_of_build (ps := #[(0, .agg cs), (1, .pointer (some ⟨V, 0, none⟩))]) rfl (by kernel_rfl) (run_build _ _ _ _ HB2.out)) ?_
  rw [wpList, if_pos (by kernel_rfl)]
  left
  refine OrdFree.wp_of_run (v := .pointer (some ⟨v1.heap.size, 0, none⟩)) (w' := v1.alloc (.cells (cs ++ #[.pointer (some ⟨V, 0, none⟩), .pointer none]) 53)) (by kernel_rfl) ?_
  obtain ⟨E2, hE2⟩ : ∃ E, E = v1.heap.size := ⟨_, rfl⟩
  obtain ⟨v2, hv2⟩ : ∃ W, W = v1.alloc (.cells (cs ++ #[.pointer (some ⟨V, 0, none⟩), .pointer none]) 53) := ⟨_, rfl⟩
  have r2 : Rm.EAt v2 E2 cs (.pointer (some ⟨V, 0, none⟩)) (.pointer none) := ⟨by rw [hv2, hE2]; exact (MapKept.heap_alloc v1 _).1, HWF.out⟩
  have i2 : Kp noB v1 v2 := by rw [hv2]; exact Kp.alloc _ _ _
  have j2 : Kp noB w6 v2 := j1.trans i2
  rw [← hE2, ← hv2]
  clear hE2 hv2
  have hld := HLd.out v2 (j2)
  rw [wpList, if_pos (by kernel_rfl)]
  left
  go_simp
  clear hld
  rw [wpList, if_pos (by kernel_rfl)]
  left
  go_simp
  rw [wpList, if_pos (by kernel_rfl)]
  left
  refine OrdFree.wp_of_run (run_of_build (ps := #[(0, .agg cs), (2, .pointer (some ⟨B, 0, none⟩))]) rfl (by kernel_rfl) (run_build _ _ _ _ HB3.out)) ?_
  rw [wpList, if_pos (by kernel_rfl)]
  left
  refine OrdFree.wp_of_run (v := .pointer (some ⟨v2.heap.size, 0, none⟩)) (w' := v2.alloc (.cells (cs ++ #[.pointer none, .pointer (some ⟨B, 0, none⟩)]) 53)) (by kernel_rfl) ?_
  obtain ⟨E3, hE3⟩ : ∃ E, E = v2.heap.size := ⟨_, rfl⟩
  obtain ⟨v3, hv3⟩ : ∃ W, W = v2.alloc (.cells (cs ++ #[.pointer none, .pointer (some ⟨B, 0, none⟩)]) 53) := ⟨_, rfl⟩
  have r3 : Rm.EAt v3 E3 cs (.pointer none) (.pointer (some ⟨B, 0, none⟩)) := ⟨by rw [hv3, hE3]; exact (MapKept.heap_alloc v2 _).1, HWF.out⟩
  have i3 : Kp noB v2 v3 := by rw [hv3]; exact Kp.alloc _ _ _
  have j3 : Kp noB w6 v3 := j2.trans i3
  rw [← hE3, ← hv3]
  clear hE3 hv3
  have r1' := (r1.kp0 (noRm i2)).kp0 (noRm i3)
  have r2' := r2.kp0 (noRm i3)
  have rY7 := rY6.kp (noRm j3) id
  have rI7 := (j3.block Q (Array.getElem?_eq_some_iff.1 rI6).1 id).trans rI6
  have HK7 : Hid (Kp noB w v3) := HK6.out.trans j3
  clear r1 r2 i1 i2 i3 j1 j2 j3 rX6 rY6 rI6 HLd
  rw [wpList, if_pos (by kernel_rfl)]
  left
  go_simp
  obtain ⟨G, hG⟩ : ∃ G, G = v3.heap.size := ⟨_, rfl⟩
  obtain ⟨W8, hW8⟩ : ∃ W, W = v3.alloc (.cells #[.pointer none, .pointer (some ⟨E1, 0, none⟩), .pointer (some ⟨E2, 0, none⟩), .pointer (some ⟨E3, 0, none⟩)] 51) := ⟨_, rfl⟩
  have rG : W8.heap[G]? = some (.cells #[.pointer none, .pointer (some ⟨E1, 0, none⟩), .pointer (some ⟨E2, 0, none⟩), .pointer (some ⟨E3, 0, none⟩)] 51 (0, 0)) := by rw [hW8, hG]; exact (MapKept.heap_alloc v3 _).1
  have k8 : Kp noB v3 W8 := by rw [hW8]; exact Kp.alloc _ _ _
  have HK8 : Hid (Kp noB w W8) := HK7.out.trans k8
  have HF : Hid (∀ W, Kp noB W8 W → Rm.RowT W Y ⟨13, 0, 0⟩ ∧ W.heap[Q]? = some (.cells I T2 (0, 0)) ∧ W.heap[G]? = some (.cells #[.pointer none, .pointer (some ⟨E1, 0, none⟩), .pointer (some ⟨E2, 0, none⟩), .pointer (some ⟨E3, 0, none⟩)] 51 (0, 0))) := fun W k => ⟨(rY7.kp (noRm k8) id).kp (noRm k) id, ((k8.trans k).block Q (Array.getElem?_eq_some_iff.1 rI7).1 id).trans rI7, (k.block G (Array.getElem?_eq_some_iff.1 rG).1 id).trans rG⟩
  have HL0 : Hid (∀ W, Kp noB W8 W → Rm.Lacks W none) := fun W k W' _ => Rm.nlacks_nil W'
  have HL1 : Hid (∀ W, Kp noB W8 W → Rm.Lacks W (some ⟨E1, 0, none⟩)) := fun W k W' k' => Rm.nlacks_mem W' E1 cs _ (((r1'.kp0 (noRm k8)).kp0 (noRm k)).kp0 k')
  have HL2 : Hid (∀ W, Kp noB W8 W → Rm.Lacks W (some ⟨E2, 0, none⟩)) := fun W k W' k' => Rm.nlacks_bus W' E2 V cs (((r2'.kp0 (noRm k8)).kp0 (noRm k)).kp0 k')
  have HL3 : Hid (∀ W, Kp noB W8 W → Rm.Lacks W (some ⟨E3, 0, none⟩)) := fun W k W' k' => Rm.nlacks_mem W' E3 cs _ (((r3.kp0 (noRm k8)).kp0 (noRm k)).kp0 k')
  rw [← hG, ← hW8]
  clear hG hW8 k8 r1' r2' r3 rY7 rI7 HK7 rG
  rw [wpList, if_pos (by kernel_rfl)]
  left
  go_simp
  go_wp2_with fail
  have HST : Hid (Kp noB W8 W8) := Kp.refl noB W8
  refine wp_loop_rounds 5 ?_
  rw [rounds_succ]
  go_upto_region 13 with fail
  refine OrdFree.region_vals (τ := Nat) (fun t => [.slice (some ⟨G, 0, none⟩) 4 4, .int .i64 0, .pointer (some ⟨G, 0, none⟩), .pointer none, .agg I, .agg #[.int .i64 13, .int .i64 0, .int .u32 0, .int .i64 (-1), .bool false], .pointer (some ⟨t, 0, none⟩), undef]) (fun t listed W => Kp noB W8 W ∧ (listed.getD 6 false = true → W8.heap.size ≤ t ∧ OcQ W t (listed.getD 7 false))) 0 (by kernel_rfl) (by kernel_rfl) (by kernel_rfl) (by kernel_rfl) (fun _ => rfl) (fun t => by simp only [OrdFree.puts, Act.put, List.setIfInBounds_toArray, List.set_cons_zero, List.set_cons_succ]; rfl) ⟨HST.out.drew, fun f => by cases f⟩ ?_ ?_
  · refine ⟨?_, ?_, ?_, ?_, ?_, ?_, ?_, ?_, trivial⟩
    all_goals (intro t listed W hz hSh hl hI hb K hK hK0; obtain ⟨kk, hrow⟩ := hI; obtain ⟨hfy, hfq, hfg⟩ := HF.out W kk; have hld := HG2.out W Q hfq; have hcg : W.cell? ⟨G, 0, none⟩ = some (.pointer none) := by rw [Rm.cell_at hfg]; rfl)
    · go_simp
      exact hK0 W ⟨kk, by rw [getD_set_ne false (by decide), getD_set_ne false (by decide)]; exact hrow⟩
    · go_simp
      exact hK0 W ⟨kk, by rw [getD_set_ne false (by decide), getD_set_ne false (by decide)]; exact hrow⟩
    · go_simp
      exact hK0 W ⟨kk, by rw [getD_set_ne false (by decide), getD_set_ne false (by decide)]; exact hrow⟩
    · go_simp
      exact hK0 W ⟨kk, by rw [getD_set_ne false (by decide), getD_set_ne false (by decide)]; exact hrow⟩
    · go_simp
      exact hK0 W ⟨kk, by rw [getD_set_ne false (by decide), getD_set_ne false (by decide)]; exact hrow⟩
    · have hd := Rm.do_lacks W none (HL0.out W kk) { Dc.Ins.zero with op := 41, size := 4, len := 1 }
      rw [← HI.out] at hd
      go_simp
      refine Calls.mono hd ?_; rintro e w' ⟨rfl, k⟩
      exact hK0 w' ⟨kk.trans (rmNo k), by rw [getD_set_ne false (by decide), getD_set_ne false (by decide)]; exact fun h => ⟨(hrow h).1, (hrow h).2.kp0 (rmNo k)⟩⟩
    · have n7 := OrdFree.shut_no (j := 7) hSh hl (by kernel_rfl)
      exact OrdFree.wp_of_run (v := .pointer (some ⟨W.heap.size, 0, none⟩)) (w' := W.alloc (.cells #[.int .i64 0, .int .i64 0, .int .u32 0, .int .i64 0, .bool false] 56)) (by kernel_rfl) (hK _ _ ⟨W.heap.size, rfl, OrdFree.vals_two (i := 6) (k := 6) (u := .pointer (some ⟨W.heap.size, 0, none⟩)) (v := .pointer (some ⟨W.heap.size, 0, none⟩)) rfl hl hl, kk.trans (Kp.alloc _ _ _), fun _ => ⟨kk.size, by rw [getD_set_ne false (by decide), n7]; exact (MapKept.heap_alloc W _).1⟩⟩)
    · have h6 := hb { on := 6, ground := .data } (by simp) rfl
      obtain ⟨hlt, hoc⟩ := hrow h6
      rw [hl] at hoc
      obtain ⟨u0, u1, u2, u3, u4⟩ := Rm.OcAt.c hoc
      have z0 := Rm.OcAt.fz hoc 0; have z1 := Rm.OcAt.fz hoc 1; have z2 := Rm.OcAt.fz hoc 2; have z3 := Rm.OcAt.fz hoc 3; have z4 := Rm.OcAt.fz hoc 4
      have oZ := Rm.OcAt.set hoc ⟨13, 0, 0⟩ (-1) false
      have kZ := Rm.kp_setOc W t ⟨13, 0, 0⟩ (-1) false
      have kQ : Kp noB W8 (Rm.setOc W t ⟨13, 0, 0⟩ (-1) false) := ⟨kZ.os.trans kk.os, kZ.tape.trans kk.tape, kZ.output.trans kk.output, Nat.le_trans kk.size kZ.size, fun i hi hs => (kZ.block i (Nat.lt_of_lt_of_le hi kk.size) (by show ¬ i = t; omega)).trans (kk.block i hi hs)⟩
      have HX : Hid _ := And.intro kQ (And.intro hlt oZ)
      clear kQ oZ kZ hoc
      simp only [Rm.setOc] at HX
      go_simp
      exact hK0 _ ⟨HX.out.1, fun _ => ⟨HX.out.2.1, by rw [getD_set_self (by rw [hz]; exact (by decide : 7 < 8))]; exact HX.out.2.2⟩⟩
  rename_i Kx hKx
  rintro t listed W9 hal ⟨k9, hrow⟩
  obtain ⟨hlt, hoc⟩ := hrow (hal 6 (by exact (by decide : 6 < 8)))
  rw [hal 7 (by exact (by decide : 7 < 8))] at hoc
  refine hKx _ _ ?_
  have o9 : Rm.OcAt W9 t ⟨13, 0, 0⟩ (-1) false := by unfold OcQ at hoc; rw [if_pos rfl] at hoc; exact hoc
  obtain ⟨hfy, hfq, hfg⟩ := HF.out W9 k9
  have hcg : W9.cell? ⟨G, 0, none⟩ = some (.pointer none) := by rw [Rm.cell_at hfg]; rfl
  clear hoc hrow hal hfy hfq hfg hlt
  go_wp2_with fail
  refine Calls.mono (Rm.find_lacks W9 none (HL0.out W9 k9) sel) ?_; rintro e w10 ⟨rfl, k10⟩
  rename_i Ka hKa
  refine hKa _ _ ?_
  clear hcg
  unfold Rm.dsZ
  rw [wpList, if_pos (by kernel_rfl)]
  left
  go_simp
  rw [wpList, if_pos (by kernel_rfl)]
  left
  go_simp
  rw [wpList, if_pos (by kernel_rfl)]
  left
  go_simp
  rw [wpList, if_pos (by kernel_rfl)]
  left
  go_simp
  obtain ⟨D, hD⟩ : ∃ D, D = w10.heap.size := ⟨_, rfl⟩
  obtain ⟨W11, hW11⟩ : ∃ W, W = w10.alloc (.cells #[.int .u32 0, .int .u32 0, .int .i64 0, .bool false, .int .i64 0, .bool false, .bool false] 27) := ⟨_, rfl⟩
  have d11 : Rm.DsAt W11 D := by rw [hW11, hD]; exact (MapKept.heap_alloc w10 _).1
  have k11 : Kp noB w10 W11 := by rw [hW11]; exact Kp.alloc _ _ _
  have n11 : W11.heap.size = D + 1 := by rw [hW11, hD, World.size_alloc]
  have m11 : W9.heap.size ≤ D := by rw [hD]; exact k10.size
  rw [← hD, ← hW11]
  clear hD hW11
  rw [wpList, if_pos (by kernel_rfl)]
  left
  go_simp
  obtain ⟨F, hF⟩ : ∃ F, F = D + 1 := ⟨_, rfl⟩
  obtain ⟨W12, hW12⟩ : ∃ W, W = W11.alloc (.cells #[.int .i64 0, .int .i64 0, .int .u32 0] 36) := ⟨_, rfl⟩
  have f12 : Rm.RowT W12 F ⟨0, 0, 0⟩ := by rw [hW12, hF, ← n11]; exact (MapKept.heap_alloc W11 _).1
  have k12 : Kp noB W11 W12 := by rw [hW12]; exact Kp.alloc _ _ _
  have d12 : Rm.DsAt W12 D := (k12.block D (by omega) id).trans d11
  have hDF : Hid (F = D + 1) := hF
  rw [← hF, ← hW12]
  clear hF hW12 d11 n11
  obtain ⟨p0, p1, p2, p3, p4, p5, p6⟩ := d12.c
  have y0 := d12.fz 0; have y1 := d12.fz 1; have y2 := d12.fz 2; have y3 := d12.fz 3; have y4 := d12.fz 4; have y5 := d12.fz 5; have y6 := d12.fz 6
  have d13 := d12.set
  have kD := Rm.kp_setDs W12 D
  obtain ⟨W13, hW13⟩ : ∃ W, W = Rm.setDs W12 D := ⟨_, rfl⟩
  rw [← hW13] at d13 kD
  have f13 := f12.kp kD (by show ¬ F = D; have := hDF.out; omega)
  have hX13 : Hid (Rm.setDs W12 D = W13) := hW13.symm
  simp only [Rm.setDs] at hX13
  clear hW13 d12 f12
  rw [wpList, if_pos (by kernel_rfl)]
  left
  go_simp
  rw [hX13.out]
  clear p0 p1 p2 p3 p4 p5 p6 y0 y1 y2 y3 y4 y5 y6
  have c0 := f13.c0; have c1 := f13.c1; have c2 := f13.c2
  have z0 := f13.fz 0; have z1 := f13.fz 1; have z2 := f13.fz 2
  have f14 := f13.set ⟨13, 0, 0⟩
  have kF := Rm.kp_setFt W13 F ⟨13, 0, 0⟩
  obtain ⟨W14, hW14⟩ : ∃ W, W = Rm.setFt W13 F ⟨13, 0, 0⟩ := ⟨_, rfl⟩
  rw [← hW14] at f14 kF
  have d14 : Rm.DsAt W14 D := (kF.block D (Array.getElem?_eq_some_iff.1 d13).1 (by show ¬ D = F; have := hDF.out; omega)).trans d13
  have hX14 : Hid (Rm.setFt W13 F ⟨13, 0, 0⟩ = W14) := hW14.symm
  simp only [Rm.setFt] at hX14
  clear hW14 d13 f13
  rw [wpList, if_pos (by kernel_rfl)]
  left
  go_simp
  rw [hX14.out]
  clear c0 c1 c2 z0 z1 z2
  have k14 : Kp noB W9 W14 := ⟨kF.os.trans (kD.os.trans (k12.os.trans (k11.os.trans k10.os))), kF.tape.trans (kD.tape.trans (k12.tape.trans (k11.tape.trans k10.tape))), kF.output.trans (kD.output.trans (k12.output.trans (k11.output.trans k10.output))), Nat.le_trans k10.size (Nat.le_trans k11.size (Nat.le_trans k12.size (Nat.le_trans kD.size kF.size))), fun i hi hs => (kF.block i (by have := k10.size; have := k11.size; have := k12.size; have := kD.size; omega) (by show ¬ i = F; have := hDF.out; omega)).trans ((kD.block i (by have := k10.size; have := k11.size; have := k12.size; omega) (by show ¬ i = D; omega)).trans ((k12.block i (by have := k10.size; have := k11.size; omega) id).trans ((k11.block i (by have := k10.size; omega) id).trans (k10.block i hi id))))⟩
  have k14' := k9.trans k14
  have o14 := o9.kp (noRm k14) id
  have HS : Hid (∀ W, Kp noB W14 W → W.cell? ⟨t, 0, none⟩ = some (.int .i64 13) ∧ W.cell? ⟨t, 1, none⟩ = some (.int .i64 0) ∧ W.cell? ⟨t, 2, none⟩ = some (.int .u32 0) ∧ W.cell? ⟨t, 3, none⟩ = some (.int .i64 (-1)) ∧ W.cell? ⟨t, 4, none⟩ = some (.bool false) ∧ W.cell? ⟨Y, 0, none⟩ = some (.int .i64 13) ∧ W.cell? ⟨Y, 1, none⟩ = some (.int .i64 0) ∧ W.cell? ⟨Y, 2, none⟩ = some (.int .u32 0) ∧ W.cell? ⟨D, 0, none⟩ = some (.int .u32 0) ∧ W.cell? ⟨D, 1, none⟩ = some (.int .u32 0) ∧ W.cell? ⟨D, 2, none⟩ = some (.int .i64 0) ∧ W.cell? ⟨D, 3, none⟩ = some (.bool false) ∧ W.cell? ⟨D, 4, none⟩ = some (.int .i64 0) ∧ W.cell? ⟨D, 5, none⟩ = some (.bool false) ∧ W.cell? ⟨D, 6, none⟩ = some (.bool false) ∧ W.cell? ⟨F, 0, none⟩ = some (.int .i64 13) ∧ W.cell? ⟨F, 1, none⟩ = some (.int .i64 0) ∧ W.cell? ⟨F, 2, none⟩ = some (.int .u32 0) ∧ W.cell? ⟨G, 0, none⟩ = some (.pointer none)) := fun W k => by
    obtain ⟨hfy, hfq, hfg⟩ := HF.out W (k14'.trans k)
    obtain ⟨u0, u1, u2, u3, u4⟩ := (o14.kp (noRm k) id).c
    obtain ⟨p0, p1, p2, p3, p4, p5, p6⟩ := Rm.DsAt.c ((k.block D (Array.getElem?_eq_some_iff.1 d14).1 id).trans d14)
    have f15 := f14.kp (noRm k) id
    exact ⟨u0, u1, u2, u3, u4, hfy.c0, hfy.c1, hfy.c2, p0, p1, p2, p3, p4, p5, p6, f15.c0, f15.c1, f15.c2, by rw [Rm.cell_at hfg]; rfl⟩
  have kdr : Kp noB W14 W14.drew := (Kp.refl noB W14).drew
  have HS0 : Hid _ := HS.out _ kdr
  have HLD : Hid (Rm.Lacks W14.drew none) := HL0.out _ (k14'.trans kdr)
  have HK14 : Hid (Kp noB W8 W14) := k14'
  clear hX13 hX14 kF kD k12 k11 k10 o14 o9 d14 f14 k14 k14' kdr k9 m11
  go_upto_region 15 with fail
  go_region_held3 (fun W => W.cell? ⟨t, 0, none⟩ = some (.int .i64 13) ∧ W.cell? ⟨t, 1, none⟩ = some (.int .i64 0) ∧ W.cell? ⟨t, 2, none⟩ = some (.int .u32 0) ∧ W.cell? ⟨t, 3, none⟩ = some (.int .i64 (-1)) ∧ W.cell? ⟨t, 4, none⟩ = some (.bool false) ∧ W.cell? ⟨Y, 0, none⟩ = some (.int .i64 13) ∧ W.cell? ⟨Y, 1, none⟩ = some (.int .i64 0) ∧ W.cell? ⟨Y, 2, none⟩ = some (.int .u32 0) ∧ W.cell? ⟨D, 0, none⟩ = some (.int .u32 0) ∧ W.cell? ⟨D, 1, none⟩ = some (.int .u32 0) ∧ W.cell? ⟨D, 2, none⟩ = some (.int .i64 0) ∧ W.cell? ⟨D, 3, none⟩ = some (.bool false) ∧ W.cell? ⟨D, 4, none⟩ = some (.int .i64 0) ∧ W.cell? ⟨D, 5, none⟩ = some (.bool false) ∧ W.cell? ⟨D, 6, none⟩ = some (.bool false) ∧ W.cell? ⟨F, 0, none⟩ = some (.int .i64 13) ∧ W.cell? ⟨F, 1, none⟩ = some (.int .i64 0) ∧ W.cell? ⟨F, 2, none⟩ = some (.int .u32 0) ∧ W.cell? ⟨G, 0, none⟩ = some (.pointer none)) (first | with_reducible exact HS0.out | exact HS.out _ (unDrewN k15)) (first | (go_at_call 15; refine Calls.mono (Rm.load_lacks _ none HLD 3 sel) ?_; rintro e w15 ⟨rfl, k15⟩))
  replace HST : Hid (Kp noB W8 w15) := HK14.out.trans (unDrewN k15)
  clear HS HS0 HLD HK14 k15 hDF
  go_wp2_with fail
  rw [rounds_succ]
  go_upto_region 13 with fail
  refine OrdFree.region_vals (τ := Nat) (fun t => [.slice (some ⟨G, 0, none⟩) 4 4, .int .i64 1, .pointer (some ⟨G, 1, none⟩), .pointer (some ⟨E1, 0, none⟩), .agg I, .agg #[.int .i64 13, .int .i64 0, .int .u32 0, .int .i64 (-1), .bool false], .pointer (some ⟨t, 0, none⟩), undef]) (fun t listed W => Kp noB W8 W ∧ (listed.getD 6 false = true → W8.heap.size ≤ t ∧ OcQ W t (listed.getD 7 false))) 0 (by kernel_rfl) (by kernel_rfl) (by kernel_rfl) (by kernel_rfl) (fun _ => rfl) (fun t => by simp only [OrdFree.puts, Act.put, List.setIfInBounds_toArray, List.set_cons_zero, List.set_cons_succ]; rfl) ⟨HST.out.drew, fun f => by cases f⟩ ?_ ?_
  · refine ⟨?_, ?_, ?_, ?_, ?_, ?_, ?_, ?_, trivial⟩
    all_goals (intro t listed W hz hSh hl hI hb K hK hK0; obtain ⟨kk, hrow⟩ := hI; obtain ⟨hfy, hfq, hfg⟩ := HF.out W kk; have hld := HG2.out W Q hfq; have hcg : W.cell? ⟨G, 1, none⟩ = some (.pointer (some ⟨E1, 0, none⟩)) := by rw [Rm.cell_at hfg]; rfl)
    · go_simp
      exact hK0 W ⟨kk, by rw [getD_set_ne false (by decide), getD_set_ne false (by decide)]; exact hrow⟩
    · go_simp
      exact hK0 W ⟨kk, by rw [getD_set_ne false (by decide), getD_set_ne false (by decide)]; exact hrow⟩
    · go_simp
      exact hK0 W ⟨kk, by rw [getD_set_ne false (by decide), getD_set_ne false (by decide)]; exact hrow⟩
    · go_simp
      exact hK0 W ⟨kk, by rw [getD_set_ne false (by decide), getD_set_ne false (by decide)]; exact hrow⟩
    · go_simp
      exact hK0 W ⟨kk, by rw [getD_set_ne false (by decide), getD_set_ne false (by decide)]; exact hrow⟩
    · have hd := Rm.do_lacks W (some ⟨E1, 0, none⟩) (HL1.out W kk) { Dc.Ins.zero with op := 41, size := 4, len := 1 }
      rw [← HI.out] at hd
      go_simp
      refine Calls.mono hd ?_; rintro e w' ⟨rfl, k⟩
      exact hK0 w' ⟨kk.trans (rmNo k), by rw [getD_set_ne false (by decide), getD_set_ne false (by decide)]; exact fun h => ⟨(hrow h).1, (hrow h).2.kp0 (rmNo k)⟩⟩
    · have n7 := OrdFree.shut_no (j := 7) hSh hl (by kernel_rfl)
      exact OrdFree.wp_of_run (v := .pointer (some ⟨W.heap.size, 0, none⟩)) (w' := W.alloc (.cells #[.int .i64 0, .int .i64 0, .int .u32 0, .int .i64 0, .bool false] 56)) (by kernel_rfl) (hK _ _ ⟨W.heap.size, rfl, OrdFree.vals_two (i := 6) (k := 6) (u := .pointer (some ⟨W.heap.size, 0, none⟩)) (v := .pointer (some ⟨W.heap.size, 0, none⟩)) rfl hl hl, kk.trans (Kp.alloc _ _ _), fun _ => ⟨kk.size, by rw [getD_set_ne false (by decide), n7]; exact (MapKept.heap_alloc W _).1⟩⟩)
    · have h6 := hb { on := 6, ground := .data } (by simp) rfl
      obtain ⟨hlt, hoc⟩ := hrow h6
      rw [hl] at hoc
      obtain ⟨u0, u1, u2, u3, u4⟩ := Rm.OcAt.c hoc
      have z0 := Rm.OcAt.fz hoc 0; have z1 := Rm.OcAt.fz hoc 1; have z2 := Rm.OcAt.fz hoc 2; have z3 := Rm.OcAt.fz hoc 3; have z4 := Rm.OcAt.fz hoc 4
      have oZ := Rm.OcAt.set hoc ⟨13, 0, 0⟩ (-1) false
      have kZ := Rm.kp_setOc W t ⟨13, 0, 0⟩ (-1) false
      have kQ : Kp noB W8 (Rm.setOc W t ⟨13, 0, 0⟩ (-1) false) := ⟨kZ.os.trans kk.os, kZ.tape.trans kk.tape, kZ.output.trans kk.output, Nat.le_trans kk.size kZ.size, fun i hi hs => (kZ.block i (Nat.lt_of_lt_of_le hi kk.size) (by show ¬ i = t; omega)).trans (kk.block i hi hs)⟩
      have HX : Hid _ := And.intro kQ (And.intro hlt oZ)
      clear kQ oZ kZ hoc
      simp only [Rm.setOc] at HX
      go_simp
      exact hK0 _ ⟨HX.out.1, fun _ => ⟨HX.out.2.1, by rw [getD_set_self (by rw [hz]; exact (by decide : 7 < 8))]; exact HX.out.2.2⟩⟩
  rename_i Kx hKx
  rintro t listed W9 hal ⟨k9, hrow⟩
  obtain ⟨hlt, hoc⟩ := hrow (hal 6 (by exact (by decide : 6 < 8)))
  rw [hal 7 (by exact (by decide : 7 < 8))] at hoc
  refine hKx _ _ ?_
  have o9 : Rm.OcAt W9 t ⟨13, 0, 0⟩ (-1) false := by unfold OcQ at hoc; rw [if_pos rfl] at hoc; exact hoc
  obtain ⟨hfy, hfq, hfg⟩ := HF.out W9 k9
  have hcg : W9.cell? ⟨G, 1, none⟩ = some (.pointer (some ⟨E1, 0, none⟩)) := by rw [Rm.cell_at hfg]; rfl
  clear hoc hrow hal hfy hfq hfg hlt
  go_wp2_with fail
  refine Calls.mono (Rm.find_lacks W9 (some ⟨E1, 0, none⟩) (HL1.out W9 k9) sel) ?_; rintro e w10 ⟨rfl, k10⟩
  rename_i Ka hKa
  refine hKa _ _ ?_
  clear hcg
  unfold Rm.dsZ
  rw [wpList, if_pos (by kernel_rfl)]
  left
  go_simp
  rw [wpList, if_pos (by kernel_rfl)]
  left
  go_simp
  rw [wpList, if_pos (by kernel_rfl)]
  left
  go_simp
  rw [wpList, if_pos (by kernel_rfl)]
  left
  go_simp
  obtain ⟨D, hD⟩ : ∃ D, D = w10.heap.size := ⟨_, rfl⟩
  obtain ⟨W11, hW11⟩ : ∃ W, W = w10.alloc (.cells #[.int .u32 0, .int .u32 0, .int .i64 0, .bool false, .int .i64 0, .bool false, .bool false] 27) := ⟨_, rfl⟩
  have d11 : Rm.DsAt W11 D := by rw [hW11, hD]; exact (MapKept.heap_alloc w10 _).1
  have k11 : Kp noB w10 W11 := by rw [hW11]; exact Kp.alloc _ _ _
  have n11 : W11.heap.size = D + 1 := by rw [hW11, hD, World.size_alloc]
  have m11 : W9.heap.size ≤ D := by rw [hD]; exact k10.size
  rw [← hD, ← hW11]
  clear hD hW11
  rw [wpList, if_pos (by kernel_rfl)]
  left
  go_simp
  obtain ⟨F, hF⟩ : ∃ F, F = D + 1 := ⟨_, rfl⟩
  obtain ⟨W12, hW12⟩ : ∃ W, W = W11.alloc (.cells #[.int .i64 0, .int .i64 0, .int .u32 0] 36) := ⟨_, rfl⟩
  have f12 : Rm.RowT W12 F ⟨0, 0, 0⟩ := by rw [hW12, hF, ← n11]; exact (MapKept.heap_alloc W11 _).1
  have k12 : Kp noB W11 W12 := by rw [hW12]; exact Kp.alloc _ _ _
  have d12 : Rm.DsAt W12 D := (k12.block D (by omega) id).trans d11
  have hDF : Hid (F = D + 1) := hF
  rw [← hF, ← hW12]
  clear hF hW12 d11 n11
  obtain ⟨p0, p1, p2, p3, p4, p5, p6⟩ := d12.c
  have y0 := d12.fz 0; have y1 := d12.fz 1; have y2 := d12.fz 2; have y3 := d12.fz 3; have y4 := d12.fz 4; have y5 := d12.fz 5; have y6 := d12.fz 6
  have d13 := d12.set
  have kD := Rm.kp_setDs W12 D
  obtain ⟨W13, hW13⟩ : ∃ W, W = Rm.setDs W12 D := ⟨_, rfl⟩
  rw [← hW13] at d13 kD
  have f13 := f12.kp kD (by show ¬ F = D; have := hDF.out; omega)
  have hX13 : Hid (Rm.setDs W12 D = W13) := hW13.symm
  simp only [Rm.setDs] at hX13
  clear hW13 d12 f12
  rw [wpList, if_pos (by kernel_rfl)]
  left
  go_simp
  rw [hX13.out]
  clear p0 p1 p2 p3 p4 p5 p6 y0 y1 y2 y3 y4 y5 y6
  have c0 := f13.c0; have c1 := f13.c1; have c2 := f13.c2
  have z0 := f13.fz 0; have z1 := f13.fz 1; have z2 := f13.fz 2
  have f14 := f13.set ⟨13, 0, 0⟩
  have kF := Rm.kp_setFt W13 F ⟨13, 0, 0⟩
  obtain ⟨W14, hW14⟩ : ∃ W, W = Rm.setFt W13 F ⟨13, 0, 0⟩ := ⟨_, rfl⟩
  rw [← hW14] at f14 kF
  have d14 : Rm.DsAt W14 D := (kF.block D (Array.getElem?_eq_some_iff.1 d13).1 (by show ¬ D = F; have := hDF.out; omega)).trans d13
  have hX14 : Hid (Rm.setFt W13 F ⟨13, 0, 0⟩ = W14) := hW14.symm
  simp only [Rm.setFt] at hX14
  clear hW14 d13 f13
  rw [wpList, if_pos (by kernel_rfl)]
  left
  go_simp
  rw [hX14.out]
  clear c0 c1 c2 z0 z1 z2
  have k14 : Kp noB W9 W14 := ⟨kF.os.trans (kD.os.trans (k12.os.trans (k11.os.trans k10.os))), kF.tape.trans (kD.tape.trans (k12.tape.trans (k11.tape.trans k10.tape))), kF.output.trans (kD.output.trans (k12.output.trans (k11.output.trans k10.output))), Nat.le_trans k10.size (Nat.le_trans k11.size (Nat.le_trans k12.size (Nat.le_trans kD.size kF.size))), fun i hi hs => (kF.block i (by have := k10.size; have := k11.size; have := k12.size; have := kD.size; omega) (by show ¬ i = F; have := hDF.out; omega)).trans ((kD.block i (by have := k10.size; have := k11.size; have := k12.size; omega) (by show ¬ i = D; omega)).trans ((k12.block i (by have := k10.size; have := k11.size; omega) id).trans ((k11.block i (by have := k10.size; omega) id).trans (k10.block i hi id))))⟩
  have k14' := k9.trans k14
  have o14 := o9.kp (noRm k14) id
  have HS : Hid (∀ W, Kp noB W14 W → W.cell? ⟨t, 0, none⟩ = some (.int .i64 13) ∧ W.cell? ⟨t, 1, none⟩ = some (.int .i64 0) ∧ W.cell? ⟨t, 2, none⟩ = some (.int .u32 0) ∧ W.cell? ⟨t, 3, none⟩ = some (.int .i64 (-1)) ∧ W.cell? ⟨t, 4, none⟩ = some (.bool false) ∧ W.cell? ⟨Y, 0, none⟩ = some (.int .i64 13) ∧ W.cell? ⟨Y, 1, none⟩ = some (.int .i64 0) ∧ W.cell? ⟨Y, 2, none⟩ = some (.int .u32 0) ∧ W.cell? ⟨D, 0, none⟩ = some (.int .u32 0) ∧ W.cell? ⟨D, 1, none⟩ = some (.int .u32 0) ∧ W.cell? ⟨D, 2, none⟩ = some (.int .i64 0) ∧ W.cell? ⟨D, 3, none⟩ = some (.bool false) ∧ W.cell? ⟨D, 4, none⟩ = some (.int .i64 0) ∧ W.cell? ⟨D, 5, none⟩ = some (.bool false) ∧ W.cell? ⟨D, 6, none⟩ = some (.bool false) ∧ W.cell? ⟨F, 0, none⟩ = some (.int .i64 13) ∧ W.cell? ⟨F, 1, none⟩ = some (.int .i64 0) ∧ W.cell? ⟨F, 2, none⟩ = some (.int .u32 0) ∧ W.cell? ⟨G, 1, none⟩ = some (.pointer (some ⟨E1, 0, none⟩))) := fun W k => by
    obtain ⟨hfy, hfq, hfg⟩ := HF.out W (k14'.trans k)
    obtain ⟨u0, u1, u2, u3, u4⟩ := (o14.kp (noRm k) id).c
    obtain ⟨p0, p1, p2, p3, p4, p5, p6⟩ := Rm.DsAt.c ((k.block D (Array.getElem?_eq_some_iff.1 d14).1 id).trans d14)
    have f15 := f14.kp (noRm k) id
    exact ⟨u0, u1, u2, u3, u4, hfy.c0, hfy.c1, hfy.c2, p0, p1, p2, p3, p4, p5, p6, f15.c0, f15.c1, f15.c2, by rw [Rm.cell_at hfg]; rfl⟩
  have kdr : Kp noB W14 W14.drew := (Kp.refl noB W14).drew
  have HS0 : Hid _ := HS.out _ kdr
  have HLD : Hid (Rm.Lacks W14.drew (some ⟨E1, 0, none⟩)) := HL1.out _ (k14'.trans kdr)
  have HK14 : Hid (Kp noB W8 W14) := k14'
  clear hX13 hX14 kF kD k12 k11 k10 o14 o9 d14 f14 k14 k14' kdr k9 m11
  go_upto_region 15 with fail
  go_region_held3 (fun W => W.cell? ⟨t, 0, none⟩ = some (.int .i64 13) ∧ W.cell? ⟨t, 1, none⟩ = some (.int .i64 0) ∧ W.cell? ⟨t, 2, none⟩ = some (.int .u32 0) ∧ W.cell? ⟨t, 3, none⟩ = some (.int .i64 (-1)) ∧ W.cell? ⟨t, 4, none⟩ = some (.bool false) ∧ W.cell? ⟨Y, 0, none⟩ = some (.int .i64 13) ∧ W.cell? ⟨Y, 1, none⟩ = some (.int .i64 0) ∧ W.cell? ⟨Y, 2, none⟩ = some (.int .u32 0) ∧ W.cell? ⟨D, 0, none⟩ = some (.int .u32 0) ∧ W.cell? ⟨D, 1, none⟩ = some (.int .u32 0) ∧ W.cell? ⟨D, 2, none⟩ = some (.int .i64 0) ∧ W.cell? ⟨D, 3, none⟩ = some (.bool false) ∧ W.cell? ⟨D, 4, none⟩ = some (.int .i64 0) ∧ W.cell? ⟨D, 5, none⟩ = some (.bool false) ∧ W.cell? ⟨D, 6, none⟩ = some (.bool false) ∧ W.cell? ⟨F, 0, none⟩ = some (.int .i64 13) ∧ W.cell? ⟨F, 1, none⟩ = some (.int .i64 0) ∧ W.cell? ⟨F, 2, none⟩ = some (.int .u32 0) ∧ W.cell? ⟨G, 1, none⟩ = some (.pointer (some ⟨E1, 0, none⟩))) (first | with_reducible exact HS0.out | exact HS.out _ (unDrewN k15)) (first | (go_at_call 15; refine Calls.mono (Rm.load_lacks _ (some ⟨E1, 0, none⟩) HLD 3 sel) ?_; rintro e w15 ⟨rfl, k15⟩))
  replace HST : Hid (Kp noB W8 w15) := HK14.out.trans (unDrewN k15)
  clear HS HS0 HLD HK14 k15 hDF
  go_wp2_with fail
  rw [rounds_succ]
  go_upto_region 13 with fail
  refine OrdFree.region_vals (τ := Nat) (fun t => [.slice (some ⟨G, 0, none⟩) 4 4, .int .i64 2, .pointer (some ⟨G, 2, none⟩), .pointer (some ⟨E2, 0, none⟩), .agg I, .agg #[.int .i64 13, .int .i64 0, .int .u32 0, .int .i64 (-1), .bool false], .pointer (some ⟨t, 0, none⟩), undef]) (fun t listed W => Kp noB W8 W ∧ (listed.getD 6 false = true → W8.heap.size ≤ t ∧ OcQ W t (listed.getD 7 false))) 0 (by kernel_rfl) (by kernel_rfl) (by kernel_rfl) (by kernel_rfl) (fun _ => rfl) (fun t => by simp only [OrdFree.puts, Act.put, List.setIfInBounds_toArray, List.set_cons_zero, List.set_cons_succ]; rfl) ⟨HST.out.drew, fun f => by cases f⟩ ?_ ?_
  · refine ⟨?_, ?_, ?_, ?_, ?_, ?_, ?_, ?_, trivial⟩
    all_goals (intro t listed W hz hSh hl hI hb K hK hK0; obtain ⟨kk, hrow⟩ := hI; obtain ⟨hfy, hfq, hfg⟩ := HF.out W kk; have hld := HG2.out W Q hfq; have hcg : W.cell? ⟨G, 2, none⟩ = some (.pointer (some ⟨E2, 0, none⟩)) := by rw [Rm.cell_at hfg]; rfl)
    · go_simp
      exact hK0 W ⟨kk, by rw [getD_set_ne false (by decide), getD_set_ne false (by decide)]; exact hrow⟩
    · go_simp
      exact hK0 W ⟨kk, by rw [getD_set_ne false (by decide), getD_set_ne false (by decide)]; exact hrow⟩
    · go_simp
      exact hK0 W ⟨kk, by rw [getD_set_ne false (by decide), getD_set_ne false (by decide)]; exact hrow⟩
    · go_simp
      exact hK0 W ⟨kk, by rw [getD_set_ne false (by decide), getD_set_ne false (by decide)]; exact hrow⟩
    · go_simp
      exact hK0 W ⟨kk, by rw [getD_set_ne false (by decide), getD_set_ne false (by decide)]; exact hrow⟩
    · have hd := Rm.do_lacks W (some ⟨E2, 0, none⟩) (HL2.out W kk) { Dc.Ins.zero with op := 41, size := 4, len := 1 }
      rw [← HI.out] at hd
      go_simp
      refine Calls.mono hd ?_; rintro e w' ⟨rfl, k⟩
      exact hK0 w' ⟨kk.trans (rmNo k), by rw [getD_set_ne false (by decide), getD_set_ne false (by decide)]; exact fun h => ⟨(hrow h).1, (hrow h).2.kp0 (rmNo k)⟩⟩
    · have n7 := OrdFree.shut_no (j := 7) hSh hl (by kernel_rfl)
      exact OrdFree.wp_of_run (v := .pointer (some ⟨W.heap.size, 0, none⟩)) (w' := W.alloc (.cells #[.int .i64 0, .int .i64 0, .int .u32 0, .int .i64 0, .bool false] 56)) (by kernel_rfl) (hK _ _ ⟨W.heap.size, rfl, OrdFree.vals_two (i := 6) (k := 6) (u := .pointer (some ⟨W.heap.size, 0, none⟩)) (v := .pointer (some ⟨W.heap.size, 0, none⟩)) rfl hl hl, kk.trans (Kp.alloc _ _ _), fun _ => ⟨kk.size, by rw [getD_set_ne false (by decide), n7]; exact (MapKept.heap_alloc W _).1⟩⟩)
    · have h6 := hb { on := 6, ground := .data } (by simp) rfl
      obtain ⟨hlt, hoc⟩ := hrow h6
      rw [hl] at hoc
      obtain ⟨u0, u1, u2, u3, u4⟩ := Rm.OcAt.c hoc
      have z0 := Rm.OcAt.fz hoc 0; have z1 := Rm.OcAt.fz hoc 1; have z2 := Rm.OcAt.fz hoc 2; have z3 := Rm.OcAt.fz hoc 3; have z4 := Rm.OcAt.fz hoc 4
      have oZ := Rm.OcAt.set hoc ⟨13, 0, 0⟩ (-1) false
      have kZ := Rm.kp_setOc W t ⟨13, 0, 0⟩ (-1) false
      have kQ : Kp noB W8 (Rm.setOc W t ⟨13, 0, 0⟩ (-1) false) := ⟨kZ.os.trans kk.os, kZ.tape.trans kk.tape, kZ.output.trans kk.output, Nat.le_trans kk.size kZ.size, fun i hi hs => (kZ.block i (Nat.lt_of_lt_of_le hi kk.size) (by show ¬ i = t; omega)).trans (kk.block i hi hs)⟩
      have HX : Hid _ := And.intro kQ (And.intro hlt oZ)
      clear kQ oZ kZ hoc
      simp only [Rm.setOc] at HX
      go_simp
      exact hK0 _ ⟨HX.out.1, fun _ => ⟨HX.out.2.1, by rw [getD_set_self (by rw [hz]; exact (by decide : 7 < 8))]; exact HX.out.2.2⟩⟩
  rename_i Kx hKx
  rintro t listed W9 hal ⟨k9, hrow⟩
  obtain ⟨hlt, hoc⟩ := hrow (hal 6 (by exact (by decide : 6 < 8)))
  rw [hal 7 (by exact (by decide : 7 < 8))] at hoc
  refine hKx _ _ ?_
  have o9 : Rm.OcAt W9 t ⟨13, 0, 0⟩ (-1) false := by unfold OcQ at hoc; rw [if_pos rfl] at hoc; exact hoc
  obtain ⟨hfy, hfq, hfg⟩ := HF.out W9 k9
  have hcg : W9.cell? ⟨G, 2, none⟩ = some (.pointer (some ⟨E2, 0, none⟩)) := by rw [Rm.cell_at hfg]; rfl
  clear hoc hrow hal hfy hfq hfg hlt
  go_wp2_with fail
  refine Calls.mono (Rm.find_lacks W9 (some ⟨E2, 0, none⟩) (HL2.out W9 k9) sel) ?_; rintro e w10 ⟨rfl, k10⟩
  rename_i Ka hKa
  refine hKa _ _ ?_
  clear hcg
  unfold Rm.dsZ
  rw [wpList, if_pos (by kernel_rfl)]
  left
  go_simp
  rw [wpList, if_pos (by kernel_rfl)]
  left
  go_simp
  rw [wpList, if_pos (by kernel_rfl)]
  left
  go_simp
  rw [wpList, if_pos (by kernel_rfl)]
  left
  go_simp
  obtain ⟨D, hD⟩ : ∃ D, D = w10.heap.size := ⟨_, rfl⟩
  obtain ⟨W11, hW11⟩ : ∃ W, W = w10.alloc (.cells #[.int .u32 0, .int .u32 0, .int .i64 0, .bool false, .int .i64 0, .bool false, .bool false] 27) := ⟨_, rfl⟩
  have d11 : Rm.DsAt W11 D := by rw [hW11, hD]; exact (MapKept.heap_alloc w10 _).1
  have k11 : Kp noB w10 W11 := by rw [hW11]; exact Kp.alloc _ _ _
  have n11 : W11.heap.size = D + 1 := by rw [hW11, hD, World.size_alloc]
  have m11 : W9.heap.size ≤ D := by rw [hD]; exact k10.size
  rw [← hD, ← hW11]
  clear hD hW11
  rw [wpList, if_pos (by kernel_rfl)]
  left
  go_simp
  obtain ⟨F, hF⟩ : ∃ F, F = D + 1 := ⟨_, rfl⟩
  obtain ⟨W12, hW12⟩ : ∃ W, W = W11.alloc (.cells #[.int .i64 0, .int .i64 0, .int .u32 0] 36) := ⟨_, rfl⟩
  have f12 : Rm.RowT W12 F ⟨0, 0, 0⟩ := by rw [hW12, hF, ← n11]; exact (MapKept.heap_alloc W11 _).1
  have k12 : Kp noB W11 W12 := by rw [hW12]; exact Kp.alloc _ _ _
  have d12 : Rm.DsAt W12 D := (k12.block D (by omega) id).trans d11
  have hDF : Hid (F = D + 1) := hF
  rw [← hF, ← hW12]
  clear hF hW12 d11 n11
  obtain ⟨p0, p1, p2, p3, p4, p5, p6⟩ := d12.c
  have y0 := d12.fz 0; have y1 := d12.fz 1; have y2 := d12.fz 2; have y3 := d12.fz 3; have y4 := d12.fz 4; have y5 := d12.fz 5; have y6 := d12.fz 6
  have d13 := d12.set
  have kD := Rm.kp_setDs W12 D
  obtain ⟨W13, hW13⟩ : ∃ W, W = Rm.setDs W12 D := ⟨_, rfl⟩
  rw [← hW13] at d13 kD
  have f13 := f12.kp kD (by show ¬ F = D; have := hDF.out; omega)
  have hX13 : Hid (Rm.setDs W12 D = W13) := hW13.symm
  simp only [Rm.setDs] at hX13
  clear hW13 d12 f12
  rw [wpList, if_pos (by kernel_rfl)]
  left
  go_simp
  rw [hX13.out]
  clear p0 p1 p2 p3 p4 p5 p6 y0 y1 y2 y3 y4 y5 y6
  have c0 := f13.c0; have c1 := f13.c1; have c2 := f13.c2
  have z0 := f13.fz 0; have z1 := f13.fz 1; have z2 := f13.fz 2
  have f14 := f13.set ⟨13, 0, 0⟩
  have kF := Rm.kp_setFt W13 F ⟨13, 0, 0⟩
  obtain ⟨W14, hW14⟩ : ∃ W, W = Rm.setFt W13 F ⟨13, 0, 0⟩ := ⟨_, rfl⟩
  rw [← hW14] at f14 kF
  have d14 : Rm.DsAt W14 D := (kF.block D (Array.getElem?_eq_some_iff.1 d13).1 (by show ¬ D = F; have := hDF.out; omega)).trans d13
  have hX14 : Hid (Rm.setFt W13 F ⟨13, 0, 0⟩ = W14) := hW14.symm
  simp only [Rm.setFt] at hX14
  clear hW14 d13 f13
  rw [wpList, if_pos (by kernel_rfl)]
  left
  go_simp
  rw [hX14.out]
  clear c0 c1 c2 z0 z1 z2
  have k14 : Kp noB W9 W14 := ⟨kF.os.trans (kD.os.trans (k12.os.trans (k11.os.trans k10.os))), kF.tape.trans (kD.tape.trans (k12.tape.trans (k11.tape.trans k10.tape))), kF.output.trans (kD.output.trans (k12.output.trans (k11.output.trans k10.output))), Nat.le_trans k10.size (Nat.le_trans k11.size (Nat.le_trans k12.size (Nat.le_trans kD.size kF.size))), fun i hi hs => (kF.block i (by have := k10.size; have := k11.size; have := k12.size; have := kD.size; omega) (by show ¬ i = F; have := hDF.out; omega)).trans ((kD.block i (by have := k10.size; have := k11.size; have := k12.size; omega) (by show ¬ i = D; omega)).trans ((k12.block i (by have := k10.size; have := k11.size; omega) id).trans ((k11.block i (by have := k10.size; omega) id).trans (k10.block i hi id))))⟩
  have k14' := k9.trans k14
  have o14 := o9.kp (noRm k14) id
  have HS : Hid (∀ W, Kp noB W14 W → W.cell? ⟨t, 0, none⟩ = some (.int .i64 13) ∧ W.cell? ⟨t, 1, none⟩ = some (.int .i64 0) ∧ W.cell? ⟨t, 2, none⟩ = some (.int .u32 0) ∧ W.cell? ⟨t, 3, none⟩ = some (.int .i64 (-1)) ∧ W.cell? ⟨t, 4, none⟩ = some (.bool false) ∧ W.cell? ⟨Y, 0, none⟩ = some (.int .i64 13) ∧ W.cell? ⟨Y, 1, none⟩ = some (.int .i64 0) ∧ W.cell? ⟨Y, 2, none⟩ = some (.int .u32 0) ∧ W.cell? ⟨D, 0, none⟩ = some (.int .u32 0) ∧ W.cell? ⟨D, 1, none⟩ = some (.int .u32 0) ∧ W.cell? ⟨D, 2, none⟩ = some (.int .i64 0) ∧ W.cell? ⟨D, 3, none⟩ = some (.bool false) ∧ W.cell? ⟨D, 4, none⟩ = some (.int .i64 0) ∧ W.cell? ⟨D, 5, none⟩ = some (.bool false) ∧ W.cell? ⟨D, 6, none⟩ = some (.bool false) ∧ W.cell? ⟨F, 0, none⟩ = some (.int .i64 13) ∧ W.cell? ⟨F, 1, none⟩ = some (.int .i64 0) ∧ W.cell? ⟨F, 2, none⟩ = some (.int .u32 0) ∧ W.cell? ⟨G, 2, none⟩ = some (.pointer (some ⟨E2, 0, none⟩))) := fun W k => by
    obtain ⟨hfy, hfq, hfg⟩ := HF.out W (k14'.trans k)
    obtain ⟨u0, u1, u2, u3, u4⟩ := (o14.kp (noRm k) id).c
    obtain ⟨p0, p1, p2, p3, p4, p5, p6⟩ := Rm.DsAt.c ((k.block D (Array.getElem?_eq_some_iff.1 d14).1 id).trans d14)
    have f15 := f14.kp (noRm k) id
    exact ⟨u0, u1, u2, u3, u4, hfy.c0, hfy.c1, hfy.c2, p0, p1, p2, p3, p4, p5, p6, f15.c0, f15.c1, f15.c2, by rw [Rm.cell_at hfg]; rfl⟩
  have kdr : Kp noB W14 W14.drew := (Kp.refl noB W14).drew
  have HS0 : Hid _ := HS.out _ kdr
  have HLD : Hid (Rm.Lacks W14.drew (some ⟨E2, 0, none⟩)) := HL2.out _ (k14'.trans kdr)
  have HK14 : Hid (Kp noB W8 W14) := k14'
  clear hX13 hX14 kF kD k12 k11 k10 o14 o9 d14 f14 k14 k14' kdr k9 m11
  go_upto_region 15 with fail
  go_region_held3 (fun W => W.cell? ⟨t, 0, none⟩ = some (.int .i64 13) ∧ W.cell? ⟨t, 1, none⟩ = some (.int .i64 0) ∧ W.cell? ⟨t, 2, none⟩ = some (.int .u32 0) ∧ W.cell? ⟨t, 3, none⟩ = some (.int .i64 (-1)) ∧ W.cell? ⟨t, 4, none⟩ = some (.bool false) ∧ W.cell? ⟨Y, 0, none⟩ = some (.int .i64 13) ∧ W.cell? ⟨Y, 1, none⟩ = some (.int .i64 0) ∧ W.cell? ⟨Y, 2, none⟩ = some (.int .u32 0) ∧ W.cell? ⟨D, 0, none⟩ = some (.int .u32 0) ∧ W.cell? ⟨D, 1, none⟩ = some (.int .u32 0) ∧ W.cell? ⟨D, 2, none⟩ = some (.int .i64 0) ∧ W.cell? ⟨D, 3, none⟩ = some (.bool false) ∧ W.cell? ⟨D, 4, none⟩ = some (.int .i64 0) ∧ W.cell? ⟨D, 5, none⟩ = some (.bool false) ∧ W.cell? ⟨D, 6, none⟩ = some (.bool false) ∧ W.cell? ⟨F, 0, none⟩ = some (.int .i64 13) ∧ W.cell? ⟨F, 1, none⟩ = some (.int .i64 0) ∧ W.cell? ⟨F, 2, none⟩ = some (.int .u32 0) ∧ W.cell? ⟨G, 2, none⟩ = some (.pointer (some ⟨E2, 0, none⟩))) (first | with_reducible exact HS0.out | exact HS.out _ (unDrewN k15)) (first | (go_at_call 15; refine Calls.mono (Rm.load_lacks _ (some ⟨E2, 0, none⟩) HLD 3 sel) ?_; rintro e w15 ⟨rfl, k15⟩))
  replace HST : Hid (Kp noB W8 w15) := HK14.out.trans (unDrewN k15)
  clear HS HS0 HLD HK14 k15 hDF
  go_wp2_with fail
  rw [rounds_succ]
  go_upto_region 13 with fail
  refine OrdFree.region_vals (τ := Nat) (fun t => [.slice (some ⟨G, 0, none⟩) 4 4, .int .i64 3, .pointer (some ⟨G, 3, none⟩), .pointer (some ⟨E3, 0, none⟩), .agg I, .agg #[.int .i64 13, .int .i64 0, .int .u32 0, .int .i64 (-1), .bool false], .pointer (some ⟨t, 0, none⟩), undef]) (fun t listed W => Kp noB W8 W ∧ (listed.getD 6 false = true → W8.heap.size ≤ t ∧ OcQ W t (listed.getD 7 false))) 0 (by kernel_rfl) (by kernel_rfl) (by kernel_rfl) (by kernel_rfl) (fun _ => rfl) (fun t => by simp only [OrdFree.puts, Act.put, List.setIfInBounds_toArray, List.set_cons_zero, List.set_cons_succ]; rfl) ⟨HST.out.drew, fun f => by cases f⟩ ?_ ?_
  · refine ⟨?_, ?_, ?_, ?_, ?_, ?_, ?_, ?_, trivial⟩
    all_goals (intro t listed W hz hSh hl hI hb K hK hK0; obtain ⟨kk, hrow⟩ := hI; obtain ⟨hfy, hfq, hfg⟩ := HF.out W kk; have hld := HG2.out W Q hfq; have hcg : W.cell? ⟨G, 3, none⟩ = some (.pointer (some ⟨E3, 0, none⟩)) := by rw [Rm.cell_at hfg]; rfl)
    · go_simp
      exact hK0 W ⟨kk, by rw [getD_set_ne false (by decide), getD_set_ne false (by decide)]; exact hrow⟩
    · go_simp
      exact hK0 W ⟨kk, by rw [getD_set_ne false (by decide), getD_set_ne false (by decide)]; exact hrow⟩
    · go_simp
      exact hK0 W ⟨kk, by rw [getD_set_ne false (by decide), getD_set_ne false (by decide)]; exact hrow⟩
    · go_simp
      exact hK0 W ⟨kk, by rw [getD_set_ne false (by decide), getD_set_ne false (by decide)]; exact hrow⟩
    · go_simp
      exact hK0 W ⟨kk, by rw [getD_set_ne false (by decide), getD_set_ne false (by decide)]; exact hrow⟩
    · have hd := Rm.do_lacks W (some ⟨E3, 0, none⟩) (HL3.out W kk) { Dc.Ins.zero with op := 41, size := 4, len := 1 }
      rw [← HI.out] at hd
      go_simp
      refine Calls.mono hd ?_; rintro e w' ⟨rfl, k⟩
      exact hK0 w' ⟨kk.trans (rmNo k), by rw [getD_set_ne false (by decide), getD_set_ne false (by decide)]; exact fun h => ⟨(hrow h).1, (hrow h).2.kp0 (rmNo k)⟩⟩
    · have n7 := OrdFree.shut_no (j := 7) hSh hl (by kernel_rfl)
      exact OrdFree.wp_of_run (v := .pointer (some ⟨W.heap.size, 0, none⟩)) (w' := W.alloc (.cells #[.int .i64 0, .int .i64 0, .int .u32 0, .int .i64 0, .bool false] 56)) (by kernel_rfl) (hK _ _ ⟨W.heap.size, rfl, OrdFree.vals_two (i := 6) (k := 6) (u := .pointer (some ⟨W.heap.size, 0, none⟩)) (v := .pointer (some ⟨W.heap.size, 0, none⟩)) rfl hl hl, kk.trans (Kp.alloc _ _ _), fun _ => ⟨kk.size, by rw [getD_set_ne false (by decide), n7]; exact (MapKept.heap_alloc W _).1⟩⟩)
    · have h6 := hb { on := 6, ground := .data } (by simp) rfl
      obtain ⟨hlt, hoc⟩ := hrow h6
      rw [hl] at hoc
      obtain ⟨u0, u1, u2, u3, u4⟩ := Rm.OcAt.c hoc
      have z0 := Rm.OcAt.fz hoc 0; have z1 := Rm.OcAt.fz hoc 1; have z2 := Rm.OcAt.fz hoc 2; have z3 := Rm.OcAt.fz hoc 3; have z4 := Rm.OcAt.fz hoc 4
      have oZ := Rm.OcAt.set hoc ⟨13, 0, 0⟩ (-1) false
      have kZ := Rm.kp_setOc W t ⟨13, 0, 0⟩ (-1) false
      have kQ : Kp noB W8 (Rm.setOc W t ⟨13, 0, 0⟩ (-1) false) := ⟨kZ.os.trans kk.os, kZ.tape.trans kk.tape, kZ.output.trans kk.output, Nat.le_trans kk.size kZ.size, fun i hi hs => (kZ.block i (Nat.lt_of_lt_of_le hi kk.size) (by show ¬ i = t; omega)).trans (kk.block i hi hs)⟩
      have HX : Hid _ := And.intro kQ (And.intro hlt oZ)
      clear kQ oZ kZ hoc
      simp only [Rm.setOc] at HX
      go_simp
      exact hK0 _ ⟨HX.out.1, fun _ => ⟨HX.out.2.1, by rw [getD_set_self (by rw [hz]; exact (by decide : 7 < 8))]; exact HX.out.2.2⟩⟩
  rename_i Kx hKx
  rintro t listed W9 hal ⟨k9, hrow⟩
  obtain ⟨hlt, hoc⟩ := hrow (hal 6 (by exact (by decide : 6 < 8)))
  rw [hal 7 (by exact (by decide : 7 < 8))] at hoc
  refine hKx _ _ ?_
  have o9 : Rm.OcAt W9 t ⟨13, 0, 0⟩ (-1) false := by unfold OcQ at hoc; rw [if_pos rfl] at hoc; exact hoc
  obtain ⟨hfy, hfq, hfg⟩ := HF.out W9 k9
  have hcg : W9.cell? ⟨G, 3, none⟩ = some (.pointer (some ⟨E3, 0, none⟩)) := by rw [Rm.cell_at hfg]; rfl
  clear hoc hrow hal hfy hfq hfg hlt
  go_wp2_with fail
  refine Calls.mono (Rm.find_lacks W9 (some ⟨E3, 0, none⟩) (HL3.out W9 k9) sel) ?_; rintro e w10 ⟨rfl, k10⟩
  rename_i Ka hKa
  refine hKa _ _ ?_
  clear hcg
  unfold Rm.dsZ
  rw [wpList, if_pos (by kernel_rfl)]
  left
  go_simp
  rw [wpList, if_pos (by kernel_rfl)]
  left
  go_simp
  rw [wpList, if_pos (by kernel_rfl)]
  left
  go_simp
  rw [wpList, if_pos (by kernel_rfl)]
  left
  go_simp
  obtain ⟨D, hD⟩ : ∃ D, D = w10.heap.size := ⟨_, rfl⟩
  obtain ⟨W11, hW11⟩ : ∃ W, W = w10.alloc (.cells #[.int .u32 0, .int .u32 0, .int .i64 0, .bool false, .int .i64 0, .bool false, .bool false] 27) := ⟨_, rfl⟩
  have d11 : Rm.DsAt W11 D := by rw [hW11, hD]; exact (MapKept.heap_alloc w10 _).1
  have k11 : Kp noB w10 W11 := by rw [hW11]; exact Kp.alloc _ _ _
  have n11 : W11.heap.size = D + 1 := by rw [hW11, hD, World.size_alloc]
  have m11 : W9.heap.size ≤ D := by rw [hD]; exact k10.size
  rw [← hD, ← hW11]
  clear hD hW11
  rw [wpList, if_pos (by kernel_rfl)]
  left
  go_simp
  obtain ⟨F, hF⟩ : ∃ F, F = D + 1 := ⟨_, rfl⟩
  obtain ⟨W12, hW12⟩ : ∃ W, W = W11.alloc (.cells #[.int .i64 0, .int .i64 0, .int .u32 0] 36) := ⟨_, rfl⟩
  have f12 : Rm.RowT W12 F ⟨0, 0, 0⟩ := by rw [hW12, hF, ← n11]; exact (MapKept.heap_alloc W11 _).1
  have k12 : Kp noB W11 W12 := by rw [hW12]; exact Kp.alloc _ _ _
  have d12 : Rm.DsAt W12 D := (k12.block D (by omega) id).trans d11
  have hDF : Hid (F = D + 1) := hF
  rw [← hF, ← hW12]
  clear hF hW12 d11 n11
  obtain ⟨p0, p1, p2, p3, p4, p5, p6⟩ := d12.c
  have y0 := d12.fz 0; have y1 := d12.fz 1; have y2 := d12.fz 2; have y3 := d12.fz 3; have y4 := d12.fz 4; have y5 := d12.fz 5; have y6 := d12.fz 6
  have d13 := d12.set
  have kD := Rm.kp_setDs W12 D
  obtain ⟨W13, hW13⟩ : ∃ W, W = Rm.setDs W12 D := ⟨_, rfl⟩
  rw [← hW13] at d13 kD
  have f13 := f12.kp kD (by show ¬ F = D; have := hDF.out; omega)
  have hX13 : Hid (Rm.setDs W12 D = W13) := hW13.symm
  simp only [Rm.setDs] at hX13
  clear hW13 d12 f12
  rw [wpList, if_pos (by kernel_rfl)]
  left
  go_simp
  rw [hX13.out]
  clear p0 p1 p2 p3 p4 p5 p6 y0 y1 y2 y3 y4 y5 y6
  have c0 := f13.c0; have c1 := f13.c1; have c2 := f13.c2
  have z0 := f13.fz 0; have z1 := f13.fz 1; have z2 := f13.fz 2
  have f14 := f13.set ⟨13, 0, 0⟩
  have kF := Rm.kp_setFt W13 F ⟨13, 0, 0⟩
  obtain ⟨W14, hW14⟩ : ∃ W, W = Rm.setFt W13 F ⟨13, 0, 0⟩ := ⟨_, rfl⟩
  rw [← hW14] at f14 kF
  have d14 : Rm.DsAt W14 D := (kF.block D (Array.getElem?_eq_some_iff.1 d13).1 (by show ¬ D = F; have := hDF.out; omega)).trans d13
  have hX14 : Hid (Rm.setFt W13 F ⟨13, 0, 0⟩ = W14) := hW14.symm
  simp only [Rm.setFt] at hX14
  clear hW14 d13 f13
  rw [wpList, if_pos (by kernel_rfl)]
  left
  go_simp
  rw [hX14.out]
  clear c0 c1 c2 z0 z1 z2
  have k14 : Kp noB W9 W14 := ⟨kF.os.trans (kD.os.trans (k12.os.trans (k11.os.trans k10.os))), kF.tape.trans (kD.tape.trans (k12.tape.trans (k11.tape.trans k10.tape))), kF.output.trans (kD.output.trans (k12.output.trans (k11.output.trans k10.output))), Nat.le_trans k10.size (Nat.le_trans k11.size (Nat.le_trans k12.size (Nat.le_trans kD.size kF.size))), fun i hi hs => (kF.block i (by have := k10.size; have := k11.size; have := k12.size; have := kD.size; omega) (by show ¬ i = F; have := hDF.out; omega)).trans ((kD.block i (by have := k10.size; have := k11.size; have := k12.size; omega) (by show ¬ i = D; omega)).trans ((k12.block i (by have := k10.size; have := k11.size; omega) id).trans ((k11.block i (by have := k10.size; omega) id).trans (k10.block i hi id))))⟩
  have k14' := k9.trans k14
  have o14 := o9.kp (noRm k14) id
  have HS : Hid (∀ W, Kp noB W14 W → W.cell? ⟨t, 0, none⟩ = some (.int .i64 13) ∧ W.cell? ⟨t, 1, none⟩ = some (.int .i64 0) ∧ W.cell? ⟨t, 2, none⟩ = some (.int .u32 0) ∧ W.cell? ⟨t, 3, none⟩ = some (.int .i64 (-1)) ∧ W.cell? ⟨t, 4, none⟩ = some (.bool false) ∧ W.cell? ⟨Y, 0, none⟩ = some (.int .i64 13) ∧ W.cell? ⟨Y, 1, none⟩ = some (.int .i64 0) ∧ W.cell? ⟨Y, 2, none⟩ = some (.int .u32 0) ∧ W.cell? ⟨D, 0, none⟩ = some (.int .u32 0) ∧ W.cell? ⟨D, 1, none⟩ = some (.int .u32 0) ∧ W.cell? ⟨D, 2, none⟩ = some (.int .i64 0) ∧ W.cell? ⟨D, 3, none⟩ = some (.bool false) ∧ W.cell? ⟨D, 4, none⟩ = some (.int .i64 0) ∧ W.cell? ⟨D, 5, none⟩ = some (.bool false) ∧ W.cell? ⟨D, 6, none⟩ = some (.bool false) ∧ W.cell? ⟨F, 0, none⟩ = some (.int .i64 13) ∧ W.cell? ⟨F, 1, none⟩ = some (.int .i64 0) ∧ W.cell? ⟨F, 2, none⟩ = some (.int .u32 0) ∧ W.cell? ⟨G, 3, none⟩ = some (.pointer (some ⟨E3, 0, none⟩))) := fun W k => by
    obtain ⟨hfy, hfq, hfg⟩ := HF.out W (k14'.trans k)
    obtain ⟨u0, u1, u2, u3, u4⟩ := (o14.kp (noRm k) id).c
    obtain ⟨p0, p1, p2, p3, p4, p5, p6⟩ := Rm.DsAt.c ((k.block D (Array.getElem?_eq_some_iff.1 d14).1 id).trans d14)
    have f15 := f14.kp (noRm k) id
    exact ⟨u0, u1, u2, u3, u4, hfy.c0, hfy.c1, hfy.c2, p0, p1, p2, p3, p4, p5, p6, f15.c0, f15.c1, f15.c2, by rw [Rm.cell_at hfg]; rfl⟩
  have kdr : Kp noB W14 W14.drew := (Kp.refl noB W14).drew
  have HS0 : Hid _ := HS.out _ kdr
  have HLD : Hid (Rm.Lacks W14.drew (some ⟨E3, 0, none⟩)) := HL3.out _ (k14'.trans kdr)
  have HK14 : Hid (Kp noB W8 W14) := k14'
  clear hX13 hX14 kF kD k12 k11 k10 o14 o9 d14 f14 k14 k14' kdr k9 m11
  go_upto_region 15 with fail
  go_region_held3 (fun W => W.cell? ⟨t, 0, none⟩ = some (.int .i64 13) ∧ W.cell? ⟨t, 1, none⟩ = some (.int .i64 0) ∧ W.cell? ⟨t, 2, none⟩ = some (.int .u32 0) ∧ W.cell? ⟨t, 3, none⟩ = some (.int .i64 (-1)) ∧ W.cell? ⟨t, 4, none⟩ = some (.bool false) ∧ W.cell? ⟨Y, 0, none⟩ = some (.int .i64 13) ∧ W.cell? ⟨Y, 1, none⟩ = some (.int .i64 0) ∧ W.cell? ⟨Y, 2, none⟩ = some (.int .u32 0) ∧ W.cell? ⟨D, 0, none⟩ = some (.int .u32 0) ∧ W.cell? ⟨D, 1, none⟩ = some (.int .u32 0) ∧ W.cell? ⟨D, 2, none⟩ = some (.int .i64 0) ∧ W.cell? ⟨D, 3, none⟩ = some (.bool false) ∧ W.cell? ⟨D, 4, none⟩ = some (.int .i64 0) ∧ W.cell? ⟨D, 5, none⟩ = some (.bool false) ∧ W.cell? ⟨D, 6, none⟩ = some (.bool false) ∧ W.cell? ⟨F, 0, none⟩ = some (.int .i64 13) ∧ W.cell? ⟨F, 1, none⟩ = some (.int .i64 0) ∧ W.cell? ⟨F, 2, none⟩ = some (.int .u32 0) ∧ W.cell? ⟨G, 3, none⟩ = some (.pointer (some ⟨E3, 0, none⟩))) (first | with_reducible exact HS0.out | exact HS.out _ (unDrewN k15)) (first | (go_at_call 15; refine Calls.mono (Rm.load_lacks _ (some ⟨E3, 0, none⟩) HLD 3 sel) ?_; rintro e w15 ⟨rfl, k15⟩))
  replace HST : Hid (Kp noB W8 w15) := HK14.out.trans (unDrewN k15)
  clear HS HS0 HLD HK14 k15 hDF
  go_wp2_with fail
  rw [rounds_succ]
  go_wp2
  go_ret
  exact ⟨rfl, (noRm (HK8.out.trans HST.out)).below (Nat.le_refl _) (fun _ f => f.elim)⟩
end Go.Proofs.YtiagfmkinefidaaGreat.Bs
