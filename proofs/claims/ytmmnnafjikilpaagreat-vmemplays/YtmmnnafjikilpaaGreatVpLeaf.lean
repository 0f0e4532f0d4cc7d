/- The document's leaves: bits of words, sizes, the ring, faults. -/
import Derived.Test.YtmmnnafjikilpaaGreatVpMath
import Derived.Test.YtmmnnafjikilpaaGreatVj
import Derived.Test.YtmmnnafjikilpaaGreatVn
namespace Go.Proofs.YtmmnnafjikilpaaGreat
open Go.ChangeShapes Go.WideShapes Go.ChangeAt Go.RowKit Go.Maps
set_option linter.unusedVariables false
set_option maxRecDepth 20000

theorem vHas31 (w : World) (n : Int) (n0 : 0 ≤ n) (n1 : n < 4294967296) : Calls Tryz.prog 77 #[.int .u32 n, .int .i64 31] w fun e w' => e = .returned (.bool (hasF n 2147483648)) ∧ w' = w := by
  go_enter Tryz.func77, Tryz.ntmps77
  go_wp2
  go_ret
  exact ⟨rfl, rfl⟩
theorem vHas16 (w : World) (n : Int) (n0 : 0 ≤ n) (n1 : n < 4294967296) : Calls Tryz.prog 77 #[.int .u32 n, .int .i64 16] w fun e w' => e = .returned (.bool (hasF n 65536)) ∧ w' = w := by
  go_enter Tryz.func77, Tryz.ntmps77
  go_wp2
  go_ret
  exact ⟨rfl, rfl⟩

theorem vSized (w : World) (z : Int) : Calls Tryz.prog 49 #[.int .i64 z] w fun e w' => e = .returned (.bool (okS z)) ∧ w' = w := by
  go_enter Tryz.func49, Tryz.ntmps49
  go_wp2
  all_goals go_ret
  all_goals exact ⟨ret_bool (by first | (subst_vars; rfl) | (unfold okS; rw [Bool.eq_iff_iff]; simp_all)), rfl⟩

theorem vNone (w : World) : Calls Tryz.prog 80 #[] w fun e w' => e = .returned noFt.val ∧ Kp noB w w' := by
  go_enter Tryz.func80, Tryz.ntmps80
  go_wp2
  refine bodyPost_ret (v := .agg #[.int .i64 (-1), .int .i64 (-1), .int .u32 0]) (by simp [results, Tryz.results80, go_sem]) rfl ⟨rfl, ?_⟩
  exact Kp.alloc noB w _

theorem vFaults (w : World) (a b : Int) : Calls Tryz.prog 50 #[.int .i64 a, .int .i64 b] w fun e w' => e = .returned (.agg #[.int .i64 a, .int .i64 b, .int .u32 0]) ∧ Kp noB w w' := by
  go_enter Tryz.func50, Tryz.ntmps50
  go_wp2
  refine bodyPost_ret (v := .agg #[.int .i64 a, .int .i64 b, .int .u32 0]) (by simp [results, Tryz.results50, go_sem]) rfl ⟨rfl, ?_⟩
  exact Kp.alloc noB w _

set_option maxHeartbeats 1000000 in
theorem vRing (w : World) (cs : Array Value) (wf : WfC cs) (c : Cp) (hc : CpC cs c) (ok : c.Ok) : Calls Tryz.prog 78 #[.agg cs] w fun e w' => e = .returned (.int .i64 ((c.seg 1).sel % 4)) ∧ Kp noB w w' := by
  obtain ⟨T, n, Z, h⟩ := vlP
  obtain ⟨vl, vs, va, vb⟩ := h.ops
  have g1 := h.agg; have g2 := h.size; have g3 := h.zero
  have hsz : cs.size = n := by rw [wf.s, h.s]
  have q := ok.sg 1 (by decide)
  have q0 := q.s0; have q1 := q.s1
  have kA := Kp.alloc noB w (.cells cs T)
  have pA : PAt (w.alloc (.cells cs T)) w.heap.size cs := h.at wf w
  have c0 : (w.alloc (.cells cs T)).cell? ⟨w.heap.size, 19, none⟩ = some (.int .u16 (c.seg 1).sel) := pA.cell (hc.sg 1 (by decide)).a0
  have hst := h.new wf w
  clear h wf hc ok q pA
  generalize (c.seg 1).sel = s at *
  go_enter Tryz.func78, Tryz.ntmps78
  simp only [vl, vs, va, vb] at *
  go_wp2
  go_ret
  exact ⟨ret_int (by omega), kA⟩
end Go.Proofs.YtmmnnafjikilpaaGreat
