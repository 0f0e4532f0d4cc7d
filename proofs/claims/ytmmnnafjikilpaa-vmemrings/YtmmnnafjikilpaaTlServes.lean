/- The contract of serves. -/
import Derived.Test.YtmmnnafjikilpaaTlMap
import Derived.Test.YtmmnnafjikilpaaPgFind
namespace Go.Proofs.Ytmmnnafjikilpaa
open Go.ChangeShapes Go.WideShapes Go.ChangeAt Go.RowKit Go.Maps
set_option linter.unusedVariables false

theorem flg_zero (b : Bool) (k : Int) (hk : 0 < k) : (flg b k == 0) = !b := by
  cases b
  · rfl
  · show (k == 0) = false
    simp; omega
theorem and64 {x : Int} (x0 : 0 ≤ x) (x1 : x < 4294967296) : bits .and .u32 x 64 = flg (hasF x 64) 64 := and_pw x0 x1 6 (by decide)
theorem and_both32 {x y : Int} (x0 : 0 ≤ x) (x1 : x < 4294967296) (y0 : 0 ≤ y) (y1 : y < 4294967296) : bits .and .u32 (bits .and .u32 x y) 32 = flg (hasF x 32 && hasF y 32) 32 := and_both x0 x1 y0 y1 5 (by decide)

set_option maxHeartbeats 1000000 in
theorem serves_any (w : World) (e : Ent) (wr us wp : Bool) (o0 : 0 ≤ e.o) (o1 : e.o < 4294967296) (t0 : 0 ≤ e.t) (t1 : e.t < 4294967296) :
    Calls Try.prog 73 #[e.val, wayV wr us wp] w fun x w' => x = .returned (.bool (servesB e wr us)) ∧ Kp noB w w' := by
  obtain ⟨fr, p, q, bw, bu, o, t, tn⟩ := e
  simp only at o0 o1 t0 t1
  have h1 := and64 t0 t1
  have h2 := and_both32 o0 o1 t0 t1
  have f1 := flg_zero (hasF t 64) 64 (by decide)
  have f2 := flg_zero (hasF o 32 && hasF t 32) 32 (by decide)
  have hz : ∀ b c : Bool, (flg (b && c) 32 != 0) = (b && c) := fun b c => by cases b <;> cases c <;> decide
  unfold servesB Ent.val wayV
  simp only
  generalize hasF t 64 = d at *
  have k : Kp noB w ((w.alloc (.cells #[.int .u32 fr, .int .u32 p, .int .u32 q, .bool bw, .bool bu, .int .u32 o, .int .u32 t, .int .u64 tn] 148)).alloc (.cells #[.bool wr, .bool us, .bool wp] 117)) := (Kp.alloc _ _ _).trans (Kp.alloc _ _ _)
  cases wr <;> cases us <;> cases bw <;> cases bu <;> cases d
  all_goals (go_enter Try.func73, Try.ntmps73; go_wp2; go_ret; exact ⟨by simp, k⟩)
end Go.Proofs.Ytmmnnafjikilpaa
