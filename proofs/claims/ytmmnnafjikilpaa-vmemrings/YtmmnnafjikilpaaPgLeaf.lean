/- Contracts of page's small functions. -/
import Derived.Test.YtmmnnafjikilpaaPgMath
import Derived.LoopN
namespace Go.Proofs.Ytmmnnafjikilpaa
open Go.ChangeShapes Go.WideShapes Go.ChangeAt Go.RowKit Go.Maps
set_option linter.unusedVariables false

theorem pgIndex0 (w : World) (l : Int) (l0 : 0 ≤ l) (l1 : l < 4294967296) :
    Calls Try.prog 82 #[.int .u32 l, .int .i64 0] w fun e w' => e = .returned (.int .u32 (l / 4194304)) ∧ w' = w := by
  go_enter Try.func82, Try.ntmps82
  go_wp2
  go_ret
  exact ⟨ret_int (by omega), rfl⟩

theorem pgIndex1 (w : World) (l : Int) (l0 : 0 ≤ l) (l1 : l < 4294967296) :
    Calls Try.prog 82 #[.int .u32 l, .int .i64 1] w fun e w' => e = .returned (.int .u32 (l / 4096 % 1024)) ∧ w' = w := by
  go_enter Try.func82, Try.ntmps82
  go_wp2
  go_ret
  exact ⟨ret_int (by omega), rfl⟩

theorem pgRead_any (w : World) (B : Nat) (M : Mem) (h : RamAt w B M) (x : Int) (x0 : 0 ≤ x) (x1 : x < 4294967296) :
    Calls Try.prog 83 #[.pointer (some ⟨B + 3, 0, none⟩), .int .u32 x] w fun e w' => e = .returned (.int .u32 (M.read x 4)) ∧ Kp noB w w' := by
  have cR := read_ok w B M h x 4 x0 x1 rfl
  rw [show (4 : Int).toNat = 4 from rfl] at cR
  obtain ⟨v, hv⟩ : ∃ v, v = M.read x 4 := ⟨_, rfl⟩
  rw [← hv] at cR ⊢
  clear hv
  go_enter Try.func83, Try.ntmps83
  go_wp2_with fail
  refine cR.mono ?_; rintro e w1 ⟨rfl, k1⟩
  go_wp2
  go_ret
  exact ⟨rfl, k1⟩

theorem pgAsked_any (w : World) (wr us wp : Bool) :
    Calls Try.prog 77 #[.agg #[.bool wr, .bool us, .bool wp]] w fun e w' => e = .returned (.int .i64 (codeW wr us)) ∧ Kp noB w w' := by
  cases wr <;> cases us
  all_goals
    go_enter Try.func77, Try.ntmps77
    go_wp2
    go_ret
    exact ⟨rfl, Kp.alloc _ _ _⟩

theorem pgLets_any (w : World) (f p q : Int) (pw pu wr us wp : Bool) :
    Calls Try.prog 79 #[walkV f p q pw pu, .agg #[.bool wr, .bool us, .bool wp]] w fun e w' => e = .returned (.bool (letsB pw pu wr us wp)) ∧ Kp noB w w' := by
  unfold walkV
  go_enter Try.func79, Try.ntmps79
  go_wp2
  all_goals go_ret
  all_goals refine ⟨ret_bool ?_, by first | exact (Kp.alloc _ _ _).trans (Kp.alloc _ _ _) | exact Kp.alloc _ _ _⟩
  all_goals (cases wr <;> cases us <;> cases wp <;> cases pw <;> cases pu <;> first | rfl | contradiction)

theorem flg_ne (b : Bool) {k : Int} (hk : 0 < k) : (flg b k != 0) = b := by
  have h : ¬ k = 0 := by omega
  cases b <;> simp [flg, h]

/-- Two words and where they lie. -/
def wordsV (p q o t : Int) : Value := .agg #[.int .u32 p, .int .u32 q, .int .u32 o, .int .u32 t]

theorem pgWalk_any (w : World) (p q o t : Int) (o0 : 0 ≤ o) (o1 : o < 4294967296) (t0 : 0 ≤ t) (t1 : t < 4294967296) :
    Calls Try.prog 78 #[wordsV p q o t] w fun e w' => e = .returned (walkV (t - t % 4096) p q (hasF o 2 && hasF t 2) (hasF o 4 && hasF t 4)) ∧ Kp noB w w' := by
  have e1 := not4095 t0 t1
  have e2 := and_both2 o0 o1 t0 t1
  have e4 := and_both4 o0 o1 t0 t1
  have n2 := flg_ne (hasF o 2 && hasF t 2) (k := 2) (by decide)
  have n4 := flg_ne (hasF o 4 && hasF t 4) (k := 4) (by decide)
  rw [← e2] at n2
  rw [← e4] at n4
  obtain ⟨u, hu⟩ : ∃ u, u = t - t % 4096 := ⟨_, rfl⟩
  obtain ⟨bw, hbw⟩ : ∃ bw, bw = (hasF o 2 && hasF t 2) := ⟨_, rfl⟩
  obtain ⟨bu, hbu⟩ : ∃ bu, bu = (hasF o 4 && hasF t 4) := ⟨_, rfl⟩
  rw [← hu] at e1 ⊢
  rw [← hbw] at n2 ⊢
  rw [← hbu] at n4 ⊢
  clear hu hbw hbu e2 e4
  unfold wordsV walkV
  go_enter Try.func78, Try.ntmps78
  go_wp2
  refine bodyPost_ret (v := .agg #[.int .u32 u, .int .u32 p, .int .u32 q, .bool bw, .bool bu]) ?_ rfl ⟨rfl, ?_⟩
  · simp [results, Try.results78, go_sem]
  · exact (((Kp.alloc _ _ _).trans (Kp.alloc _ _ _)))
end Go.Proofs.Ytmmnnafjikilpaa
