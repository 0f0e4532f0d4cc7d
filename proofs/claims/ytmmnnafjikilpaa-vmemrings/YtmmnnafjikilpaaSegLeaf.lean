/- Contracts of what a segment lets: Reach, Fit, Code and what they stand on. -/
import Derived.Test.YtmmnnafjikilpaaSegRights
namespace Go.Proofs.Ytmmnnafjikilpaa.Sg
open Go.ChangeShapes Go.WideShapes Go.ChangeAt Go.RowKit
set_option linter.unusedVariables false

theorem Grown.holds {W w' : World} (h : Grown W w') {p : Addr} {v : Value} (hv : W.cell? p = some v) : w'.cell? p = some v := by
  have hb : p.block < W.heap.size := by
    rcases Nat.lt_or_ge p.block W.heap.size with h | h
    · exact h
    · exfalso
      simp [World.cell?, Array.getElem?_eq_none h] at hv
  rw [Grown.cell h hb, hv]

theorem frozen_of {W w' : World} (h : Grown W w') {p : Addr} (hf : W.frozen? p = false) : w'.frozen? p = false := (h.2.1 p).trans hf

theorem canReach_any (n : Int) (w : World) : Calls Try.prog 67 #[.int .i64 n] w fun e w' => e = .returned (.bool (szB n)) ∧ w' = w := by
  go_enter Try.func67, Try.ntmps67
  go_wp2
  all_goals go_ret
  all_goals exact ⟨ret_bool (by simp [szB, *]), rfl⟩

theorem topOf_any (b l t : Int) (s : Bool) (d : Int) (p g : Bool) (w : World) : Calls Try.prog 68 #[.agg #[.int .u32 b, .int .u32 l, .int .i64 t, .bool s, .int .i64 d, .bool p, .bool g]] w fun e w' => e = .returned (.int .u64 (topB g)) ∧ Grown w w' := by
  go_enter Try.func68, Try.ntmps68
  go_wp2
  all_goals go_ret
  all_goals exact ⟨ret_int (by simp [topB, *]), Grown.alloc (Grown.refl _) _ _⟩


end Go.Proofs.Ytmmnnafjikilpaa.Sg
