/- Contracts of what lies between alu.Do and the leaves: for every input within their kinds they return what is named, and the world has at most new blocks. -/
import Derived.Test.YtelclgelooljlaaALeaf
import Derived.Deep.RegionHeld3
namespace Go.Proofs.Ytelclgelooljlaa
open Go.ChangeShapes Go.WideShapes Go.ChangeAt Go.RowKit
set_option linter.unusedVariables false


theorem work_any {s H M sp bt : Int} (hS : Sz s H M sp bt) (op x y c : Int) (b : Nat) (w : World) (o0 : 0 ≤ op) (o1 : op ≤ 11) (x0 : 0 ≤ x) (x1 : x < M) (y0 : 0 ≤ y) (y1 : y < M) (c0 : 0 ≤ c) (c1 : c ≤ 1) (hb : b < w.heap.size) (hc : w.cell? ⟨b, 0, none⟩ = some (.int .u64 sp)) :
    Calls Try.prog 37 #[.agg #[.int .u32 H, .func (.func 40) #[] #[.pointer (some ⟨b, 0, none⟩)]], .int .i64 op, .int .u32 x, .int .u32 y, .int .u32 c] w fun e w' =>
      e = .returned (.tuple #[.int .u32 (workR op M x y c), .int .u32 (workM op M H x y c)]) ∧ Grown w w' := by
  have m1 : 1 < M := by have := hS.top; omega
  have m0 : 0 < M := by omega
  have hb' : ∀ o, b < (w.alloc o).heap.size := fun o => by simp; omega
  have hc' : ∀ o, (w.alloc o).cell? ⟨b, 0, none⟩ = some (.int .u64 sp) := fun o => by rw [World.cell?_alloc_lt _ _ _ hb]; exact hc
  have cases : op = 0 ∨ op = 1 ∨ op = 2 ∨ op = 3 ∨ op = 4 ∨ op = 5 ∨ op = 6 ∨ op = 7 ∨ op = 8 ∨ op = 9 ∨ op = 10 ∨ op = 11 := by omega
  clear hc hb
  rcases cases with rfl | rfl | rfl | rfl | rfl | rfl | rfl | rfl | rfl | rfl | rfl | rfl
  all_goals
    go_enter Try.func37, Try.ntmps37
    go_wp2_with (first
      | (go_at_call 41; refine (add_any hS _ _ _ _ _ (by omega) (by omega) (by omega) (by omega) (by omega) (by omega) (hb' _) (hc' _)).mono ?_; rintro e w' ⟨rfl, hg⟩)
      | (go_at_call 42; refine (subtract_any hS _ _ _ _ _ (by omega) (by omega) (by omega) (by omega) (by omega) (by omega) (hb' _) (hc' _)).mono ?_; rintro e w' ⟨rfl, hg⟩))
    go_ret2
    exact ⟨rfl, by first | exact Grown.trans (Grown.alloc (Grown.refl _) _ _) hg | exact Grown.alloc (Grown.refl _) _ _⟩

end Go.Proofs.Ytelclgelooljlaa
