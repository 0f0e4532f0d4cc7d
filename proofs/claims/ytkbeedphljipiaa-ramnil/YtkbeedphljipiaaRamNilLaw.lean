/- The walk of the statement RamNil: calls on no memory answer ErrArg, or nothing. -/
import Derived.Test.YtkbeedphljipiaaRamNamesLaw
namespace Go.Proofs.Ytkbeedphljipiaa
open Go.ChangeShapes Go.WideShapes Go.ChangeAt Go.RowKit
set_option linter.unusedVariables false

set_option maxRecDepth 100000 in
set_option maxHeartbeats 1000000 in
theorem RamNil_walk (k a s v : Int) (sl : Value) (b : Bool) (hsl : sl.oneCell' = true) (w : World) :
    Calls Try.prog 6 #[.agg #[.int .i64 k, .int .u32 a, .int .i64 s, .int .u32 v, sl, .bool b]] w fun e w' => e = .returned (.bool true) ∧ Below w.heap.size w w' := by
  obtain ⟨w1, hw1⟩ : ∃ w1, w1 = w.alloc (.cells #[.int .i64 k, .int .u32 a, .int .i64 s, .int .u32 v, sl, .bool b] 35) := ⟨_, rfl⟩
  have hnew : w1.heap[w.heap.size]? = some (.cells #[.int .i64 k, .int .u32 a, .int .i64 s, .int .u32 v, sl, .bool b] 35 (0, 0)) := by rw [hw1]; exact (MapKept.heap_alloc w _).1
  have k1 : Kp noB w w1 := by rw [hw1]; exact Kp.alloc _ _ _
  have hlt : w.heap.size < w1.heap.size := by rw [hw1]; simp
  have cA := awake_any w1
  rw [hw1] at cA
  have HW : Hid (w1 = w.alloc (.cells #[.int .i64 k, .int .u32 a, .int .i64 s, .int .u32 v, sl, .bool b] 35)) := hw1
  clear hw1
  go_enter Try.func6, Try.ntmps6
  go_wp2_with fail
  refine cA.mono ?_; rintro e w2 ⟨rfl, k2⟩
  rw [← HW.out] at k2
  have hh : w2.heap[w.heap.size]? = some (.cells #[.int .i64 k, .int .u32 a, .int .i64 s, .int .u32 v, sl, .bool b] 35 (0, 0)) := (k2.block _ hlt (fun f => f)).trans hnew
  have c1 : w2.cell? ⟨w.heap.size, 1, none⟩ = some (.int .u32 a) := by rw [cell_at hh]; rfl
  have c2 : w2.cell? ⟨w.heap.size, 2, none⟩ = some (.int .i64 s) := by rw [cell_at hh]; rfl
  have c3 : w2.cell? ⟨w.heap.size, 3, none⟩ = some (.int .u32 v) := by rw [cell_at hh]; rfl
  have c4 : w2.cell? ⟨w.heap.size, 4, none⟩ = some sl := by rw [cell_at hh]; rfl
  replace k2 := k1.over k2 (fun _ _ f => f)
  clear cA hh hnew HW hlt k1
  go_wp2_with fail
  refine (read_nil w2 a s).mono ?_; rintro e w' ⟨rfl, hw⟩; replace hw := hw.symm; subst hw
  go_wp2_with fail
  refine (gate_nil w2 true).mono ?_; rintro e w' ⟨rfl, hw⟩; replace hw := hw.symm; subst hw
  go_wp2_with fail
  refine (watch_nil w2 a).mono ?_; rintro e w' ⟨rfl, hw⟩; replace hw := hw.symm; subst hw
  go_wp2_with fail
  refine (load_nil w2 a sl).mono ?_; rintro e w' ⟨rfl, hw⟩; replace hw := hw.symm; subst hw
  go_wp2_with fail
  refine (write_nil w2 a s v).mono ?_; rintro e w' ⟨rfl, hw⟩; replace hw := hw.symm; subst hw
  go_wp2_with fail
  refine (rom_nil w2 s true).mono ?_; rintro e w' ⟨rfl, hw⟩; replace hw := hw.symm; subst hw
  go_wp2_with fail
  refine (watched_nil w2 a).mono ?_; rintro e w' ⟨rfl, hw⟩; replace hw := hw.symm; subst hw
  go_wp2_with fail
  refine (written_nil w2).mono ?_; rintro e w' ⟨rfl, hw⟩; replace hw := hw.symm; subst hw
  go_wp2_with fail
  refine (dump_nil w2 a 3).mono ?_; rintro e w' ⟨rfl, hw⟩; replace hw := hw.symm; subst hw
  go_wp2_with fail
  refine (len_nil w2).mono ?_; rintro e w' ⟨rfl, hw⟩; replace hw := hw.symm; subst hw
  go_wp2
  go_ret
  exact ⟨rfl, k2.all⟩
end Go.Proofs.Ytkbeedphljipiaa
