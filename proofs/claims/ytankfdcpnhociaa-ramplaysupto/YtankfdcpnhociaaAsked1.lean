/- A call of both memories: a value is read. -/
import Derived.Test.YtankfdcpnhociaaAsked0
namespace Go.Proofs.Ytankfdcpnhociaa
open Go.ChangeShapes Go.WideShapes Go.ChangeAt Go.RowKit Go.Maps Go.Shelf
set_option linter.unusedVariables false

/-- The call as it was handed over, in a block of its own. -/
def OpAt (W : World) (blk : Nat) (k a s v : Int) (sl : Value) (b : Bool) : Prop := W.heap[blk]? = some (.cells (opCells k a s v sl b) 35 (0, 0))

theorem OpAt.kp {S : Nat → Prop} {w w' : World} {blk : Nat} {k a s v : Int} {sl : Value} {b : Bool} (h : OpAt w blk k a s v sl b) (q : Kp S w w') (hS : ¬ S blk) : OpAt w' blk k a s v sl b :=
  (q.block blk (Array.getElem?_eq_some_iff.1 h).1 hS).trans h
theorem OpAt.c1 {w : World} {blk : Nat} {k a s v : Int} {sl : Value} {b : Bool} (h : OpAt w blk k a s v sl b) : w.cell? ⟨blk, 1, none⟩ = some (.int .u32 a) := by rw [cell_at h]; rfl
theorem OpAt.c2 {w : World} {blk : Nat} {k a s v : Int} {sl : Value} {b : Bool} (h : OpAt w blk k a s v sl b) : w.cell? ⟨blk, 2, none⟩ = some (.int .i64 s) := by rw [cell_at h]; rfl
theorem OpAt.c3 {w : World} {blk : Nat} {k a s v : Int} {sl : Value} {b : Bool} (h : OpAt w blk k a s v sl b) : w.cell? ⟨blk, 3, none⟩ = some (.int .u32 v) := by rw [cell_at h]; rfl
theorem OpAt.c4 {w : World} {blk : Nat} {k a s v : Int} {sl : Value} {b : Bool} (h : OpAt w blk k a s v sl b) : w.cell? ⟨blk, 4, none⟩ = some sl := by rw [cell_at h]; rfl
theorem OpAt.c5 {w : World} {blk : Nat} {k a s v : Int} {sl : Value} {b : Bool} (h : OpAt w blk k a s v sl b) : w.cell? ⟨blk, 5, none⟩ = some (.bool b) := by rw [cell_at h]; rfl

set_option maxRecDepth 100000 in
set_option maxHeartbeats 2000000 in
theorem asked_1 (w : World) (B : Nat) (R : Rf) (M : Mem) (h : Both w B R M) (a s v : Int) (sl : Value) (b : Bool) (hsl : sl.oneCell' = true) (a0 : 0 ≤ a) (a1 : a < 4294967296) (s0 : -9223372036854775808 ≤ s) (s1 : s ≤ 9223372036854775807) :
    Calls Try.prog 11 #[.pointer (some ⟨B + 3, 0, none⟩), .pointer (some ⟨R.r, 0, none⟩), .agg (opCells 1 a s v sl b)] w (AskPost w B R M.n) := by
  obtain ⟨w1, hw1⟩ : ∃ w1, w1 = w.alloc (.cells (opCells 1 a s v sl b) 35) := ⟨_, rfl⟩
  have ho : OpAt w1 w.heap.size 1 a s v sl b := by rw [hw1]; exact (MapKept.heap_alloc w _).1
  have k1 : Kp noB w w1 := by rw [hw1]; exact Kp.alloc _ _ _
  have h1 : Both w1 B R M := h.kp k1 (fun _ _ f => f)
  have c1 := ho.c1
  have c2 := ho.c2
  cases hs : okS s
  · have cC := read_no w1 ⟨B + 3, 0, none⟩ a s s0 s1 hs
    have cR := refRead_no w1 ⟨R.r, 0, none⟩ a s hs
    rw [hw1] at cC c1 c2
    have HW : Hid (w1 = w.alloc (.cells (opCells 1 a s v sl b) 35)) := hw1
    clear hw1 ho
    unfold opCells at *
    go_enter Try.func11, Try.ntmps11
    go_wp2_with fail
    refine cC.mono ?_; rintro e w2 ⟨rfl, hw2⟩
    rw [← HW.out] at hw2 c1 c2
    subst hw2
    clear cC
    go_wp2_with fail
    refine cR.mono ?_; rintro e w3 ⟨rfl, hw3⟩
    replace hw3 := hw3.symm
    subst hw3
    clear cR
    go_wp2
    go_ret
    exact ⟨rfl, M, rfl, h1, k1.mono (fun _ _ f => f.elim)⟩
  · have cC := read_ok w1 B M h1.ram a s a0 a1 hs
    obtain ⟨rv, hrv⟩ : ∃ rv, rv = M.read a s.toNat := ⟨_, rfl⟩
    rw [← hrv] at cC
    have HRV : Hid (rv = M.read a s.toNat) := hrv
    rw [hw1] at cC c1 c2
    have HW : Hid (w1 = w.alloc (.cells (opCells 1 a s v sl b) 35)) := hw1
    clear hw1 hrv
    unfold opCells at *
    go_enter Try.func11, Try.ntmps11
    go_wp2_with fail
    refine cC.mono ?_; rintro e w2 ⟨rfl, k2⟩
    rw [← HW.out] at k2
    have h2 := h1.kp k2 (fun _ _ f => f)
    have d1 := cell_kept ho.c1 k2 (fun f => f)
    have d2 := cell_kept ho.c2 k2 (fun f => f)
    have cR := refRead_ok w2 R M h2.ref (fun y y0 y1 => rd_bd h2.ram y y0 y1) a s a0 a1 hs
    rw [← HRV.out] at cR
    clear cC c1 c2 ho
    go_wp2_with fail
    refine cR.mono ?_; rintro e w3 ⟨rfl, k3⟩
    clear cR
    go_wp2
    go_ret
    exact ⟨ret_bool (by simp), M, rfl, h2.kp k3 (fun _ _ f => f), ((k1.over k2 (fun _ _ f => f)).over k3 (fun _ _ f => f)).mono (fun _ _ f => f.elim)⟩
end Go.Proofs.Ytankfdcpnhociaa
