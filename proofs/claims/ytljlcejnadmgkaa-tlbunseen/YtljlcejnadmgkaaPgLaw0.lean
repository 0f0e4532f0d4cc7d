/- What the statements on page take: an ask in a block of its own, a walk by letters. -/
import Derived.Test.YtljlcejnadmgkaaPgAwake
namespace Go.Proofs.Ytljlcejnadmgkaa
open Go.ChangeShapes Go.WideShapes Go.ChangeAt Go.RowKit Go.Maps
set_option linter.unusedVariables false

theorem Kp.every {w w' : World} (h : Kp noB w w') : Below w.heap.size w w' := h.below (Nat.le_refl _) (fun k f => f.elim)

def askV (c l : Int) (wr us wp : Bool) : Value := .agg #[.int .u32 c, .int .u32 l, .bool wr, .bool us, .bool wp]

def RowA (W : World) (X : Nat) (c l : Int) (x y z : Bool) : Prop := W.heap[X]? = some (.cells #[.int .u32 c, .int .u32 l, .bool x, .bool y, .bool z] 39 (0, 0))
theorem RowA.c0 {W : World} {X : Nat} {c l : Int} {x y z : Bool} (h : RowA W X c l x y z) : W.cell? ⟨X, 0, none⟩ = some (.int .u32 c) := by rw [cell_at h]; rfl
theorem RowA.c1 {W : World} {X : Nat} {c l : Int} {x y z : Bool} (h : RowA W X c l x y z) : W.cell? ⟨X, 1, none⟩ = some (.int .u32 l) := by rw [cell_at h]; rfl
theorem RowA.c2 {W : World} {X : Nat} {c l : Int} {x y z : Bool} (h : RowA W X c l x y z) : W.cell? ⟨X, 2, none⟩ = some (.bool x) := by rw [cell_at h]; rfl
theorem RowA.c3 {W : World} {X : Nat} {c l : Int} {x y z : Bool} (h : RowA W X c l x y z) : W.cell? ⟨X, 3, none⟩ = some (.bool y) := by rw [cell_at h]; rfl
theorem RowA.c4 {W : World} {X : Nat} {c l : Int} {x y z : Bool} (h : RowA W X c l x y z) : W.cell? ⟨X, 4, none⟩ = some (.bool z) := by rw [cell_at h]; rfl
theorem RowA.lt {W : World} {X : Nat} {c l : Int} {x y z : Bool} (h : RowA W X c l x y z) : X < W.heap.size := (Array.getElem?_eq_some_iff.1 h).1
theorem RowA.kp {S : Nat → Prop} {W W' : World} {X : Nat} {c l : Int} {x y z : Bool} (h : RowA W X c l x y z) (k : Kp S W W') (hS : ¬ S X) : RowA W' X c l x y z := (k.block X h.lt hS).trans h

theorem fWalk_is (M : Mem) (c l : Int) (wr us wp : Bool) : ∃ (f p q : Int) (a b : Bool), fWalk M c l wr us wp = walkV f p q a b := by
  unfold fWalk
  split
  · exact ⟨_, _, _, _, _, rfl⟩
  · exact ⟨_, _, _, _, _, rfl⟩

theorem fCode_bd (M : Mem) (c l : Int) (wr us wp : Bool) : -1 ≤ fCode M c l wr us wp ∧ fCode M c l wr us wp ≤ 7 := by
  have := codeW_bd wr us
  unfold fCode
  split
  · split <;> omega
  · omega
end Go.Proofs.Ytljlcejnadmgkaa
