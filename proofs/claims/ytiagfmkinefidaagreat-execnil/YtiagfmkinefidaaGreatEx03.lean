/- The bus and its devices: RamOps. -/
import Derived.Test.YtiagfmkinefidaaGreatEx02
namespace Go.Proofs.YtiagfmkinefidaaGreat.Rm
open Go.ChangeShapes Go.WideShapes Go.ChangeAt Go.RowKit Go.Maps
set_option linter.unusedVariables false
set_option maxRecDepth 20000
def noB (k : Nat) : Prop := False
/-- One step more, in blocks that were not there before, or that may turn. -/
theorem Kp.over {S T : Nat → Prop} {a b c : World} (h : Kp T a b) (k : Kp S b c) (hS : ∀ j, j < a.heap.size → S j → T j) : Kp T a c :=
  ⟨k.os.trans h.os, k.tape.trans h.tape, k.output.trans h.output, Nat.le_trans h.size k.size, fun i hi hs => (k.block i (Nat.lt_of_lt_of_le hi h.size) (fun g => hs (hS i hi g))).trans (h.block i hi hs)⟩
theorem ram_gate {w : World} {B : Nat} {M : Mem} (h : RamAt w B M) (b : Bool) : RamAt (w.setCell ⟨B + 3, 1, none⟩ (.bool b)) B { M with closed := b } := by
  have hold : ∀ j, inRam B M.n j → j ≠ B + 3 → (w.setCell ⟨B + 3, 1, none⟩ (.bool b)).heap[j]? = w.heap[j]? := fun j hj hne => Below.heap_setCell _ _ _ _ hne
  exact {
    le := h.le
    r := by rw [heap_setCell_at h.r]; simp
    p := by obtain ⟨D', h1, h2⟩ := h.p; exact ⟨D', owns_at h1 (hold _ ⟨by omega, by omega⟩ (by omega)), h2⟩
    pg := fun i hi => by obtain ⟨cs, h1, h2⟩ := h.pg i hi; exact ⟨cs, (hold _ ⟨by omega, by have : i < M.n := hi; omega⟩ (by omega)).trans h1, h2⟩
    wm := by obtain ⟨D', h1, h2⟩ := h.wm; exact ⟨D', owns_at h1 (hold _ ⟨by omega, by omega⟩ (by omega)), h2⟩
    nm := by obtain ⟨D', h1, h2⟩ := h.nm; exact ⟨D', owns_at h1 (hold _ ⟨by omega, by omega⟩ (by omega)), h2⟩
    wb := h.wb
    nb := h.nb
    bb := h.bb }
theorem gate_ok (w : World) (B : Nat) (M : Mem) (h : RamAt w B M) (b : Bool) :
    Calls Tryz.prog 29 #[.pointer (some ⟨B + 3, 0, none⟩), .bool b] w fun e w' => e = .returned (.tuple #[]) ∧ RamAt w' B { M with closed := !b } ∧ Kp (inRam B M.n) w w' := by
  have c1 := h.c1
  have f1 := h.fz 1
  have R := ram_gate h (!b)
  have K := Kp.setCell (S := inRam B M.n) w (p := ⟨B + 3, 1, none⟩) (show inRam B M.n (B + 3) from ⟨by omega, by omega⟩) (.bool (!b))
  go_enter Tryz.func29, Tryz.ntmps29
  go_wp2
  go_end0
  exact ⟨rfl, R, K⟩
end Go.Proofs.YtiagfmkinefidaaGreat.Rm
