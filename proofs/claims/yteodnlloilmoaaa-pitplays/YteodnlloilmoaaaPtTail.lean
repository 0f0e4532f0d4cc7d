/- The contracts of a counter's value and line. -/
import Derived.Test.YteodnlloilmoaaaPtLeaf
namespace Go.Proofs.Yteodnlloilmoaaa
open Go.ChangeShapes Go.WideShapes Go.ChangeAt Go.RowKit
set_option linter.unusedVariables false

/-- The world behind 'modes'. -/
def mdW (w : World) : World := (w.alloc mdL).alloc (.map (mdEs w.heap.size) 3)

theorem mdW_size (w : World) : (mdW w).heap.size = w.heap.size + 2 := by simp [mdW]
theorem mdW_kp (w : World) : Kp noB w (mdW w) := (Kp.alloc _ _ _).trans (Kp.alloc _ _ _)
theorem mdW_map (w : World) : (mdW w).heap[w.heap.size + 1]? = some (.map (mdEs w.heap.size) 3) := by
  have := heap_new (w.alloc mdL) (.map (mdEs w.heap.size) 3)
  rw [show (w.alloc mdL).heap.size = w.heap.size + 1 by simp] at this
  exact this

/-- What the map tells of a mode; b: where 'left' lies. -/
def mdR (b : Nat) (m : Int) : Value :=
  if m = 0 then .tuple #[.agg #[fV0, fL0], .bool true]
  else if m = 2 then .tuple #[.agg #[fL, fL2 b], .bool true]
  else if m = 3 then .tuple #[.agg #[fL, fL3], .bool true]
  else .tuple #[.agg #[.nilFunc, .nilFunc], .bool false]

theorem look_md (b q : Nat) (w : World) (hb : w.heap[b]? = some (.map (mdEs q) 3)) (m : Int) : (Instr.lookup 69 (.map (some b)) (.int .u8 m) true).run Try.prog w = .ok (mdR q m) w := by
  unfold mdR
  by_cases e0 : m = 0
  · subst e0
    rw [if_pos rfl]
    exact look_any b w (mdEs q) 3 hb 0 (some (0, .agg #[fV0, fL0])) rfl
  · rw [if_neg e0]
    by_cases e2 : m = 2
    · subst e2
      rw [if_pos rfl]
      exact look_any b w (mdEs q) 3 hb 2 (some (1, .agg #[fL, fL2 q])) rfl
    · rw [if_neg e2]
      by_cases e3 : m = 3
      · subst e3
        rw [if_pos rfl]
        exact look_any b w (mdEs q) 3 hb 3 (some (2, .agg #[fL, fL3])) rfl
      · rw [if_neg e3]
        refine look_any b w (mdEs q) 3 hb m none ?_
        have a0 : (m == 0) = false := by simp [e0]
        have a2 : (m == 2) = false := by simp [e2]
        have a3 : (m == 3) = false := by simp [e3]
        simp [mdEs, Instr.findNow, Instr.sameNow, a0, a2, a3]

theorem look_w (W : World) (m : Int) : (Instr.lookup 69 (.map (some (W.heap.size + 1))) (.int .u8 m) true).run Try.prog (mdW W) = .ok (mdR W.heap.size m) (mdW W) := look_md _ _ _ (mdW_map W) m
theorem look_wa (W : World) (m : Int) (b : Obj) : (Instr.lookup 69 (.map (some (W.heap.size + 1))) (.int .u8 m) true).run Try.prog ((mdW W).alloc b) = .ok (mdR W.heap.size m) ((mdW W).alloc b) := look_md _ _ _ (heap_kept (mdW_map W) (Kp.alloc noB _ _) id) m

section
variable {w : World} {B o : Nat} {f : Nat → Cn} {i : Nat} {c : Cn}

theorem CAt.md (h : CAt w B o f i c) : CAt (mdW w) B o f i c := h.kept (mdW_kp w) id

end

def m0 : Obj := .cells #[.nilFunc, .nilFunc] 67


theorem m0_at (w : World) : (mdW (w.alloc m0).drew).heap[w.heap.size]? = some m0 := heap_kept (S := noB) (heap_new w m0) ((Kp.refl noB (w.alloc m0)).drew.trans (mdW_kp _)) id
theorem m0_c (w : World) {k : Nat} (hk : k < 2) : (mdW (w.alloc m0).drew).cell? ⟨w.heap.size, k, none⟩ = some .nilFunc := by
  have h := m0_at w
  generalize mdW (w.alloc m0).drew = W at h ⊢
  unfold m0 at h
  rcases (by omega : k = 0 ∨ k = 1) with rfl | rfl <;> simp [World.cell?, h]
theorem m0_z (w : World) (k : Nat) : (mdW (w.alloc m0).drew).frozen? ⟨w.heap.size, k, none⟩ = false := by
  have h := m0_at w
  generalize mdW (w.alloc m0).drew = W at h ⊢
  unfold m0 at h
  simp [World.frozen?, h]

theorem mdW_left (w : World) : (mdW w).cell? ⟨w.heap.size, 0, none⟩ = some fL := by
  have h : (mdW w).heap[w.heap.size]? = some mdL := heap_kept (S := noB) (heap_new w mdL) (Kp.alloc _ _ _) id
  generalize mdW w = W at h ⊢
  unfold mdL at h
  simp [World.cell?, h]

/-- What stands behind the map was asked: its answer's two functions at q, 'left' at b. -/
structure Tl (w W : World) (q b : Nat) (v l : Value) : Prop where
  x0 : W.cell? ⟨q, 0, none⟩ = some v
  x1 : W.cell? ⟨q, 1, none⟩ = some l
  left : W.cell? ⟨b, 0, none⟩ = some fL
  kp : Kp noB w W

theorem tlA (w : World) (v l : Value) : Tl w ((mdW w.drew).alloc (.cells #[v, l] 67)) (w.heap.size + 2) w.heap.size v l := by
  have h : ((mdW w.drew).alloc (.cells #[v, l] 67)).heap[w.heap.size + 2]? = some (.cells #[v, l] 67) := by
    have := heap_new (mdW w.drew) (.cells #[v, l] 67)
    rw [mdW_size] at this
    exact this
  refine ⟨by simp [World.cell?, h], by simp [World.cell?, h], ?_, ((Kp.refl noB w).drew.trans (mdW_kp _)).trans (Kp.alloc _ _ _)⟩
  have k := mdW_left w.drew
  have s := mdW_size w.drew
  generalize mdW w.drew = W at k s ⊢
  rw [World.cell?_alloc_lt _ _ _ (by rw [s]; show w.heap.size < w.heap.size + 2; omega)]
  exact k

theorem tlB (w : World) (v l : Value) : Tl w (((mdW (w.alloc m0).drew).setCell ⟨w.heap.size, 0, none⟩ v).setCell ⟨w.heap.size, 1, none⟩ l) w.heap.size (w.heap.size + 1) v l := by
  have h := m0_at w
  have k := mdW_left (w.alloc m0).drew
  have p := mdW_kp (w.alloc m0).drew
  have sz : w.heap.size + 2 ≤ (mdW (w.alloc m0).drew).heap.size := by rw [mdW_size]; simp
  rw [show (w.alloc m0).drew.heap.size = w.heap.size + 1 by simp] at k
  generalize mdW (w.alloc m0).drew = W at h k p sz ⊢
  unfold m0 at h p
  have e := heap_set (k := 1) (v := l) (heap_set (k := 0) (v := v) h)
  have g : Kp (isB w.heap.size) W ((W.setCell ⟨w.heap.size, 0, none⟩ v).setCell ⟨w.heap.size, 1, none⟩ l) := (kpB _ _ _ _).trans (kpB _ _ _ _)
  refine ⟨?_, ?_, ?_, ?_⟩
  · unfold World.cell?; rw [e]; rfl
  · unfold World.cell?; rw [e]; rfl
  · refine (World.cell?_of_block (w := W) (g.block (w.heap.size + 1) ?_ (fun e => by unfold isB at e; omega))).trans k
    have := p.size
    have s2 : w.heap.size + 2 ≤ W.heap.size := sz
    omega
  · exact (((Kp.alloc noB w _).drew).trans p).over g (fun j hj e => by unfold isB at e; omega)
end Go.Proofs.Yteodnlloilmoaaa
