/- The document's own memory: how it lies in the world, and the calls that only read it. -/
import Derived.Test.YtmmnnafjikilpaaRamOps2
namespace Go.Proofs.Ytmmnnafjikilpaa
open Go.ChangeShapes Go.WideShapes Go.ChangeAt Go.RowKit Go.Maps
set_option linter.unusedVariables false

/-- A block of its own, cell by cell. -/
def Col (w : World) (blk n : Nat) (ty : TypeId) (f : Nat → Value) : Prop := ∃ cs, w.heap[blk]? = some (.cells cs ty (0, 0)) ∧ cs.size = n ∧ ∀ j, j < n → cs[j]? = some (f j)

theorem Col.cell {w : World} {blk n : Nat} {ty : TypeId} {f : Nat → Value} (h : Col w blk n ty f) {j : Nat} (hj : j < n) : w.cell? ⟨blk, j, none⟩ = some (f j) := by
  obtain ⟨cs, h1, _, h3⟩ := h
  rw [cell_at h1]; exact h3 j hj
theorem Col.frozen {w : World} {blk n : Nat} {ty : TypeId} {f : Nat → Value} (h : Col w blk n ty f) (j : Nat) : w.frozen? ⟨blk, j, none⟩ = false := by
  obtain ⟨cs, h1, _⟩ := h
  exact frozen_at h1
theorem Col.lt {w : World} {blk n : Nat} {ty : TypeId} {f : Nat → Value} (h : Col w blk n ty f) : blk < w.heap.size := by
  obtain ⟨cs, h1, _⟩ := h
  exact (Array.getElem?_eq_some_iff.1 h1).1
theorem Col.heap {w w' : World} {blk n : Nat} {ty : TypeId} {f : Nat → Value} (h : Col w blk n ty f) (e : w'.heap[blk]? = w.heap[blk]?) : Col w' blk n ty f := by
  obtain ⟨cs, h1, h2⟩ := h
  exact ⟨cs, e.trans h1, h2⟩
theorem Col.as {w : World} {blk n : Nat} {ty : TypeId} {f g : Nat → Value} (h : Col w blk n ty f) (e : ∀ j, j < n → f j = g j) : Col w blk n ty g := by
  obtain ⟨cs, h1, h2, h3⟩ := h
  exact ⟨cs, h1, h2, fun j hj => by rw [← e j hj]; exact h3 j hj⟩
theorem Col.set {w : World} {blk n : Nat} {ty : TypeId} {f : Nat → Value} (h : Col w blk n ty f) {i : Nat} (hi : i < n) (v : Value) : Col (w.setCell ⟨blk, i, none⟩ v) blk n ty (fun j => if j = i then v else f j) := by
  obtain ⟨cs, h1, h2, h3⟩ := h
  refine ⟨cs.setIfInBounds i v, heap_setCell_at h1 _, by simpa using h2, fun j hj => ?_⟩
  rw [Array.getElem?_setIfInBounds]
  by_cases e : i = j
  · subst e
    rw [if_pos rfl, if_pos (by omega)]
    simp
  · have e' : ¬ j = i := fun k => e k.symm
    rw [if_neg e, h3 j hj]
    simp [e']

theorem heap_set_other {w : World} {blk i k : Nat} {v : Value} (h : k ≠ blk) : (w.setCell ⟨blk, i, none⟩ v).heap[k]? = w.heap[k]? := by
  by_cases hk : k < w.heap.size
  · exact (Kp.setCell (S := fun j => j = blk) w (p := ⟨blk, i, none⟩) rfl v).block k hk h
  · have e : (w.setCell ⟨blk, i, none⟩ v).heap.size = w.heap.size := by simp [World.setCell]
    rw [Array.getElem?_eq_none (by omega), Array.getElem?_eq_none (by omega)]

/-- The five blocks. -/
structure Rf where
  r : Nat
  b : Nat
  o : Nat
  t : Nat
  q : Nat

def Rf.has (R : Rf) (k : Nat) : Prop := k = R.r ∨ k = R.b ∨ k = R.o ∨ k = R.t ∨ k = R.q

structure Rf.apart (R : Rf) : Prop where
  rb : R.r ≠ R.b
  ro : R.r ≠ R.o
  rt : R.r ≠ R.t
  rq : R.r ≠ R.q
  bo : R.b ≠ R.o
  bt : R.b ≠ R.t
  bq : R.b ≠ R.q
  ot : R.o ≠ R.t
  oq : R.o ≠ R.q
  tq : R.t ≠ R.q

structure RefAt (w : World) (R : Rf) (M : Mem) : Prop where
  le : M.n ≤ 256
  ap : R.apart
  st : w.heap[R.r]? = some (.cells #[.slice (some ⟨R.b, 0, none⟩) (4096 * M.n) (4096 * M.n), .slice (some ⟨R.o, 0, none⟩) M.n M.n, .slice (some ⟨R.t, 0, none⟩) (64 * M.n) (64 * M.n), .slice (some ⟨R.q, 0, none⟩) (64 * M.n) (64 * M.n), .bool M.closed] 103 (0, 0))
  cb : Col w R.b (4096 * M.n) 5 (fun j => .int .u8 (M.byte j))
  co : Col w R.o M.n 4 (fun j => .bool (M.only j))
  ct : Col w R.t (64 * M.n) 4 (fun j => .bool (M.wt (64 * j)))
  cq : Col w R.q (64 * M.n) 4 (fun j => .bool (M.nt (64 * j)))

theorem RefAt.kept {w w' : World} {R : Rf} {M : Mem} (h : RefAt w R M) (e : ∀ k, R.has k → w'.heap[k]? = w.heap[k]?) : RefAt w' R M where
  le := h.le
  ap := h.ap
  st := (e _ (.inl rfl)).trans h.st
  cb := h.cb.heap (e _ (.inr (.inl rfl)))
  co := h.co.heap (e _ (.inr (.inr (.inl rfl))))
  ct := h.ct.heap (e _ (.inr (.inr (.inr (.inl rfl)))))
  cq := h.cq.heap (e _ (.inr (.inr (.inr (.inr rfl)))))

theorem RefAt.lt {w : World} {R : Rf} {M : Mem} (h : RefAt w R M) {k : Nat} (hk : R.has k) : k < w.heap.size := by
  rcases hk with rfl | rfl | rfl | rfl | rfl
  · exact (Array.getElem?_eq_some_iff.1 h.st).1
  · exact h.cb.lt
  · exact h.co.lt
  · exact h.ct.lt
  · exact h.cq.lt

theorem RefAt.kp {S : Nat → Prop} {w w' : World} {R : Rf} {M : Mem} (h : RefAt w R M) (k : Kp S w w') (hS : ∀ j, R.has j → ¬ S j) : RefAt w' R M :=
  h.kept fun i hi => k.block i (h.lt hi) (hS i hi)

theorem RefAt.c0 {w : World} {R : Rf} {M : Mem} (h : RefAt w R M) : w.cell? ⟨R.r, 0, none⟩ = some (.slice (some ⟨R.b, 0, none⟩) (4096 * M.n) (4096 * M.n)) := by rw [cell_at h.st]; rfl
theorem RefAt.c1 {w : World} {R : Rf} {M : Mem} (h : RefAt w R M) : w.cell? ⟨R.r, 1, none⟩ = some (.slice (some ⟨R.o, 0, none⟩) M.n M.n) := by rw [cell_at h.st]; rfl
theorem RefAt.c2 {w : World} {R : Rf} {M : Mem} (h : RefAt w R M) : w.cell? ⟨R.r, 2, none⟩ = some (.slice (some ⟨R.t, 0, none⟩) (64 * M.n) (64 * M.n)) := by rw [cell_at h.st]; rfl
theorem RefAt.c3 {w : World} {R : Rf} {M : Mem} (h : RefAt w R M) : w.cell? ⟨R.r, 3, none⟩ = some (.slice (some ⟨R.q, 0, none⟩) (64 * M.n) (64 * M.n)) := by rw [cell_at h.st]; rfl
theorem RefAt.c4 {w : World} {R : Rf} {M : Mem} (h : RefAt w R M) : w.cell? ⟨R.r, 4, none⟩ = some (.bool M.closed) := by rw [cell_at h.st]; rfl
theorem RefAt.drewN {w : World} {R : Rf} {M : Mem} (h : RefAt w R M) (n : Nat) : RefAt (w.drewN n) R M := h.kept (fun _ _ => rfl)

set_option maxRecDepth 100000 in
theorem refPlace_any (w : World) (R : Rf) (M : Mem) (h : RefAt w R M) (x : Int) (x0 : 0 ≤ x) (x1 : x < 4294967296) :
    Calls Try.prog 65 #[.pointer (some ⟨R.r, 0, none⟩), .int .u32 x] w fun e w' => e = .returned (.tuple #[.int .i64 (M.place x), .bool (decide (M.place x < 4096 * M.n))]) ∧ Kp noB w w' := by
  have c0 := h.c0
  have c4 := h.c4
  obtain ⟨N, hN⟩ : ∃ N : Nat, N = 4096 * M.n := ⟨_, rfl⟩
  have eN : ((4096 * M.n : Int)) = (N : Int) := by omega
  rw [eN]
  rw [← hN] at c0
  clear hN eN
  cases hc : M.closed
  · have hp : M.place x = x := by unfold Mem.place; rw [hc]; simp
    rw [hp]
    rw [hc] at c4
    go_enter Try.func65, Try.ntmps65
    go_wp2
    go_region
    all_goals go_wp2
    exact bodyPost_ret (v := .tuple #[.int .i64 x, .bool (decide (x < (N : Int)))]) (by simp [results, Try.results65, go_sem]) rfl ⟨rfl, (Kp.refl _ w).drewN 1⟩
  · rw [hc] at c4
    by_cases hb : x / 1048576 % 2 = 1
    · have hp : M.place x = x - 1048576 := by unfold Mem.place; rw [if_pos ⟨hc, hb⟩]
      obtain ⟨y, hy⟩ : ∃ y, x - 1048576 = y := ⟨_, rfl⟩
      have y0 : 0 ≤ y := by omega
      have y1 : y < 4294967296 := by omega
      rw [hp, hy]
      go_enter Try.func65, Try.ntmps65
      go_wp2
      go_region
      all_goals go_wp2
      exact bodyPost_ret (v := .tuple #[.int .i64 y, .bool (decide (y < (N : Int)))]) (by simp [results, Try.results65, go_sem]) rfl ⟨rfl, (Kp.refl _ w).drewN 1⟩
    · have hp : M.place x = x := by unfold Mem.place; rw [if_neg (fun f => hb f.2)]
      rw [hp]
      have hb' : (x / 1048576 % 2 == 1) = false := by simp [hb]
      go_enter Try.func65, Try.ntmps65
      go_wp2
      go_region
      all_goals go_wp2
      exact bodyPost_ret (v := .tuple #[.int .i64 x, .bool (decide (x < (N : Int)))]) (by simp [results, Try.results65, go_sem]) rfl ⟨rfl, (Kp.refl _ w).drewN 1⟩

end Go.Proofs.Ytmmnnafjikilpaa
