/- Contracts of alu.Do, alu.Flags and of what lies between them and the leaves: for every input within their kinds they return what is named, and the world has at most new blocks. -/
import Derived.Test.YtllegaigfpfdkaaAluLeaf
import Derived.Deep.RegionHeld3
namespace Go.Proofs.Ytllegaigfpfdkaa
open Go.ChangeShapes Go.WideShapes Go.ChangeAt Go.RowKit
set_option linter.unusedVariables false


theorem Grown.block {W w' : World} (h : Grown W w') {i : Nat} (hi : i < W.heap.size) : w'.heap[i]? = W.heap[i]? := by
  have k := h.1.2.2 i hi
  split at k
  · rename_i c t fr c' t' fr' e1 e2
    obtain ⟨rfl, rfl, hs, hj⟩ := k
    have : c' = c := Array.ext_getElem? fun j => hj j (fun f => f)
    rw [e1, e2, this]
  · rename_i e1 e2
    rcases k with f | ⟨rfl, rfl⟩
    · exact f.elim
    · rw [e1, e2]
  · exact k

theorem Grown.cell {W w' : World} (h : Grown W w') {p : Addr} (hp : p.block < W.heap.size) : w'.cell? p = W.cell? p := World.cell?_of_block (w := W) (Grown.block h hp)

theorem work_any {s H M sp bt : Int} (hS : Sz s H M sp bt) (op x y c : Int) (b : Nat) (w : World) (o0 : 0 ≤ op) (o1 : op ≤ 11) (x0 : 0 ≤ x) (x1 : x < M) (y0 : 0 ≤ y) (y1 : y < M) (c0 : 0 ≤ c) (c1 : c ≤ 1) (hb : b < w.heap.size) (hc : w.cell? ⟨b, 0, none⟩ = some (.int .u64 sp)) :
    Calls Try.prog 18 #[.agg #[.int .u32 H, .func (.func 28) #[] #[.pointer (some ⟨b, 0, none⟩)]], .int .i64 op, .int .u32 x, .int .u32 y, .int .u32 c] w fun e w' =>
      e = .returned (.tuple #[.int .u32 (workR op M x y c), .int .u32 (workM op M H x y c)]) ∧ Grown w w' := by
  have m1 : 1 < M := by have := hS.top; omega
  have m0 : 0 < M := by omega
  have hb' : ∀ o, b < (w.alloc o).heap.size := fun o => by simp; omega
  have hc' : ∀ o, (w.alloc o).cell? ⟨b, 0, none⟩ = some (.int .u64 sp) := fun o => by rw [World.cell?_alloc_lt _ _ _ hb]; exact hc
  have cases : op = 0 ∨ op = 1 ∨ op = 2 ∨ op = 3 ∨ op = 4 ∨ op = 5 ∨ op = 6 ∨ op = 7 ∨ op = 8 ∨ op = 9 ∨ op = 10 ∨ op = 11 := by omega
  clear hc hb
  rcases cases with rfl | rfl | rfl | rfl | rfl | rfl | rfl | rfl | rfl | rfl | rfl | rfl
  all_goals
    go_enter Try.func18, Try.ntmps18
    go_wp2_with (first
      | (go_at_call 29; refine (add_any hS _ _ _ _ _ (by omega) (by omega) (by omega) (by omega) (by omega) (by omega) (hb' _) (hc' _)).mono ?_; rintro e w' ⟨rfl, hg⟩)
      | (go_at_call 30; refine (subtract_any hS _ _ _ _ _ (by omega) (by omega) (by omega) (by omega) (by omega) (by omega) (hb' _) (hc' _)).mono ?_; rintro e w' ⟨rfl, hg⟩))
    go_ret2
    exact ⟨rfl, by first | exact Grown.trans (Grown.alloc (Grown.refl _) _ _) hg | exact Grown.alloc (Grown.refl _) _ _⟩

theorem Flags_ok {s H M sp bt : Int} (hS : Sz s H M sp bt) (x f : Int) (w : World) (x0 : 0 ≤ x) (x1 : x < 4294967296) (f0 : 0 ≤ f) (f1 : f < 4294967296) :
    Calls Try.prog 12 #[.int .i64 s, .int .u32 x, .int .u32 f] w fun e w' =>
      e = .returned (.tuple #[.int .u32 (byF H (x % M) f), .int .i64 0]) ∧ Grown w w' := by
  have hk := hS.ok
  have m0 : 0 < M := by have := hS.top; omega
  have hr0 : 0 ≤ x % M := Int.emod_nonneg _ (by omega)
  have hr1 : x % M < M := Int.emod_lt_of_pos _ m0
  have hwx : IntKind.u64.wrap x = x := by rw [wrap_u64']; omega
  have hc3 : ∀ o1 o3, (((w.alloc o1).alloc (.cells #[.int .u64 sp] 34)).alloc o3).cell? ⟨w.heap.size + 1, 0, none⟩ = some (.int .u64 sp) := fun o1 o3 => by
    rw [World.cell?_alloc_lt _ _ _ (by simp), World.cell?_alloc_at _ _ _ _ (by simp)]; rfl
  go_enter Try.func12, Try.ntmps12
  go_wp2_with (first
    | (go_at_call 16; refine (isSize_any _ _).mono ?_; rintro e w1 ⟨rfl, hw⟩; replace hw := hw.symm; subst hw)
    | (go_at_call 17; refine (widthOf_any hS _).mono ?_; rintro e w1 ⟨rfl, hw⟩; replace hw := hw.symm; subst hw))
  go_region_held3 (fun w' => w'.cell? ⟨w.heap.size + 1 + 1, 0, none⟩ = some (.int .u32 H) ∧ w'.cell? ⟨w.heap.size + 1 + 1, 1, none⟩ = some (.func (.func 28) #[] #[.pointer (some ⟨w.heap.size + 1, 0, none⟩)]))
    (first | (simp [go_sem]; done) | (refine ⟨?_, ?_⟩ <;> (rw [Grown.cell hg (by simp)]; simp [go_sem])))
    ((first
    | (go_at_call 28; refine (cut_any hS _ _ _ (by omega) (by exact hc3 _ _)).mono ?_; rintro e w1 ⟨rfl, hw⟩; replace hw := hw.symm; subst hw)
    | (go_at_call 20; refine (byResult_any hS _ _ _ _ (by omega) (by omega) (by omega) (by omega)).mono ?_; rintro e w1 ⟨rfl, hg⟩)))
  go_wp2
  go_ret2
  exact ⟨rfl, Grown.trans (Grown.alloc (Grown.alloc (Grown.alloc (Grown.refl _) _ _) _ _) _ _).drew hg⟩

theorem Flags_no (s x f : Int) (w : World) (hk : okSize s = false) :
    Calls Try.prog 12 #[.int .i64 s, .int .u32 x, .int .u32 f] w fun e w' =>
      e = .returned (.tuple #[.int .u32 0, .int .i64 2]) ∧ Grown w w' := by
  go_enter Try.func12, Try.ntmps12
  go_wp2_with (go_at_call 16; refine (isSize_any _ _).mono ?_; rintro e w1 ⟨rfl, hw⟩; replace hw := hw.symm; subst hw)
  go_ret2
  exact ⟨rfl, Grown.refl _⟩
end Go.Proofs.Ytllegaigfpfdkaa
