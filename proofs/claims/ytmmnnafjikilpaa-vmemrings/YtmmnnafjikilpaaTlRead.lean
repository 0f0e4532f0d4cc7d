/- The contract of read: the words of a walk as they are now. -/
import Derived.Test.YtmmnnafjikilpaaTlMap
import Derived.Test.YtmmnnafjikilpaaPgFind
import Derived.Deep.RegionHeld3
namespace Go.Proofs.Ytmmnnafjikilpaa
open Go.ChangeShapes Go.WideShapes Go.ChangeAt Go.RowKit Go.Maps
set_option linter.unusedVariables false

def RowT2 (W : World) (X : Nat) (p q : Int) : Prop := W.heap[X]? = some (.cells #[.int .u32 p, .int .u32 q] 146 (0, 0))
theorem RowT2.c0 {W : World} {X : Nat} {p q : Int} (h : RowT2 W X p q) : W.cell? ⟨X, 0, none⟩ = some (.int .u32 p) := by rw [cell_at h]; rfl
theorem RowT2.c1 {W : World} {X : Nat} {p q : Int} (h : RowT2 W X p q) : W.cell? ⟨X, 1, none⟩ = some (.int .u32 q) := by rw [cell_at h]; rfl
theorem RowT2.fz {W : World} {X : Nat} {p q : Int} (h : RowT2 W X p q) (j : Nat) : W.frozen? ⟨X, j, none⟩ = false := frozen_at h
theorem RowT2.lt {W : World} {X : Nat} {p q : Int} (h : RowT2 W X p q) : X < W.heap.size := (Array.getElem?_eq_some_iff.1 h).1
theorem RowT2.kp {S : Nat → Prop} {W W' : World} {X : Nat} {p q : Int} (h : RowT2 W X p q) (k : Kp S W W') (hS : ¬ S X) : RowT2 W' X p q := (k.block X h.lt hS).trans h
theorem RowT2.s0 {W : World} {X : Nat} {p q : Int} (h : RowT2 W X p q) (v : Int) : RowT2 (W.setCell ⟨X, 0, none⟩ (.int .u32 v)) X v q := heap_setCell_at h _
theorem RowT2.s1 {W : World} {X : Nat} {p q : Int} (h : RowT2 W X p q) (v : Int) : RowT2 (W.setCell ⟨X, 1, none⟩ (.int .u32 v)) X p v := heap_setCell_at h _

theorem cell_kp' {S : Nat → Prop} {W W' : World} {b o : Nat} {v : Value} (h : W.cell? ⟨b, o, none⟩ = some v) (k : Kp S W W') (hb : b < W.heap.size) (hS : ¬ S b) : W'.cell? ⟨b, o, none⟩ = some v := by
  have e := k.block b hb hS
  unfold World.cell? at h ⊢
  simp only [e]
  exact h

set_option maxRecDepth 100000 in
set_option maxHeartbeats 2000000 in
theorem tlRead_ok (w : World) (K B pl tn : Nat) (D : DataW Unit) (M : Mem) (h : TlbD w K B pl tn D) (hr : RamAt w B M) (f p q : Int) (bw bu : Bool) (p0 : 0 ≤ p) (p1 : p < 4294967296) (q0 : 0 ≤ q) (q1 : q < 4294967296) :
    Calls Try.prog 72 #[.pointer (some ⟨K + 1, 0, none⟩), walkV f p q bw bu] w fun e w' => e = .returned (.agg #[.int .u32 (M.read p 4), .int .u32 (M.read q 4)]) ∧ Kp noB w w' := by
  have HR : Hid (∀ W, RamAt W B M → Calls Try.prog 62 #[.pointer (some ⟨B + 3, 0, none⟩), .int .u32 p, .int .i64 4] W fun e w' => e = .returned (.tuple #[.int .u32 (M.read p 4), .int .i64 0]) ∧ Kp noB W w') := fun W hW => read_ok W B M hW p 4 p0 p1 rfl
  have HQ : Hid (∀ W, RamAt W B M → Calls Try.prog 62 #[.pointer (some ⟨B + 3, 0, none⟩), .int .u32 q, .int .i64 4] W fun e w' => e = .returned (.tuple #[.int .u32 (M.read q 4), .int .i64 0]) ∧ Kp noB W w') := fun W hW => read_ok W B M hW q 4 q0 q1 rfl
  unfold walkV
  obtain ⟨X, hX⟩ : ∃ X, w.heap.size = X := ⟨_, rfl⟩
  have HX : Hid (w.heap.size = X) := hX
  obtain ⟨W0, hW0⟩ : ∃ W, W = (w.alloc (.cells #[.int .u32 f, .int .u32 p, .int .u32 q, .bool bw, .bool bu] 142)).alloc (.cells #[.int .u32 0, .int .u32 0] 146) := ⟨_, rfl⟩
  have k0 : Kp noB w W0 := by rw [hW0]; exact (Kp.alloc _ _ _).trans (Kp.alloc _ _ _)
  have rK : RowK W0 X f p q bw bu := by
    rw [hW0]
    have e0 := (MapKept.heap_alloc w (.cells #[.int .u32 f, .int .u32 p, .int .u32 q, .bool bw, .bool bu] 142)).1
    rw [hX] at e0
    exact (Below.heap_alloc _ _ _ (by simp; omega)).trans e0
  have r2 : RowT2 W0 (X + 1) 0 0 := by
    rw [hW0]
    have e0 := (MapKept.heap_alloc (w.alloc (.cells #[.int .u32 f, .int .u32 p, .int .u32 q, .bool bw, .bool bu] 142)) (.cells #[.int .u32 0, .int .u32 0] 146)).1
    have e1 : (w.alloc (.cells #[.int .u32 f, .int .u32 p, .int .u32 q, .bool bw, .bool bu] 142)).heap.size = X + 1 := by simp [hX]
    rw [e1] at e0
    exact e0
  have h0 : RamAt W0 B M := hr.kp k0 (fun _ _ f => f)
  have t0 : TlbD W0 K B pl tn D := h.kp k0 (fun _ _ f => f)
  clear hr h
  go_enter Try.func72, Try.ntmps72
  go_upto_region 1 with fail
  rw [← hW0]
  have e1 : X + 1 = X + 1 := rfl
  clear hW0 hX e1
  have hT := t0.lt
  have hXl := rK.lt
  have a0 : RamAt W0.drew B M := h0.kept (fun _ _ => rfl)
  have HS0 : Hid (W0.drew.cell? ⟨K + 1, 0, none⟩ = some (.pointer (some ⟨B + 3, 0, none⟩)) ∧ W0.drew.cell? ⟨X, 1, none⟩ = some (.int .u32 p)) := ⟨t0.c0, rK.c1⟩
  have HSK : Hid (∀ W', Kp noB W0.drew W' → (W'.cell? ⟨K + 1, 0, none⟩ = some (.pointer (some ⟨B + 3, 0, none⟩)) ∧ W'.cell? ⟨X, 1, none⟩ = some (.int .u32 p))) := fun W' k => ⟨cell_kp' HS0.out.1 k hT (fun f => f), cell_kp' HS0.out.2 k hXl (fun f => f)⟩
  clear hT hXl
  go_region_held3 (fun W => W.cell? ⟨K + 1, 0, none⟩ = some (.pointer (some ⟨B + 3, 0, none⟩)) ∧ W.cell? ⟨X, 1, none⟩ = some (.int .u32 p))
    (first | with_reducible exact HS0.out | with_reducible exact HSK.out _ k1)
    (first | (go_at_call 62; refine (HR.out _ (by assumption)).mono ?_; rintro e w1 ⟨rfl, k1⟩))
  replace k1 : Kp noB W0 w1 := ⟨k1.os, k1.tape, k1.output, k1.size, k1.block⟩
  replace rK := rK.kp k1 (fun f => f)
  replace r2 := r2.kp k1 (fun f => f)
  replace h0 := h0.kp k1 (fun _ _ f => f)
  replace t0 := t0.kp k1 (fun _ _ f => f)
  replace k0 := k0.trans k1
  clear a0 HS0 HSK HR k1
  have hT := t0.lt
  have hXl := rK.lt
  have a0 : RamAt w1.drew B M := h0.kept (fun _ _ => rfl)
  have HS0 : Hid (w1.drew.cell? ⟨K + 1, 0, none⟩ = some (.pointer (some ⟨B + 3, 0, none⟩)) ∧ w1.drew.cell? ⟨X, 2, none⟩ = some (.int .u32 q)) := ⟨t0.c0, rK.c2⟩
  have HSK : Hid (∀ W', Kp noB w1.drew W' → (W'.cell? ⟨K + 1, 0, none⟩ = some (.pointer (some ⟨B + 3, 0, none⟩)) ∧ W'.cell? ⟨X, 2, none⟩ = some (.int .u32 q))) := fun W' k => ⟨cell_kp' HS0.out.1 k hT (fun f => f), cell_kp' HS0.out.2 k hXl (fun f => f)⟩
  clear hT hXl
  go_upto_region 2 with fail
  go_region_held3 (fun W => W.cell? ⟨K + 1, 0, none⟩ = some (.pointer (some ⟨B + 3, 0, none⟩)) ∧ W.cell? ⟨X, 2, none⟩ = some (.int .u32 q))
    (first | with_reducible exact HS0.out | with_reducible exact HSK.out _ k2)
    (first | (go_at_call 62; refine (HQ.out _ (by assumption)).mono ?_; rintro e w2 ⟨rfl, k2⟩))
  replace k2 : Kp noB w1 w2 := ⟨k2.os, k2.tape, k2.output, k2.size, k2.block⟩
  replace r2 := r2.kp k2 (fun f => f)
  replace k0 := k0.trans k2
  clear a0 HS0 HSK HQ k2
  have d0 := r2.c0; have d1 := r2.c1
  have f0 := r2.fz 0; have f1 := r2.fz 1
  have z0 := r2.s0 (M.read p 4)
  have z1 := z0.s1 (M.read q 4)
  go_wp2
  refine bodyPost_ret (v := .agg #[.int .u32 (M.read p 4), .int .u32 (M.read q 4)]) ?_ rfl ⟨rfl, ?_⟩
  · simp [results, Try.results72, go_sem, z0.c0, z1.c1]
  · exact (k0.own' (by have := HX.out; omega) _).own' (by have := HX.out; omega) _
end Go.Proofs.Ytmmnnafjikilpaa
