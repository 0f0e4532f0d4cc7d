/- The contracts of Line and New. -/
import Derived.Test.YteodnlloilmoaaaPtLin
import Derived.Test.YteodnlloilmoaaaPtWrt
namespace Go.Proofs.Yteodnlloilmoaaa
open Go.ChangeShapes Go.WideShapes Go.ChangeAt Go.RowKit
set_option linter.unusedVariables false

theorem line_any {w : World} {B : Nat} {f : Nat → Cn} (h : PAt w B f) (k : Oks f) (now : Int) : Calls Try.prog 15 #[.pointer (some ⟨B, 0, none⟩), .int .u64 now] w fun e w' => e = .returned (.bool ((f 0).line now)) ∧ Kp noB w w' := by
  have H : Hid (Calls _ _ #[.pointer (some ⟨B, 0, none⟩), .int .u64 now] w _) := line_ok (f := f) (i := 0) (c := f 0) ⟨by rw [upd_self]; exact h, by decide, rfl⟩ (k 0) now
  go_enter Try.func15, Try.ntmps15
  go_wp2_with fail
  refine Calls.mono H.out ?_; rintro e w1 ⟨rfl, k1⟩
  go_wp2
  go_ret
  exact ⟨rfl, k1⟩

theorem line_nil (w : World) (now : Int) : Calls Try.prog 15 #[.pointer none, .int .u64 now] w fun e w' => e = .returned (.bool false) ∧ w' = w := by
  go_enter Try.func15, Try.ntmps15
  go_wp2
  go_ret
  exact ⟨rfl, rfl⟩

def z0 : Cn := ⟨0, 0, 0, 0, false, 0, false, false, 0, false⟩
/-- So many are laid. -/
def laid (k : Nat) (j : Nat) : Cn := if j < k then cn0 else z0

theorem laid_upd (k : Nat) : upd (laid k) k cn0 = laid (k + 1) := by
  funext j
  unfold upd laid
  by_cases e : j = k
  · subst e; simp
  · rw [if_neg e]
    by_cases g : j < k
    · rw [if_pos g, if_pos (by omega)]
    · rw [if_neg g, if_neg (by omega)]

theorem laid_self (k : Nat) : laid k k = z0 := by unfold laid; rw [if_neg (by omega)]

def zrow : Array Value := cnC z0 ++ cnC z0 ++ cnC z0

theorem PAt.new (w : World) : PAt (w.alloc (.cells zrow 48)) w.heap.size (laid 0) := by
  refine ⟨zrow, heap_new _ _, rfl, ?_⟩
  intro i k hi hk
  have e : laid 0 i = z0 := by unfold laid; rw [if_neg (by omega)]
  rw [e]
  rcases (by omega : i = 0 ∨ i = 1 ∨ i = 2) with rfl | rfl | rfl <;>
    rcases (by omega : k = 0 ∨ k = 1 ∨ k = 2 ∨ k = 3 ∨ k = 4 ∨ k = 5 ∨ k = 6 ∨ k = 7 ∨ k = 8 ∨ k = 9) with rfl | rfl | rfl | rfl | rfl | rfl | rfl | rfl | rfl | rfl <;> rfl

theorem PAt.all {w : World} {B : Nat} (h : PAt w B (laid 3)) : PAt w B (fun _ => cn0) := by
  obtain ⟨cs, a, b, d⟩ := h.blk
  refine ⟨cs, a, b, fun i k hi hk => ?_⟩
  rw [d i k hi hk]
  unfold laid
  rw [if_pos hi]

set_option maxRecDepth 20000 in
set_option maxHeartbeats 1000000 in
theorem new_ok (w : World) : Calls Try.prog 9 #[] w fun e w' => ∃ B, e = .returned (.pointer (some ⟨B, 0, none⟩)) ∧ w.heap.size ≤ B ∧ PAt w' B (fun _ => cn0) ∧ Kp noB w w' := by
  have h0 : Hid (PAt (w.alloc (.cells zrow 48)) w.heap.size (laid 0)) := PAt.new w
  have k0 : Hid (Kp noB w (w.alloc (.cells zrow 48))) := Kp.alloc _ _ _
  unfold zrow cnC z0 at h0 k0
  simp only [List.append_toArray, List.cons_append, List.nil_append] at h0 k0
  go_enter Try.func9, Try.ntmps9
  go_wp2
  obtain ⟨B, hB⟩ : ∃ B, B = w.heap.size := ⟨_, rfl⟩
  rw [← hB] at h0 ⊢
  generalize w.alloc _ = w0 at h0 k0 ⊢
  have lB : w.heap.size ≤ B := by omega
  clear hB
  go_loopw [5] (fun s5 wr => ∃ k : Nat, s5 = .int .i64 k ∧ k ≤ 3 ∧ PAt wr B (laid k) ∧ Kp noB w wr) (fun s5 _ => (3 - intOf s5).toNat)
  case atStart => exact ⟨0, rfl, by omega, h0.out, k0.out⟩
  case round =>
    clear h0 k0
    obtain ⟨k, rfl, hk, hP, kr⟩ := hrel
    rcases (by omega : k = 0 ∨ k = 1 ∨ k = 2 ∨ k = 3) with rfl | rfl | rfl | rfl
    · have h := (⟨by rw [← laid_self 0, upd_self]; exact hP, by decide, rfl⟩ : CAt wr B 0 (laid 0) 0 z0)
      have HR : Hid _ := row10 h cn0
      have c0 := h.c0
      have y0 := h.fz 0
      have c1 := h.c1
      have y1 := h.fz 1
      have c2 := h.c2
      have y2 := h.fz 2
      have c3 := h.c3
      have y3 := h.fz 3
      have c4 := h.c4
      have y4 := h.fz 4
      have c5 := h.c5
      have y5 := h.fz 5
      have c6 := h.c6
      have y6 := h.fz 6
      have c7 := h.c7
      have y7 := h.fz 7
      have c8 := h.c8
      have y8 := h.fz 8
      have c9 := h.c9
      have y9 := h.fz 9
      simp only [Nat.reduceAdd] at c1 c2 c3 c4 c5 c6 c7 c8 c9
      clear h hP
      go_wp2
      go_roundw
      case rel =>
        have r := HR.out _ rfl
        have hL : upd (laid 0) 0 cn0 = laid (0 + 1) := laid_upd 0
        refine ⟨1, rfl, by omega, hL ▸ r.1.pit, kr.over r.2 (fun j hj e => by unfold isB at e; omega)⟩
      case measure => simp [intOf]
    · have h := (⟨by rw [← laid_self 1, upd_self]; exact hP, by decide, rfl⟩ : CAt wr B 10 (laid 1) 1 z0)
      have HR : Hid _ := row10 h cn0
      have c0 := h.c0
      have y0 := h.fz 10
      have c1 := h.c1
      have y1 := h.fz 11
      have c2 := h.c2
      have y2 := h.fz 12
      have c3 := h.c3
      have y3 := h.fz 13
      have c4 := h.c4
      have y4 := h.fz 14
      have c5 := h.c5
      have y5 := h.fz 15
      have c6 := h.c6
      have y6 := h.fz 16
      have c7 := h.c7
      have y7 := h.fz 17
      have c8 := h.c8
      have y8 := h.fz 18
      have c9 := h.c9
      have y9 := h.fz 19
      simp only [Nat.reduceAdd] at c1 c2 c3 c4 c5 c6 c7 c8 c9
      clear h hP
      go_wp2
      go_roundw
      case rel =>
        have r := HR.out _ rfl
        have hL : upd (laid 1) 1 cn0 = laid (1 + 1) := laid_upd 1
        refine ⟨2, rfl, by omega, hL ▸ r.1.pit, kr.over r.2 (fun j hj e => by unfold isB at e; omega)⟩
      case measure => simp [intOf]
    · have h := (⟨by rw [← laid_self 2, upd_self]; exact hP, by decide, rfl⟩ : CAt wr B 20 (laid 2) 2 z0)
      have HR : Hid _ := row10 h cn0
      have c0 := h.c0
      have y0 := h.fz 20
      have c1 := h.c1
      have y1 := h.fz 21
      have c2 := h.c2
      have y2 := h.fz 22
      have c3 := h.c3
      have y3 := h.fz 23
      have c4 := h.c4
      have y4 := h.fz 24
      have c5 := h.c5
      have y5 := h.fz 25
      have c6 := h.c6
      have y6 := h.fz 26
      have c7 := h.c7
      have y7 := h.fz 27
      have c8 := h.c8
      have y8 := h.fz 28
      have c9 := h.c9
      have y9 := h.fz 29
      simp only [Nat.reduceAdd] at c1 c2 c3 c4 c5 c6 c7 c8 c9
      clear h hP
      go_wp2
      go_roundw
      case rel =>
        have r := HR.out _ rfl
        have hL : upd (laid 2) 2 cn0 = laid (2 + 1) := laid_upd 2
        refine ⟨3, rfl, by omega, hL ▸ r.1.pit, kr.over r.2 (fun j hj e => by unfold isB at e; omega)⟩
      case measure => simp [intOf]
    · go_wp2
      go_ret
      exact ⟨B, rfl, lB, hP.all, kr⟩
end Go.Proofs.Yteodnlloilmoaaa
