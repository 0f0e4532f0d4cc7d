/- A call of both memories: a value is written. -/
import Derived.Test.YtankfdcpnhociaaAsked5
namespace Go.Proofs.Ytankfdcpnhociaa
open Go.ChangeShapes Go.WideShapes Go.ChangeAt Go.RowKit Go.Maps Go.Shelf
set_option linter.unusedVariables false

theorem write_both (w : World) (B : Nat) (R : Rf) (M : Mem) (h : Both w B R M) (a s v : Int) (a0 : 0 ≤ a) (a1 : a < 4294967296) (s0 : -9223372036854775808 ≤ s) (s1 : s ≤ 9223372036854775807) (v0 : 0 ≤ v) (v1 : v < 4294967296) : ∃ (M' : Mem) (ev : Int), M'.n = M.n ∧ Calls Try.prog 16 #[.pointer (some ⟨B + 3, 0, none⟩), .int .u32 a, .int .i64 s, .int .u32 v] w (fun e w' => e = .returned (.int .i64 ev) ∧ RamAt w' B M' ∧ Kp (inRam B M.n) w w') ∧
    ∀ W, RefAt W R M → Calls Try.prog 25 #[.pointer (some ⟨R.r, 0, none⟩), .int .u32 a, .int .i64 s, .int .u32 v] W (fun e w' => e = .returned (.int .i64 ev) ∧ RefAt w' R M' ∧ Kp R.has W w') := by
  cases hs : okS s
  · refine ⟨M, 2, rfl, (write_no w ⟨B + 3, 0, none⟩ a s v s0 s1 hs).mono ?_, fun W hW => (refWrite_no W ⟨R.r, 0, none⟩ a s v hs).mono ?_⟩
    · rintro e w' ⟨h1, rfl⟩
      exact ⟨h1, h.ram, Kp.refl _ _⟩
    · rintro e w' ⟨h1, rfl⟩
      exact ⟨h1, hW, Kp.refl _ _⟩
  · exact ⟨M.lay false a ((bytesV v).take s.toNat), 0, (lay_same _ _ _ _).1, write_ok w B M h.ram a s v a0 a1 v0 v1 hs, fun W hW => refWrite_ok W R M hW a s v a0 a1 v0 v1 hs⟩

set_option maxRecDepth 100000 in
set_option maxHeartbeats 4000000 in
theorem asked_2 (w : World) (B : Nat) (R : Rf) (M : Mem) (h : Both w B R M) (a s v : Int) (sl : Value) (b : Bool) (hsl : sl.oneCell' = true) (a0 : 0 ≤ a) (a1 : a < 4294967296) (s0 : -9223372036854775808 ≤ s) (s1 : s ≤ 9223372036854775807) (v0 : 0 ≤ v) (v1 : v < 4294967296) :
    Calls Try.prog 11 #[.pointer (some ⟨B + 3, 0, none⟩), .pointer (some ⟨R.r, 0, none⟩), .agg (opCells 2 a s v sl b)] w (AskPost w B R M.n) := by
  obtain ⟨w1, hw1⟩ : ∃ w1, w1 = w.alloc (.cells (opCells 2 a s v sl b) 35) := ⟨_, rfl⟩
  have ho : OpAt w1 w.heap.size 2 a s v sl b := by rw [hw1]; exact (MapKept.heap_alloc w _).1
  have k1 : Kp noB w w1 := by rw [hw1]; exact Kp.alloc _ _ _
  have h1 : Both w1 B R M := h.kp k1 (fun _ _ f => f)
  have nb : ¬ both B M.n R w.heap.size := fun f => by have := h.lt f; omega
  have c1 := ho.c1
  have c2 := ho.c2
  have c3 := ho.c3
  have h1d : Both w1.drew B R M := ⟨h1.ram.drewN 1, h1.ref.drewN 1, h1.ap⟩
  have k1d : Kp noB w w1.drew := k1.drewN 1
  have hod : OpAt w1.drew w.heap.size 2 a s v sl b := ho
  obtain ⟨M', ev, hn', cC, cR⟩ := write_both w1.drew B R M h1d a s v a0 a1 s0 s1 v0 v1
  have HC : Hid (Calls Try.prog 16 #[.pointer (some ⟨B + 3, 0, none⟩), .int .u32 a, .int .i64 s, .int .u32 v] w1.drew (fun e w' => e = .returned (.int .i64 ev) ∧ RamAt w' B M' ∧ Kp (inRam B M.n) w1.drew w')) := cC
  have HR : Hid (∀ W, RefAt W R M → Calls Try.prog 25 #[.pointer (some ⟨R.r, 0, none⟩), .int .u32 a, .int .i64 s, .int .u32 v] W (fun e w' => e = .returned (.int .i64 ev) ∧ RefAt w' R M' ∧ Kp R.has W w')) := cR
  have HK : Hid (∀ W, Kp (inRam B M.n) w1.drew W → W.cell? ⟨w.heap.size, 1, none⟩ = some (.int .u32 a) ∧ W.cell? ⟨w.heap.size, 2, none⟩ = some (.int .i64 s) ∧ W.cell? ⟨w.heap.size, 3, none⟩ = some (.int .u32 v)) := fun W kk => ⟨cell_kept hod.c1 kk (fun f => nb (.inl f)), cell_kept hod.c2 kk (fun f => nb (.inl f)), cell_kept hod.c3 kk (fun f => nb (.inl f))⟩
  rw [hw1] at c1 c2 c3
  have HW : Hid (w1 = w.alloc (.cells (opCells 2 a s v sl b) 35)) := hw1
  clear hw1 cC cR
  unfold opCells at *
  go_enter Try.func11, Try.ntmps11
  go_upto_region 7 with fail
  rw [← HW.out] at c1 c2 c3 ⊢
  have HS : Hid (w1.drew.cell? ⟨w.heap.size, 1, none⟩ = some (.int .u32 a) ∧ w1.drew.cell? ⟨w.heap.size, 2, none⟩ = some (.int .i64 s) ∧ w1.drew.cell? ⟨w.heap.size, 3, none⟩ = some (.int .u32 v)) := ⟨hod.c1, hod.c2, hod.c3⟩
  have HK2 : Hid (∀ W W', Kp R.has W W' → (W.cell? ⟨w.heap.size, 1, none⟩ = some (.int .u32 a) ∧ W.cell? ⟨w.heap.size, 2, none⟩ = some (.int .i64 s) ∧ W.cell? ⟨w.heap.size, 3, none⟩ = some (.int .u32 v)) → W'.cell? ⟨w.heap.size, 1, none⟩ = some (.int .u32 a) ∧ W'.cell? ⟨w.heap.size, 2, none⟩ = some (.int .i64 s) ∧ W'.cell? ⟨w.heap.size, 3, none⟩ = some (.int .u32 v)) := fun W W' kk hh => ⟨cell_kept hh.1 kk (fun f => nb (.inr f)), cell_kept hh.2.1 kk (fun f => nb (.inr f)), cell_kept hh.2.2 kk (fun f => nb (.inr f))⟩
  go_region_held3 (fun W => W.cell? ⟨w.heap.size, 1, none⟩ = some (.int .u32 a) ∧ W.cell? ⟨w.heap.size, 2, none⟩ = some (.int .i64 s) ∧ W.cell? ⟨w.heap.size, 3, none⟩ = some (.int .u32 v))
    (first | exact HS.out | exact HK.out _ (by assumption) | exact HK2.out _ _ (by assumption) (by assumption) | assumption)
    (first
      | (go_at_call 16; refine HC.out.mono ?_; rintro e w2 ⟨rfl, hr2, k2⟩; have hf2 : RefAt w2 R M := h1d.ref.kp k2 (fun j hj f => h1.ap j hj f))
      | (go_at_call 25; refine (HR.out _ (by assumption)).mono ?_; rintro e w3 ⟨rfl, hf3, k3⟩))
  all_goals
    go_wp2
    go_ret
    exact ⟨ret_bool (by simp), M', hn', ⟨hr2.kp k3 (fun j hj f => h1.ap j f (by rw [hn'] at hj; exact hj)), hf3, fun j hj f => h1.ap j hj (by rw [hn'] at f; exact f)⟩, ((k1d.mono (T := both B M.n R) (fun _ _ f => f.elim)).over k2 (fun j hj f => .inl f)).over k3 (fun j hj f => .inr f)⟩

end Go.Proofs.Ytankfdcpnhociaa
