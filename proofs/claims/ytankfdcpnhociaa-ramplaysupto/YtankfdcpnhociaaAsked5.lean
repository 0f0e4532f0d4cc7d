/- A call of both memories: an address is watched; the gate is turned. -/
import Derived.Test.YtankfdcpnhociaaAsked6
namespace Go.Proofs.Ytankfdcpnhociaa
open Go.ChangeShapes Go.WideShapes Go.ChangeAt Go.RowKit Go.Maps Go.Shelf
set_option linter.unusedVariables false

/-- Both are told to watch. -/
theorem watch_code (w : World) (B : Nat) (R : Rf) (M : Mem) (h : Both w B R M) (a : Int) (a0 : 0 ≤ a) (a1 : a < 4294967296) : ∃ M', M'.n = M.n ∧ Calls Try.prog 19 #[.pointer (some ⟨B + 3, 0, none⟩), .int .u32 a] w (fun e w' => e = .returned (.tuple #[]) ∧ RamAt w' B M' ∧ Kp (inRam B M.n) w w') ∧
    ∀ W, RefAt W R M → Calls Try.prog 27 #[.pointer (some ⟨R.r, 0, none⟩), .int .u32 a] W (fun e w' => e = .returned (.tuple #[]) ∧ RefAt w' R M' ∧ Kp R.has W w') := by
  by_cases hin : M.place a < 4096 * M.n
  · exact ⟨{ M with wt := fun y => M.wt y || decide (y = M.place a - M.place a % 64) }, rfl, watch_ok w B M h.ram a a0 a1 hin, fun W hW => refWatch_ok W R M hW a a0 a1 hin⟩
  · refine ⟨M, rfl, (watch_no w B M h.ram a a0 a1 (by omega)).mono ?_, fun W hW => (refWatch_no W R M hW a a0 a1 (by omega)).mono ?_⟩
    · rintro e w' ⟨h1, rfl⟩
      exact ⟨h1, h.ram, Kp.refl _ _⟩
    · rintro e w' ⟨h1, k⟩
      exact ⟨h1, hW.kp k (fun _ _ f => f), kp_no k⟩

set_option maxRecDepth 100000 in
set_option maxHeartbeats 2000000 in
theorem asked_5 (w : World) (B : Nat) (R : Rf) (M : Mem) (h : Both w B R M) (a s v : Int) (sl : Value) (b : Bool) (hsl : sl.oneCell' = true) (a0 : 0 ≤ a) (a1 : a < 4294967296) :
    Calls Try.prog 11 #[.pointer (some ⟨B + 3, 0, none⟩), .pointer (some ⟨R.r, 0, none⟩), .agg (opCells 5 a s v sl b)] w (AskPost w B R M.n) := by
  obtain ⟨w1, hw1⟩ : ∃ w1, w1 = w.alloc (.cells (opCells 5 a s v sl b) 35) := ⟨_, rfl⟩
  have ho : OpAt w1 w.heap.size 5 a s v sl b := by rw [hw1]; exact (MapKept.heap_alloc w _).1
  have k1 : Kp noB w w1 := by rw [hw1]; exact Kp.alloc _ _ _
  have h1 : Both w1 B R M := h.kp k1 (fun _ _ f => f)
  have nb : ¬ both B M.n R w.heap.size := fun f => by have := h.lt f; omega
  have c1 := ho.c1
  obtain ⟨M', hn', cC, cR⟩ := watch_code w1 B R M h1 a a0 a1
  rw [hw1] at cC c1
  have HW : Hid (w1 = w.alloc (.cells (opCells 5 a s v sl b) 35)) := hw1
  have HR : Hid (∀ W, RefAt W R M → Calls Try.prog 27 #[.pointer (some ⟨R.r, 0, none⟩), .int .u32 a] W (fun e w' => e = .returned (.tuple #[]) ∧ RefAt w' R M' ∧ Kp R.has W w')) := cR
  clear hw1 cR
  unfold opCells at *
  go_enter Try.func11, Try.ntmps11
  go_wp2_with fail
  refine cC.mono ?_; rintro e w2 ⟨rfl, hr2, k2⟩
  rw [← HW.out] at k2
  have ho2 := ho.kp k2 (fun f => nb (.inl f))
  have d1 := ho2.c1
  have hf2 : RefAt w2 R M := h1.ref.kp k2 (fun j hj f => h1.ap j hj f)
  clear c1 ho cC
  go_wp2_with fail
  refine (HR.out w2 hf2).mono ?_; rintro e w3 ⟨rfl, hf3, k3⟩
  have ho3 := ho2.kp k3 (fun f => nb (.inr f))
  have e1 := ho3.c1
  have hr3 : RamAt w3 B M' := hr2.kp k3 (fun j hj f => h1.ap j f (by rw [hn'] at hj; exact hj))
  have hB3 : Both w3 B R M' := ⟨hr3, hf3, fun j hj f => h1.ap j hj (by rw [hn'] at f; exact f)⟩
  have k4 : Kp (both B M.n R) w w3 := ((k1.mono (T := both B M.n R) (fun _ _ f => f.elim)).over k2 (fun j hj f => .inl f)).over k3 (fun j hj f => .inr f)
  have cC := wd_code w3 B R M' hB3 a a0 a1
  have cR := wd_ref w3 B R M' hB3 a a0 a1
  have c1k : ∀ W, Kp noB w3 W → W.cell? ⟨w.heap.size, 1, none⟩ = some (.int .u32 a) := fun W kk => cell_kept e1 kk (fun f => f)
  obtain ⟨wd, hwd⟩ : ∃ wd, wd = Wd M' a := ⟨_, rfl⟩
  rw [← hwd] at cC cR
  have HC : Hid (∀ W, Kp noB w3 W → Calls Try.prog 22 #[.pointer (some ⟨B + 3, 0, none⟩), .int .u32 a] W fun e w' => e = .returned (.bool wd) ∧ Kp noB w3 w') := cC
  have HR2 : Hid (∀ W, Kp noB w3 W → Calls Try.prog 30 #[.pointer (some ⟨R.r, 0, none⟩), .int .u32 a] W fun e w' => e = .returned (.bool wd) ∧ Kp noB w3 w') := cR
  have HK : Hid (∀ W, Kp noB w3 W → W.cell? ⟨w.heap.size, 1, none⟩ = some (.int .u32 a)) := c1k
  clear cC cR c1k hwd d1 ho2 k2 k3 hr2 hf2 hr3 hf3 HR
  go_upto_region 34 with fail
  go_region_with (first
    | (go_at_call 22; refine (HC.out _ (by first | assumption | exact Kp.refl _ _ | exact (Kp.refl _ _).drewN 1)).mono ?_; rintro e w' ⟨rfl, kq⟩; have cq := HK.out _ kq)
    | (go_at_call 30; refine (HR2.out _ (by first | assumption | exact Kp.refl _ _ | exact (Kp.refl _ _).drewN 1)).mono ?_; rintro e w' ⟨rfl, kq2⟩; have cq2 := HK.out _ kq2))
  all_goals
    go_wp2
    go_ret
    exact ⟨ret_bool (by simp), M', hn', hB3.kp kq2 (fun _ _ f => f), k4.over kq2 (fun _ _ f => f.elim)⟩
end Go.Proofs.Ytankfdcpnhociaa
