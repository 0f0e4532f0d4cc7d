/- A call of both memories: bytes are laid. -/
import Derived.Test.YtankfdcpnhociaaAsked5
namespace Go.Proofs.Ytankfdcpnhociaa
open Go.ChangeShapes Go.WideShapes Go.ChangeAt Go.RowKit Go.Maps Go.Shelf
set_option linter.unusedVariables false

set_option maxRecDepth 100000 in
set_option maxHeartbeats 2000000 in
theorem asked_7 (w : World) (B : Nat) (R : Rf) (M : Mem) (h : Both w B R M) (a s v : Int) (p : Option Addr) (S o L c : Nat) (vs : List Int) (b : Bool) (a0 : 0 ≤ a) (a1 : a < 4294967296) (hv : vs.length = L) (hL : L < 4611686018427387904)
    (hp : 0 < L → p = some ⟨S, o, none⟩ ∧ L ≤ c ∧ ¬ both B M.n R S ∧ S < w.heap.size ∧ ∀ j, j < L → w.cell? ⟨S, o + j, none⟩ = some (.int .u8 (vs.getD j 0))) (hb : ∀ j, j < L → 0 ≤ vs.getD j 0 ∧ vs.getD j 0 < 256) :
    Calls Try.prog 11 #[.pointer (some ⟨B + 3, 0, none⟩), .pointer (some ⟨R.r, 0, none⟩), .agg (opCells 7 a s v (.slice p L c) b)] w (AskPost w B R M.n) := by
  obtain ⟨w1, hw1⟩ : ∃ w1, w1 = w.alloc (.cells (opCells 7 a s v (.slice p L c) b) 35) := ⟨_, rfl⟩
  have ho : OpAt w1 w.heap.size 7 a s v (.slice p L c) b := by rw [hw1]; exact (MapKept.heap_alloc w _).1
  have k1 : Kp noB w w1 := by rw [hw1]; exact Kp.alloc _ _ _
  have h1 : Both w1 B R M := h.kp k1 (fun _ _ f => f)
  have nb : ¬ both B M.n R w.heap.size := fun f => by have := h.lt f; omega
  have c1 := ho.c1
  have c4 := ho.c4
  obtain ⟨M', hM'⟩ : ∃ M', M' = M.lay true a vs := ⟨_, rfl⟩
  have hn' : M'.n = M.n := by rw [hM']; exact (lay_same true vs M a).1
  have cC := load_ok w1 B M h1.ram a a0 a1 p S o L c vs hv hL (fun q => by
    obtain ⟨q1, q2, q3, q4, q5⟩ := hp q
    exact ⟨q1, q2, fun f => q3 (.inl f), by have := k1.size; omega, fun j hj => cell_kept (q5 j hj) k1 (fun f => f)⟩) hb
  have cR : ∀ W, Kp (inRam B M.n) w1 W → RefAt W R M → Calls Try.prog 28 #[.pointer (some ⟨R.r, 0, none⟩), .int .u32 a, .slice p L c] W (fun e w' => e = .returned (.tuple #[]) ∧ RefAt w' R M' ∧ Kp R.has W w') := fun W kW hW => by
    rw [hM']
    exact refLoad_ok W R M hW a a0 a1 p S o L c vs hv hL (fun q => by
      obtain ⟨q1, q2, q3, q4, q5⟩ := hp q
      exact ⟨q1, fun f => q3 (.inr f), fun j hj => cell_kept (cell_kept (q5 j hj) k1 (fun f => f)) kW (fun f => q3 (.inl f))⟩)
  rw [← hM'] at cC
  clear hM' hp hb hv
  rw [hw1] at cC c1 c4
  have HW : Hid (w1 = w.alloc (.cells (opCells 7 a s v (.slice p L c) b) 35)) := hw1
  have HR : Hid (∀ W, Kp (inRam B M.n) w1 W → RefAt W R M → Calls Try.prog 28 #[.pointer (some ⟨R.r, 0, none⟩), .int .u32 a, .slice p L c] W (fun e w' => e = .returned (.tuple #[]) ∧ RefAt w' R M' ∧ Kp R.has W w')) := cR
  clear hw1 cR
  unfold opCells at *
  go_enter Try.func11, Try.ntmps11
  go_wp2_with fail
  refine cC.mono ?_; rintro e w2 ⟨rfl, hr2, k2⟩
  rw [← HW.out] at k2
  have ho2 := ho.kp k2 (fun f => nb (.inl f))
  have d1 := ho2.c1
  have d4 := ho2.c4
  have hf2 : RefAt w2 R M := h1.ref.kp k2 (fun j hj f => h1.ap j hj f)
  clear c1 c4 ho cC
  go_wp2_with fail
  refine (HR.out w2 k2 hf2).mono ?_; rintro e w3 ⟨rfl, hf3, k3⟩
  have ho3 := ho2.kp k3 (fun f => nb (.inr f))
  have e1 := ho3.c1
  have hr3 : RamAt w3 B M' := hr2.kp k3 (fun j hj f => h1.ap j f (by rw [hn'] at hj; exact hj))
  have hB3 : Both w3 B R M' := ⟨hr3, hf3, fun j hj f => h1.ap j hj (by rw [hn'] at f; exact f)⟩
  have k4 : Kp (both B M.n R) w w3 := ((k1.mono (T := both B M.n R) (fun _ _ f => f.elim)).over k2 (fun j hj f => .inl f)).over k3 (fun j hj f => .inr f)
  have cC := wd_code w3 B R M' hB3 a a0 a1
  have cR := wd_ref w3 B R M' hB3 a a0 a1
  have c1k : ∀ W, Kp noB w3 W → W.cell? ⟨w.heap.size, 1, none⟩ = some (.int .u32 a) := fun W kk => cell_kept e1 kk (fun f => f)
  obtain ⟨wd, hwd⟩ : ∃ wd, wd = Wd M' a := ⟨_, rfl⟩
  rw [← hwd] at cC cR
  have HC : Hid (∀ W, Kp noB w3 W → Calls Try.prog 22 #[.pointer (some ⟨B + 3, 0, none⟩), .int .u32 a] W fun e w' => e = .returned (.bool wd) ∧ Kp noB w3 w') := cC
  have HR2 : Hid (∀ W, Kp noB w3 W → Calls Try.prog 30 #[.pointer (some ⟨R.r, 0, none⟩), .int .u32 a] W fun e w' => e = .returned (.bool wd) ∧ Kp noB w3 w') := cR
  have HK : Hid (∀ W, Kp noB w3 W → W.cell? ⟨w.heap.size, 1, none⟩ = some (.int .u32 a)) := c1k
  clear cC cR c1k hwd d1 d4 ho2 k2 k3 hr2 hf2 hr3 hf3 HR
  go_upto_region 34 with fail
  go_region_with (first
    | (go_at_call 22; refine (HC.out _ (by first | assumption | exact Kp.refl _ _ | exact (Kp.refl _ _).drewN 1)).mono ?_; rintro e w' ⟨rfl, kq⟩; have cq := HK.out _ kq)
    | (go_at_call 30; refine (HR2.out _ (by first | assumption | exact Kp.refl _ _ | exact (Kp.refl _ _).drewN 1)).mono ?_; rintro e w' ⟨rfl, kq2⟩; have cq2 := HK.out _ kq2))
  all_goals
    go_wp2
    go_ret
    exact ⟨ret_bool (by simp), M', hn', hB3.kp kq2 (fun _ _ f => f), k4.over kq2 (fun _ _ f => f.elim)⟩
end Go.Proofs.Ytankfdcpnhociaa
