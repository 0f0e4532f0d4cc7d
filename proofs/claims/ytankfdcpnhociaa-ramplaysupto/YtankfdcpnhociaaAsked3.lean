/- A call of both memories: the gate is turned. -/
import Derived.Test.YtankfdcpnhociaaAsked5
namespace Go.Proofs.Ytankfdcpnhociaa
open Go.ChangeShapes Go.WideShapes Go.ChangeAt Go.RowKit Go.Maps Go.Shelf
set_option linter.unusedVariables false

theorem RefAt.setClosed {w : World} {R : Rf} {M : Mem} (h : RefAt w R M) (b : Bool) : RefAt (w.setCell ⟨R.r, 4, none⟩ (.bool b)) R { M with closed := b } where
  le := h.le
  ap := h.ap
  st := by rw [heap_setCell_at h.st]; rfl
  cb := h.cb.heap (heap_set_other (fun e => h.ap.rb e.symm))
  co := h.co.heap (heap_set_other (fun e => h.ap.ro e.symm))
  ct := h.ct.heap (heap_set_other (fun e => h.ap.rt e.symm))
  cq := h.cq.heap (heap_set_other (fun e => h.ap.rq e.symm))

set_option maxRecDepth 100000 in
set_option maxHeartbeats 2000000 in
theorem asked_3 (w : World) (B : Nat) (R : Rf) (M : Mem) (h : Both w B R M) (a s v : Int) (sl : Value) (b : Bool) (hsl : sl.oneCell' = true) (a0 : 0 ≤ a) (a1 : a < 4294967296) :
    Calls Try.prog 11 #[.pointer (some ⟨B + 3, 0, none⟩), .pointer (some ⟨R.r, 0, none⟩), .agg (opCells 3 a s v sl b)] w (AskPost w B R M.n) := by
  obtain ⟨w1, hw1⟩ : ∃ w1, w1 = w.alloc (.cells (opCells 3 a s v sl b) 35) := ⟨_, rfl⟩
  have ho : OpAt w1 w.heap.size 3 a s v sl b := by rw [hw1]; exact (MapKept.heap_alloc w _).1
  have k1 : Kp noB w w1 := by rw [hw1]; exact Kp.alloc _ _ _
  have h1 : Both w1 B R M := h.kp k1 (fun _ _ f => f)
  have nb : ¬ both B M.n R w.heap.size := fun f => by have := h.lt f; omega
  have c1 := ho.c1
  have c5 := ho.c5
  obtain ⟨M', hM'⟩ : ∃ M' : Mem, M' = { M with closed := !b } := ⟨_, rfl⟩
  have hn' : M'.n = M.n := by rw [hM']
  have cC := gate_ok w1 B M h1.ram b
  have cS : ∀ W, RefAt W R M → RefAt (W.setCell ⟨R.r, 4, none⟩ (.bool !b)) R M' := fun W hW => by rw [hM']; exact hW.setClosed _
  rw [← hM'] at cC
  clear hM'
  rw [hw1] at cC c1 c5
  have HW : Hid (w1 = w.alloc (.cells (opCells 3 a s v sl b) 35)) := hw1
  have HS : Hid (∀ W, RefAt W R M → RefAt (W.setCell ⟨R.r, 4, none⟩ (.bool !b)) R M') := cS
  clear hw1 cS
  unfold opCells at *
  go_enter Try.func11, Try.ntmps11
  go_wp2_with fail
  refine cC.mono ?_; rintro e w2 ⟨rfl, hr2, k2⟩
  rw [← HW.out] at k2
  have ho2 := ho.kp k2 (fun f => nb (.inl f))
  have d1 := ho2.c1
  have hf2 : RefAt w2 R M := h1.ref.kp k2 (fun j hj f => h1.ap j hj f)
  have d5 := ho2.c5
  have f4 := hf2.c4
  have ff : w2.frozen? ⟨R.r, 4, none⟩ = false := frozen_at hf2.st
  have hf3 := HS.out w2 hf2
  have k3 : Kp R.has w2 (w2.setCell ⟨R.r, 4, none⟩ (.bool !b)) := kp_has (i := 4) (Kp.refl _ w2) (has_r R) _
  obtain ⟨w3, hw3⟩ : ∃ w3, w3 = w2.setCell ⟨R.r, 4, none⟩ (.bool !b) := ⟨_, rfl⟩
  rw [← hw3] at hf3 k3
  have HW3 : Hid (w3 = w2.setCell ⟨R.r, 4, none⟩ (.bool !b)) := hw3
  clear c1 c5 ho cC hw3
  have ho3 := ho2.kp k3 (fun f => nb (.inr f))
  have e1 := ho3.c1
  have hr3 : RamAt w3 B M' := hr2.kp k3 (fun j hj f => h1.ap j f (by rw [hn'] at hj; exact hj))
  have hB3 : Both w3 B R M' := ⟨hr3, hf3, fun j hj f => h1.ap j hj (by rw [hn'] at f; exact f)⟩
  have k4 : Kp (both B M.n R) w w3 := ((k1.mono (T := both B M.n R) (fun _ _ f => f.elim)).over k2 (fun j hj f => .inl f)).over k3 (fun j hj f => .inr f)
  have cC := wd_code w3 B R M' hB3 a a0 a1
  have cR := wd_ref w3 B R M' hB3 a a0 a1
  have c1k : ∀ W, Kp noB w3 W → W.cell? ⟨w.heap.size, 1, none⟩ = some (.int .u32 a) := fun W kk => cell_kept e1 kk (fun f => f)
  obtain ⟨wd, hwd⟩ : ∃ wd, wd = Wd M' a := ⟨_, rfl⟩
  rw [← hwd] at cC cR
  have HC : Hid (∀ W, Kp noB w3 W → Calls Try.prog 22 #[.pointer (some ⟨B + 3, 0, none⟩), .int .u32 a] W fun e w' => e = .returned (.bool wd) ∧ Kp noB w3 w') := cC
  have HR2 : Hid (∀ W, Kp noB w3 W → Calls Try.prog 30 #[.pointer (some ⟨R.r, 0, none⟩), .int .u32 a] W fun e w' => e = .returned (.bool wd) ∧ Kp noB w3 w') := cR
  have HK : Hid (∀ W, Kp noB w3 W → W.cell? ⟨w.heap.size, 1, none⟩ = some (.int .u32 a)) := c1k
  clear cC cR c1k hwd ho2 k2 k3 hr2 hf2 hr3 hf3 HS
  go_upto_region 34 with fail
  rw [← HW3.out]
  clear d1 d5 f4 ff
  go_region_with (first
    | (go_at_call 22; refine (HC.out _ (by first | assumption | exact Kp.refl _ _ | exact (Kp.refl _ _).drewN 1)).mono ?_; rintro e w' ⟨rfl, kq⟩; have cq := HK.out _ kq)
    | (go_at_call 30; refine (HR2.out _ (by first | assumption | exact Kp.refl _ _ | exact (Kp.refl _ _).drewN 1)).mono ?_; rintro e w' ⟨rfl, kq2⟩; have cq2 := HK.out _ kq2))
  all_goals
    go_wp2
    go_ret
    exact ⟨ret_bool (by simp), M', hn', hB3.kp kq2 (fun _ _ f => f), k4.over kq2 (fun _ _ f => f.elim)⟩
end Go.Proofs.Ytankfdcpnhociaa
