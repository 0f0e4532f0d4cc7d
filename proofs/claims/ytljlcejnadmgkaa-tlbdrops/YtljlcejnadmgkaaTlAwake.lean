/- awake: the calls at the head of all statements on tlb answer as the document fixes. -/
import Derived.Test.YtljlcejnadmgkaaTlFind
import Derived.Test.YtljlcejnadmgkaaTlOps
import Derived.Test.YtljlcejnadmgkaaPgAwake
namespace Go.Proofs.Ytljlcejnadmgkaa
open Go.ChangeShapes Go.WideShapes Go.ChangeAt Go.RowKit Go.Maps
set_option linter.unusedVariables false

def memZ : Mem := memY.lay false 8200 (bytesV 24581)
theorem memZ_ok : fOk memZ 4096 4202787 false false false = true := by decide +kernel
theorem memZ_fr : fFr memZ 4096 4202787 = 24576 ∧ pdeA 4096 4202787 = 4100 ∧ fPte memZ 4096 4202787 = 8200 ∧ fW memZ 4096 4202787 = false ∧ fU memZ 4096 4202787 = true := by decide +kernel
theorem memZ_code : fCode memZ 4096 4202787 false false false = -1 := by decide +kernel
theorem memZ_walk : fWalk memZ 4096 4202787 false false false = walkV 24576 4100 8200 false true := by
  unfold fWalk
  obtain ⟨h1, h2, h3, h4, h5⟩ := memZ_fr
  rw [if_pos memZ_ok, h1, h2, h3, h4, h5]
theorem memZ_n : memZ.n = 16 := by decide +kernel
theorem memX_c : memX.closed = false := by decide +kernel
theorem memZ_c : memZ.closed = false := by decide +kernel

theorem out_ram {B n : Nat} {w : World} {K : Nat} (h : B + 4 + n ≤ w.heap.size) (hK : w.heap.size ≤ K) : ∀ j, inTlb K j → ¬ inRam B n j := fun j hj f => by
  have := f.2
  rcases hj with e | e <;> omega

set_option maxRecDepth 100000 in
set_option maxHeartbeats 4000000 in
theorem tlAwake_any (w : World) : Calls Try.prog 8 #[] w fun e w' => e = .returned (.bool true) ∧ Kp noB w w' := by
  obtain ⟨W1, hW1⟩ : ∃ W, W = w.alloc (.cells #[.int .u32 4100, .int .u32 8199, .int .u32 8200, .int .u32 20485] 41) := ⟨_, rfl⟩
  have hh : W1.heap[w.heap.size]? = some (.cells #[.int .u32 4100, .int .u32 8199, .int .u32 8200, .int .u32 20485] 41 (0, 0)) := by rw [hW1]; exact (MapKept.heap_alloc w _).1
  have k1 : Kp noB w W1 := by rw [hW1]; exact Kp.alloc _ _ _
  have cB := both_any W1 (some ⟨w.heap.size, 0, none⟩) none 2 2 0 0 exF exG (fun _ => 0) (by omega) (by omega) (fun i hi => ⟨w.heap.size, 0, rfl, (Array.getElem?_eq_some_iff.1 hh).1, by
      rw [cell_at hh]; rcases (by omega : i = 0 ∨ i = 1) with rfl | rfl <;> rfl, by
      rw [cell_at hh]; rcases (by omega : i = 0 ∨ i = 1) with rfl | rfl <;> rfl, by
      rcases (by omega : i = 0 ∨ i = 1) with rfl | rfl <;> decide⟩) (fun i hi => absurd hi (by omega))
  have e0 : memOf exF exG (fun _ => 0) 2 0 = memX := rfl
  rw [e0] at cB
  clear e0 hh
  rw [hW1] at cB
  go_enter Try.func8, Try.ntmps8
  go_wp2_with fail
  refine cB.mono ?_; rintro e w2 ⟨B, R, rfl, hb2, hout, k2⟩
  rw [← hW1] at k2 hout
  have hs1 := k1.size
  have HO : Hid (∀ j, inRam B 16 j → w.heap.size ≤ j) := fun j hj => by have := hout j (.inl hj); omega
  replace k2 := k1.trans k2
  have h2 := hb2.ram
  have hlt := h2.lt
  rw [memX_n] at hlt
  clear k1 cB hout hb2 hs1 hW1
  have cN := tlNew_ok w2 B 2 (by omega)
  go_wp2_with fail
  refine cN.mono ?_; rintro e w3 ⟨rfl, t3, k3⟩
  replace h2 := h2.kp k3 (fun _ _ f => f)
  have hOR := out_ram (K := w2.heap.size) hlt (Nat.le_refl _)
  have HKw : Hid (w.heap.size ≤ w2.heap.size) := k2.size
  replace k3 := k2.trans k3
  obtain ⟨K, hKe⟩ : ∃ K, K = w2.heap.size := ⟨_, rfl⟩
  rw [← hKe] at t3 hOR HKw ⊢
  clear hKe cN k2 hlt
  have HOT : Hid (∀ j, (inRam B 16 j ∨ inTlb K j) → w.heap.size ≤ j) := fun j hj => by
    rcases hj with f | f
    · exact HO.out j f
    · have := HKw.out
      rcases f with e | e <;> omega
  have cM := tlNew_no w3 ⟨B + 3, 0, none⟩ 65 (by omega) (by omega) (by omega)
  go_wp2_with fail
  refine cM.mono ?_; rintro e w4 ⟨rfl, hw⟩; replace hw := hw.symm; subst hw
  clear cM
  have cF := tlFind_ok w3 K B 2 0 _ memX t3 h2 memX_c 4096 4202787 false false false (by omega) (by omega) (by omega) (by omega) (by omega) (by rw [memX_n]; exact hOR)
  unfold TfPost at cF
  rw [memX_walk, memX_code, memX_n] at cF
  unfold wayV walkV at cF
  go_wp2_with fail
  refine cF.mono ?_; rintro e w5 ⟨rfl, h5, ⟨D5, tn5, t5, ht5⟩, k5⟩
  replace h5 : RamAt w5 B memY := h5
  replace k5 := k3.over k5 (fun j hj f => by have := HOT.out j f; omega)
  clear k3 h2 cF t3
  have kA := Kp.alloc noB w5 (.cells #[.int .u32 20480, .int .u32 4100, .int .u32 8200, .bool false, .bool true] 45)
  have rK : RowK (w5.alloc (.cells #[.int .u32 20480, .int .u32 4100, .int .u32 8200, .bool false, .bool true] 45)) w5.heap.size 20480 4100 8200 false true := (MapKept.heap_alloc w5 _).1
  have hZ : B + 4 + 16 ≤ w5.heap.size := by have := h5.lt; rw [memY_n] at this; exact this
  have hZ2 : K + 1 < w5.heap.size := t5.lt
  replace h5 := h5.kp kA (fun _ _ f => f)
  replace t5 := t5.kp kA (fun _ _ f => f)
  replace k5 := k5.trans kA
  have cW := write_ok _ B memY h5 8200 4 24581 (by omega) (by omega) (by omega) (by omega) rfl
  clear kA
  go_wp2_with fail
  refine cW.mono ?_; rintro e w6 ⟨rfl, h6, k6⟩
  replace h6 : RamAt w6 B memZ := h6
  rw [memY_n] at k6
  have nZ : ¬ inRam B 16 w5.heap.size := fun f => by have := f.2; omega
  have nT : ¬ (inRam B 16 w5.heap.size ∨ inTlb K w5.heap.size) := fun f => by
    rcases f with f | f
    · exact nZ f
    · rcases f with e | e <;> omega
  replace rK := rK.kp k6 nZ
  have t6 := t5.kp k6 (fun j hj => hOR j hj)
  replace k6 := k5.over k6 (fun j hj f => by have := HO.out j f; omega)
  clear cW k5 h5 t5 hZ hZ2
  obtain ⟨Z, hZ⟩ : ∃ Z, Z = w5.heap.size := ⟨_, rfl⟩
  rw [← hZ] at rK nT ⊢
  clear hZ nZ
  have cG := tlFind_ok w6 K B 2 tn5 D5 memZ t6 h6 memZ_c 4096 4202787 false false false (by omega) (by omega) (by omega) (by omega) (by omega) (by rw [memZ_n]; exact hOR)
  unfold TfPost at cG
  rw [memZ_walk, memZ_code, memZ_n] at cG
  unfold wayV walkV at cG
  clear t6
  go_wp2_with fail
  refine cG.mono ?_; rintro e w7 ⟨rfl, h7, _, k7⟩
  replace rK := rK.kp k7 nT
  replace k7 := k6.over k7 (fun j hj f => by have := HOT.out j f; omega)
  clear cG h7 h6 k6
  have kA := Kp.alloc noB w7 (.cells #[.int .u32 24576, .int .u32 4100, .int .u32 8200, .bool false, .bool true] 45)
  replace rK := rK.kp kA (fun f => f)
  replace k7 := k7.trans kA
  have d0 := rK.c0
  clear kA
  go_wp2
  go_ret
  exact ⟨rfl, k7⟩
end Go.Proofs.Ytljlcejnadmgkaa
