/- awake: the calls at the head of all statements answer as the document fixes. -/
import Derived.Test.YtoliopjaociijaaPgAlike
import Derived.Test.YtoliopjaociijaaPgFind
namespace Go.Proofs.Ytoliopjaociijaa
open Go.ChangeShapes Go.WideShapes Go.ChangeAt Go.RowKit Go.Maps
set_option linter.unusedVariables false

def exF (i : Nat) : Int := if i = 0 then 4100 else 8200
def exG (i : Nat) : Int := if i = 0 then 8199 else 20485
def memX : Mem := memOf exF exG (fun _ => 0) 2 0
def memY : Mem := fMem memX 4096 4202787 false false false

theorem memX_ok : fOk memX 4096 4202787 false false false = true := by decide +kernel
theorem memX_fr : fFr memX 4096 4202787 = 20480 ∧ pdeA 4096 4202787 = 4100 ∧ fPte memX 4096 4202787 = 8200 ∧ fW memX 4096 4202787 = false ∧ fU memX 4096 4202787 = true := by decide +kernel
theorem memX_code : fCode memX 4096 4202787 false false false = -1 := by decide +kernel
theorem memX_walk : fWalk memX 4096 4202787 false false false = walkV 20480 4100 8200 false true := by
  unfold fWalk
  obtain ⟨h1, h2, h3, h4, h5⟩ := memX_fr
  rw [if_pos memX_ok, h1, h2, h3, h4, h5]
theorem memY_ok : fOk memY 4096 4202787 true true false = false := by decide +kernel
theorem memY_code : fCode memY 4096 4202787 true true false = 7 := by decide +kernel
theorem memY_walk : fWalk memY 4096 4202787 true true false = walkV 0 0 0 false false := by
  unfold fWalk
  rw [if_neg (by rw [memY_ok]; decide)]
theorem memY_mem : fMem memY 4096 4202787 true true false = memY := by
  unfold fMem
  rw [if_neg (by rw [memY_ok]; decide)]
theorem memY_one : memY.read 4100 4 = 8231 := by decide +kernel
theorem memY_two : memY.read 8200 4 = 20517 := by decide +kernel
theorem memX_n : memX.n = 16 := by decide +kernel
theorem memY_n : memY.n = 16 := by decide +kernel

theorem example_any (w : World) : Calls Try.prog 13 #[] w fun e w' => e = .returned (.slice (some ⟨w.heap.size, 0, none⟩) 2 2) ∧ w' = w.alloc (.cells #[.int .u32 4100, .int .u32 8199, .int .u32 8200, .int .u32 20485] 57) := by
  go_enter Try.func13, Try.ntmps13
  go_wp2
  go_ret
  exact ⟨rfl, rfl⟩

set_option maxRecDepth 100000 in
set_option maxHeartbeats 2000000 in
theorem awake_any (w : World) : Calls Try.prog 7 #[] w fun e w' => e = .returned (.bool true) ∧ Kp noB w w' := by
  go_enter Try.func7, Try.ntmps7
  go_wp2_with fail
  refine (example_any w).mono ?_; rintro e w1 ⟨rfl, hw1⟩
  have hh : w1.heap[w.heap.size]? = some (.cells #[.int .u32 4100, .int .u32 8199, .int .u32 8200, .int .u32 20485] 57 (0, 0)) := by rw [hw1]; exact (MapKept.heap_alloc w _).1
  have k1 : Kp noB w w1 := by rw [hw1]; exact Kp.alloc _ _ _
  clear hw1
  have cB := both_any w1 (some ⟨w.heap.size, 0, none⟩) none 2 2 0 0 exF exG (fun _ => 0) (by omega) (by omega) (fun i hi => ⟨w.heap.size, 0, rfl, (Array.getElem?_eq_some_iff.1 hh).1, by
      rw [cell_at hh]; rcases (by omega : i = 0 ∨ i = 1) with rfl | rfl <;> rfl, by
      rw [cell_at hh]; rcases (by omega : i = 0 ∨ i = 1) with rfl | rfl <;> rfl, by
      rcases (by omega : i = 0 ∨ i = 1) with rfl | rfl <;> decide⟩) (fun i hi => absurd hi (by omega))
  have e0 : memOf exF exG (fun _ => 0) 2 0 = memX := rfl
  rw [e0] at cB
  clear e0 hh
  go_wp2_with fail
  refine cB.mono ?_; rintro e w2 ⟨B, R, rfl, hb2, hout, k2⟩
  have hs1 := k1.size
  have HO : Hid (∀ j, inRam B 16 j → w.heap.size ≤ j) := fun j hj => by have := hout j (.inl hj); omega
  replace k2 := k1.trans k2
  have h2 := hb2.ram
  clear k1 cB hout hb2 hs1
  have cF := find_ok w2 B memX h2 4096 4202787 false false false (by omega) (by omega) (by omega) (by omega)
  unfold FdPost at cF
  rw [memX_walk, memX_code, memX_n] at cF
  unfold wayV walkV at cF
  go_wp2_with fail
  refine cF.mono ?_; rintro e w3 ⟨rfl, h3, k3⟩
  replace h3 : RamAt w3 B memY := h3
  replace k3 := k2.over k3 (fun j hj f => by have := HO.out j f; omega)
  clear k2 h2 cF
  have cG := find_ok (w3.alloc (.cells #[.int .u32 20480, .int .u32 4100, .int .u32 8200, .bool false, .bool true] 32)) B memY (h3.alloc _) 4096 4202787 true true false (by omega) (by omega) (by omega) (by omega)
  unfold FdPost at cG
  rw [memY_walk, memY_code, memY_n, memY_mem] at cG
  unfold wayV walkV at cG
  have rK : RowK (w3.alloc (.cells #[.int .u32 20480, .int .u32 4100, .int .u32 8200, .bool false, .bool true] 32)) w3.heap.size 20480 4100 8200 false true := (MapKept.heap_alloc w3 _).1
  have nZ : ¬ inRam B 16 w3.heap.size := fun f => by have := h3.lt; rw [memY_n] at this; have := f.2; omega
  have k4 := k3.trans (Kp.alloc noB w3 (.cells #[.int .u32 20480, .int .u32 4100, .int .u32 8200, .bool false, .bool true] 32))
  go_wp2_with fail
  refine cG.mono ?_; rintro e w5 ⟨rfl, h5, k5⟩
  replace rK := rK.kp k5 nZ
  replace k5 := k4.over k5 (fun j hj f => by have := HO.out j f; omega)
  clear k4 h3 cG k3
  obtain ⟨Z, hZ⟩ : ∃ Z, Z = w3.heap.size := ⟨_, rfl⟩
  rw [← hZ] at rK ⊢
  clear hZ nZ
  have HR1 : Hid (∀ W, RamAt W B memY → Calls Try.prog 12 #[.pointer (some ⟨B + 3, 0, none⟩), .int .u32 4100, .int .i64 4] W fun e w' => e = .returned (.tuple #[.int .u32 8231, .int .i64 0]) ∧ Kp noB W w') := fun W hW => by
    have := read_ok W B memY hW 4100 4 (by omega) (by omega) rfl
    rw [show (4 : Int).toNat = 4 from rfl, memY_one] at this
    exact this
  have HR2 : Hid (∀ W, RamAt W B memY → Calls Try.prog 12 #[.pointer (some ⟨B + 3, 0, none⟩), .int .u32 8200, .int .i64 4] W fun e w' => e = .returned (.tuple #[.int .u32 20517, .int .i64 0]) ∧ Kp noB W w') := fun W hW => by
    have := read_ok W B memY hW 8200 4 (by omega) (by omega) rfl
    rw [show (4 : Int).toNat = 4 from rfl, memY_two] at this
    exact this
  go_wp2_with fail
  refine (HR1.out _ (h5.alloc _)).mono ?_; rintro e w6 ⟨rfl, k6⟩
  have h6 := (h5.alloc (.cells #[.int .u32 0, .int .u32 0, .int .u32 0, .bool false, .bool false] 32)).kp k6 (fun _ _ f => f)
  replace k6 := (Kp.alloc noB w5 _).trans k6
  replace rK := rK.kp k6 (fun f => f)
  replace k6 := k5.trans k6
  clear k5 h5
  go_wp2_with fail
  refine (HR2.out _ h6).mono ?_; rintro e w7 ⟨rfl, k7⟩
  replace rK := rK.kp k7 (fun f => f)
  replace k7 := k6.trans k7
  have d0 := rK.c0; have d1 := rK.c1; have d2 := rK.c2; have d3 := rK.c3; have d4 := rK.c4
  clear k6 h6
  go_wp2
  go_ret
  exact ⟨rfl, k7⟩
end Go.Proofs.Ytoliopjaociijaa
