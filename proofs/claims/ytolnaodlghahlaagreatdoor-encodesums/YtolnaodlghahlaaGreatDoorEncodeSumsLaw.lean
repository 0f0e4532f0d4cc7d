/- The walk of EncodeSums. -/
import Derived.Test.YtolnaodlghahlaaGreatDoorEnSumF
namespace Go.Proofs.YtolnaodlghahlaaGreatDoor
open Go.ChangeShapes Go.WideShapes Go.ChangeAt Go.RowKit
set_option linter.unusedVariables false
set_option maxRecDepth 20000

def absE (a : Int) : Int := if a < 0 then -(a + 1) else a
theorem absE_bd {a : Int} (h : -9223372036854775808 ≤ a ∧ a ≤ 9223372036854775807) : 0 ≤ absE a ∧ absE a ≤ 9223372036854775807 := by
  unfold absE
  split <;> omega

def imm5 : Opd := ⟨3, 0, 0, 0, 0, 0, 0, 0, 5⟩
theorem putN {W : World} {q : Nat} {T : TypeId} {x : Ins} (h : W.heap[q]? = some (.cells (insV x) T (0, 0))) : (storeCells ⟨q, 12, none⟩ imm5.vals.toList).run Tryz.prog W = .ok () (W.setRow q (insV { x with b := imm5 })) :=
  run_storeCells_at Tryz.prog q 12 T imm5.vals.toList 0 (insV x) W h (by show 12 + 0 + 9 ≤ 32; omega) (by simp [imm5, Opd.vals, Value.oneCell'])

set_option maxHeartbeats 8000000 in
theorem EncodeSums_walk (w : World) (a0 : Int) (l0 : -9223372036854775808 ≤ a0) (u0 : a0 ≤ 9223372036854775807) (a1 : Int) (l1 : -9223372036854775808 ≤ a1) (u1 : a1 ≤ 9223372036854775807) (a2 : Int) (l2 : -9223372036854775808 ≤ a2) (u2 : a2 ≤ 9223372036854775807) (a3 : Int) (l3 : 0 ≤ a3) (u3 : a3 ≤ 4294967295) :
    Calls Tryz.prog 7 #[.int .i64 a0, .int .i64 a1, .int .i64 a2, .int .u32 a3] w fun e w' => e = .returned (.bool true) ∧ Below w.heap.size w w' := by
  obtain ⟨T, nI, Z, fsI, psI, h⟩ := vlF
  have H : Hid _ := h
  obtain ⟨vl, vs, vb, va, ve⟩ := h.ops
  have v1 := h.agg
  have v2 := h.size
  have v3 := h.zero
  have v4 := h.under
  have v5 := h.map
  have v7 := h.zs
  have v8 := h.zn
  have HA : Hid _ := eawake_ok w
  have d0 := absE_bd ⟨l0, u0⟩
  have d1 := absE_bd ⟨l1, u1⟩
  have d2 := absE_bd ⟨l2, u2⟩
  clear h
  go_enter Tryz.func7, Tryz.ntmps7
  simp only [vl, vs, va]
  clear vl vs vb va ve
  go_wp2_with fail
  refine Calls.mono HA.out ?_; rintro e w1 ⟨rfl, k1⟩
  have K1 : Hid (Kp noB w w1) := k1
  clear k1 HA
  have hO : (#[.int .i64 3, .int .i64 0, .int .i64 0, .int .i64 0, .int .i64 0, .int .i64 0, .int .i64 0, .int .u32 0, .int .u32 5] : Array Value) = imm5.vals := rfl
  have hO1 : imm5.vals.size = 9 := rfl
  have hO2 : imm5.vals.toList.length = 9 := rfl
  go_upto_if 20 with fail
  go_cut [0] from 18 (fun s0 wq => s0 = .int .i64 (absE a0) ∧ wq = w1)
  case first =>
    by_cases hn : a0 < 0
    · have hw1 : IntKind.i64.wrap (a0 + 1) = a0 + 1 := IntWalk.i64_in _ ⟨by omega, by omega⟩
      have hw2 : IntKind.i64.wrap (-(a0 + 1)) = -(a0 + 1) := IntWalk.i64_in _ ⟨by omega, by omega⟩
      have HN : Hid _ := hn
      go_wp2
      go_meet
      case rel => exact ⟨by unfold absE; rw [if_pos HN.out], rfl⟩
    · have HN : Hid _ := hn
      go_wp2
      go_meet
      case rel => exact ⟨by unfold absE; rw [if_neg HN.out], rfl⟩
  case rest =>
    obtain ⟨rfl, hwc⟩ := hcut
    replace hwc := hwc.symm
    subst hwc
    go_upto_if 25 with fail
    go_cut [1] from 18 (fun s1 wq => s1 = .int .i64 (absE a1) ∧ wq = w1)
    case first =>
      by_cases hn : a1 < 0
      · have hw1 : IntKind.i64.wrap (a1 + 1) = a1 + 1 := IntWalk.i64_in _ ⟨by omega, by omega⟩
        have hw2 : IntKind.i64.wrap (-(a1 + 1)) = -(a1 + 1) := IntWalk.i64_in _ ⟨by omega, by omega⟩
        have HN : Hid _ := hn
        go_wp2
        go_meet
        case rel => exact ⟨by unfold absE; rw [if_pos HN.out], rfl⟩
      · have HN : Hid _ := hn
        go_wp2
        go_meet
        case rel => exact ⟨by unfold absE; rw [if_neg HN.out], rfl⟩
    case rest =>
      obtain ⟨rfl, hwc⟩ := hcut
      replace hwc := hwc.symm
      subst hwc
      go_upto_if 30 with fail
      go_cut [2] from 18 (fun s2 wq => s2 = .int .i64 (absE a2) ∧ wq = w1)
      case first =>
        by_cases hn : a2 < 0
        · have hw1 : IntKind.i64.wrap (a2 + 1) = a2 + 1 := IntWalk.i64_in _ ⟨by omega, by omega⟩
          have hw2 : IntKind.i64.wrap (-(a2 + 1)) = -(a2 + 1) := IntWalk.i64_in _ ⟨by omega, by omega⟩
          have HN : Hid _ := hn
          go_wp2
          go_meet
          case rel => exact ⟨by unfold absE; rw [if_pos HN.out], rfl⟩
        · have HN : Hid _ := hn
          go_wp2
          go_meet
          case rel => exact ⟨by unfold absE; rw [if_neg HN.out], rfl⟩
      case rest =>
        obtain ⟨rfl, hwc⟩ := hcut
        replace hwc := hwc.symm
        subst hwc
        generalize absE a0 = A at *
        generalize absE a1 = B at *
        generalize absE a2 = C at *
        clear l0 u0 l1 u1 l2 u2
        obtain ⟨A0, A1⟩ := d0
        obtain ⟨B0, B1⟩ := d1
        obtain ⟨C0, C1⟩ := d2
        obtain ⟨i, hi⟩ : ∃ i : Nat, A % 8 = (i : Int) := ⟨(A % 8).toNat, by omega⟩
        obtain ⟨j, hj⟩ : ∃ j : Nat, B % 8 = (j : Int) := ⟨(B % 8).toNat, by omega⟩
        obtain ⟨k, hk⟩ : ∃ k : Nat, C % 8 = (k : Int) := ⟨(C % 8).toNat, by omega⟩
        obtain ⟨lA, R1⟩ := rnd1 i j k (by omega) (by omega) (by omega)
        obtain ⟨lB, R2⟩ := rnd2 i j k (by omega) (by omega) (by omega)
        obtain ⟨lC, lD, R4⟩ := rnd4 i j k a3 (by omega) (by omega) (by omega) l3 (by omega)
        have HR1 : Hid _ := R1
        have HR2 : Hid _ := R2
        have HR4 : Hid _ := R4
        clear R1 R2 R4 l3 u3
        go_wp2_with fail
        go_loopw [11] (fun s11 wr => ∃ t : Int, s11 = .int .i64 t ∧ (t = 0 ∨ t = 1 ∨ t = 2 ∨ t = 3) ∧ Hid (Kp noB (w1.alloc (.cells #[.int .i64 1, .int .i64 2, .int .i64 4] 3)) wr)) (fun s11 _ => (3 - intOf s11).toNat)
        case atStart => exact ⟨0, rfl, .inl rfl, Kp.refl _ _⟩
        case round =>
          obtain ⟨t, rfl, ht, kr⟩ := hrel
          have hz := heap_kept (MapKept.heap_alloc w1 (.cells #[.int .i64 1, .int .i64 2, .int .i64 4] 3)).1 kr.out id
          have HKr : Hid (Kp noB (w1.alloc (.cells #[.int .i64 1, .int .i64 2, .int .i64 4] 3)) wr) := kr.out
          have K2 : Hid (Kp noB w wr) := (K1.out.trans (Kp.alloc _ _ _)).trans kr.out
          clear kr
          rcases ht with rfl | rfl | rfl | rfl
          · have c0 : wr.cell? ⟨w1.heap.size, 0, none⟩ = some (.int .i64 1) := cell_of_row _ _ _ _ _ _ hz
            have hb : (#[.int .i64 1, .int .i64 (i : Int), .int .i64 1, .int .i64 1, .int .i64 (j : Int), .int .i64 1, .int .i64 0, .int .i64 0, .int .i64 0, .int .i64 0, .int .u32 0, .int .u32 0, .int .i64 1, .int .i64 (k : Int), .int .i64 1, .int .i64 0, .int .i64 0, .int .i64 0, .int .i64 0, .int .u32 0, .int .u32 0, .int .i64 0, .int .i64 0, .int .i64 0, .int .i64 0, .int .i64 0, .int .i64 0, .int .i64 0, .int .u32 0, .int .u32 0, .int .i64 0, .int .i64 0] : Array Value) = insV (xr 1 i j k) := rfl
            have n1 := H.out.new (xr 1 i j k) wr
            have e15 : (insV (xr 1 i j k)).toList.set 15 (.int .i64 0) = (insV (xr 1 i j k)).toList := rfl
            have e16 : (insV (xr 1 i j k)).toList.set 16 (.int .i64 0) = (insV (xr 1 i j k)).toList := rfl
            have e17 : (insV (xr 1 i j k)).toList.set 17 (.int .i64 0) = (insV (xr 1 i j k)).toList := rfl
            have e18 : (insV (xr 1 i j k)).toList.set 18 (.int .i64 0) = (insV (xr 1 i j k)).toList := rfl
            have e19 : (insV (xr 1 i j k)).toList.set 19 (.int .u32 0) = (insV (xr 1 i j k)).toList := rfl
            have e20 : (insV (xr 1 i j k)).toList.set 20 (.int .u32 0) = (insV (xr 1 i j k)).toList := rfl
            have s1 := H.out.v.cells (xr 1 i j k)
            have hq0 := (MapKept.heap_alloc wr (.cells (insV (xr 1 i j k)) T)).1
            have g1 := H.out.get hq0
            have Hq0 : Hid _ := hq0
            clear hz hq0
            go_wp2_with fail
            refine Calls.mono (HR1.out.1 _) ?_; rintro e w3 ⟨⟨p3, c3, rfl⟩, k3⟩
            have hq3 := heap_kept Hq0.out k3 id
            have st := putN hq3
            have hq4 : (w3.setRow wr.heap.size (insV (xi 1 i j 5))).heap[wr.heap.size]? = some (.cells (insV (xi 1 i j 5)) T (0, 0)) := setRow_heap w3 _ _ _ _ _ hq3
            have e4 : insV { xr 1 i j k with b := imm5 } = insV (xi 1 i j 5) := rfl
            rw [e4] at st
            have g4 := H.out.get hq4
            have s4 := H.out.v.cells (xi 1 i j 5)
            have Hq4 : Hid _ := hq4
            have K4 : Hid (Kp noB wr (w3.setRow wr.heap.size (insV (xi 1 i j 5)))) := ((Kp.alloc noB wr _).trans k3).setRowNo (Nat.le_refl _) _
            clear k3 hq3 hq4 e4 hb n1 g1 Hq0 e15 e16 e17 e18 e19 e20
            go_wp2_with fail
            refine Calls.mono (HR1.out.2.1 _) ?_; rintro e w5 ⟨⟨p5, c5, rfl⟩, k5⟩
            have hq5 := heap_kept Hq4.out k5 id
            have K5 : Hid (Kp noB wr w5) := K4.out.trans k5
            have g6 := H.out.get hq5
            have K6 : Hid (Kp noB wr w5) := K5.out
            clear k5 hq5 st g4
            go_wp2_with fail
            refine Calls.mono (HR1.out.2.2.1 _) ?_; rintro e w7 ⟨⟨p7, c7, rfl⟩, k7⟩
            have K7 : Hid (Kp noB wr w7) := K6.out.trans k7
            clear k7 g6
            go_wp2
            go_roundw
            case rel => exact ⟨1, by go_num, by simp, HKr.out.trans K7.out⟩
            case measure => simp [intOf]
          · have c0 : wr.cell? ⟨w1.heap.size, 1, none⟩ = some (.int .i64 2) := cell_of_row _ _ _ _ _ _ hz
            have hb : (#[.int .i64 1, .int .i64 (i : Int), .int .i64 2, .int .i64 1, .int .i64 (j : Int), .int .i64 2, .int .i64 0, .int .i64 0, .int .i64 0, .int .i64 0, .int .u32 0, .int .u32 0, .int .i64 1, .int .i64 (k : Int), .int .i64 2, .int .i64 0, .int .i64 0, .int .i64 0, .int .i64 0, .int .u32 0, .int .u32 0, .int .i64 0, .int .i64 0, .int .i64 0, .int .i64 0, .int .i64 0, .int .i64 0, .int .i64 0, .int .u32 0, .int .u32 0, .int .i64 0, .int .i64 0] : Array Value) = insV (xr 2 i j k) := rfl
            have n1 := H.out.new (xr 2 i j k) wr
            have e15 : (insV (xr 2 i j k)).toList.set 15 (.int .i64 0) = (insV (xr 2 i j k)).toList := rfl
            have e16 : (insV (xr 2 i j k)).toList.set 16 (.int .i64 0) = (insV (xr 2 i j k)).toList := rfl
            have e17 : (insV (xr 2 i j k)).toList.set 17 (.int .i64 0) = (insV (xr 2 i j k)).toList := rfl
            have e18 : (insV (xr 2 i j k)).toList.set 18 (.int .i64 0) = (insV (xr 2 i j k)).toList := rfl
            have e19 : (insV (xr 2 i j k)).toList.set 19 (.int .u32 0) = (insV (xr 2 i j k)).toList := rfl
            have e20 : (insV (xr 2 i j k)).toList.set 20 (.int .u32 0) = (insV (xr 2 i j k)).toList := rfl
            have s1 := H.out.v.cells (xr 2 i j k)
            have hq0 := (MapKept.heap_alloc wr (.cells (insV (xr 2 i j k)) T)).1
            have g1 := H.out.get hq0
            have Hq0 : Hid _ := hq0
            clear hz hq0
            go_wp2_with fail
            refine Calls.mono (HR2.out.1 _) ?_; rintro e w3 ⟨⟨p3, c3, rfl⟩, k3⟩
            have hq3 := heap_kept Hq0.out k3 id
            have st := putN hq3
            have hq4 : (w3.setRow wr.heap.size (insV (xi 2 i j 5))).heap[wr.heap.size]? = some (.cells (insV (xi 2 i j 5)) T (0, 0)) := setRow_heap w3 _ _ _ _ _ hq3
            have e4 : insV { xr 2 i j k with b := imm5 } = insV (xi 2 i j 5) := rfl
            rw [e4] at st
            have g4 := H.out.get hq4
            have s4 := H.out.v.cells (xi 2 i j 5)
            have Hq4 : Hid _ := hq4
            have K4 : Hid (Kp noB wr (w3.setRow wr.heap.size (insV (xi 2 i j 5)))) := ((Kp.alloc noB wr _).trans k3).setRowNo (Nat.le_refl _) _
            clear k3 hq3 hq4 e4 hb n1 g1 Hq0 e15 e16 e17 e18 e19 e20
            go_wp2_with fail
            refine Calls.mono (HR2.out.2.1 _) ?_; rintro e w5 ⟨⟨p5, c5, rfl⟩, k5⟩
            have hq5 := heap_kept Hq4.out k5 id
            have K5 : Hid (Kp noB wr w5) := K4.out.trans k5
            have g6 := H.out.get hq5
            have K6 : Hid (Kp noB wr w5) := K5.out
            clear k5 hq5 st g4
            go_wp2_with fail
            refine Calls.mono (HR2.out.2.2.1 _) ?_; rintro e w7 ⟨⟨p7, c7, rfl⟩, k7⟩
            have K7 : Hid (Kp noB wr w7) := K6.out.trans k7
            clear k7 g6
            go_wp2
            go_roundw
            case rel => exact ⟨2, by go_num, by simp, HKr.out.trans K7.out⟩
            case measure => simp [intOf]
          · have c0 : wr.cell? ⟨w1.heap.size, 2, none⟩ = some (.int .i64 4) := cell_of_row _ _ _ _ _ _ hz
            have hb : (#[.int .i64 1, .int .i64 (i : Int), .int .i64 4, .int .i64 1, .int .i64 (j : Int), .int .i64 4, .int .i64 0, .int .i64 0, .int .i64 0, .int .i64 0, .int .u32 0, .int .u32 0, .int .i64 1, .int .i64 (k : Int), .int .i64 4, .int .i64 0, .int .i64 0, .int .i64 0, .int .i64 0, .int .u32 0, .int .u32 0, .int .i64 0, .int .i64 0, .int .i64 0, .int .i64 0, .int .i64 0, .int .i64 0, .int .i64 0, .int .u32 0, .int .u32 0, .int .i64 0, .int .i64 0] : Array Value) = insV (xr 4 i j k) := rfl
            have n1 := H.out.new (xr 4 i j k) wr
            have e15 : (insV (xr 4 i j k)).toList.set 15 (.int .i64 0) = (insV (xr 4 i j k)).toList := rfl
            have e16 : (insV (xr 4 i j k)).toList.set 16 (.int .i64 0) = (insV (xr 4 i j k)).toList := rfl
            have e17 : (insV (xr 4 i j k)).toList.set 17 (.int .i64 0) = (insV (xr 4 i j k)).toList := rfl
            have e18 : (insV (xr 4 i j k)).toList.set 18 (.int .i64 0) = (insV (xr 4 i j k)).toList := rfl
            have e19 : (insV (xr 4 i j k)).toList.set 19 (.int .u32 0) = (insV (xr 4 i j k)).toList := rfl
            have e20 : (insV (xr 4 i j k)).toList.set 20 (.int .u32 0) = (insV (xr 4 i j k)).toList := rfl
            have s1 := H.out.v.cells (xr 4 i j k)
            have hq0 := (MapKept.heap_alloc wr (.cells (insV (xr 4 i j k)) T)).1
            have g1 := H.out.get hq0
            have Hq0 : Hid _ := hq0
            clear hz hq0
            go_wp2_with fail
            refine Calls.mono (HR4.out.1 _) ?_; rintro e w3 ⟨⟨p3, c3, rfl⟩, k3⟩
            have hq3 := heap_kept Hq0.out k3 id
            have st := putN hq3
            have hq4 : (w3.setRow wr.heap.size (insV (xi 4 i j 5))).heap[wr.heap.size]? = some (.cells (insV (xi 4 i j 5)) T (0, 0)) := setRow_heap w3 _ _ _ _ _ hq3
            have e4 : insV { xr 4 i j k with b := imm5 } = insV (xi 4 i j 5) := rfl
            rw [e4] at st
            have g4 := H.out.get hq4
            have s4 := H.out.v.cells (xi 4 i j 5)
            have Hq4 : Hid _ := hq4
            have K4 : Hid (Kp noB wr (w3.setRow wr.heap.size (insV (xi 4 i j 5)))) := ((Kp.alloc noB wr _).trans k3).setRowNo (Nat.le_refl _) _
            clear k3 hq3 hq4 e4 hb n1 g1 Hq0 e15 e16 e17 e18 e19 e20
            go_wp2_with fail
            refine Calls.mono (HR4.out.2.1 _) ?_; rintro e w5 ⟨⟨p5, c5, rfl⟩, k5⟩
            have hq5 := heap_kept Hq4.out k5 id
            have K5 : Hid (Kp noB wr w5) := K4.out.trans k5
            have z20 : w5.frozen? ⟨wr.heap.size, 20, none⟩ = false := by simp [World.frozen?, hq5]
            have c20 : w5.cell? ⟨wr.heap.size, 20, none⟩ = some (.int .u32 5) := cell_of_row _ _ _ _ _ _ hq5
            have hq6 : (w5.setCell ⟨wr.heap.size, 20, none⟩ (.int .u32 a3)).heap[wr.heap.size]? = some (.cells (insV (xi 4 i j a3)) T (0, 0)) := by
              rw [heap_set hq5]
              rfl
            have g6 := H.out.get hq6
            have s6 := H.out.v.cells (xi 4 i j a3)
            have K6 : Hid (Kp noB wr (w5.setCell ⟨wr.heap.size, 20, none⟩ (.int .u32 a3))) := K5.out.setNew' (Nat.le_refl _) 20 _
            have nl : ¬ (lD : Int) < lC := by have := HR4.out.2.2.2; omega
            clear k5 hq5 hq6 st g4
            go_wp2_with fail
            refine Calls.mono (HR4.out.2.2.1 _) ?_; rintro e w7 ⟨⟨p7, c7, rfl⟩, k7⟩
            have K7 : Hid (Kp noB wr w7) := K6.out.trans k7
            clear k7 g6
            go_wp2
            go_roundw
            case rel => exact ⟨3, by go_num, by simp, HKr.out.trans K7.out⟩
            case measure => simp [intOf]
          · clear hz
            go_wp2
            go_ret
            exact ⟨rfl, ⟨K2.out.os, K2.out.tape, K2.out.output, K2.out.size, fun k hk => K2.out.block k hk id⟩⟩
end Go.Proofs.YtolnaodlghahlaaGreatDoor
