/- The bus and its devices: RtNew, RtRel, RtAll, RtAll2. -/
import Derived.Test.YtonfjhbfkichkaaGreatBz20
import Derived.Test.YtonfjhbfkichkaaGreatBz26
import Derived.Test.YtonfjhbfkichkaaGreatBz27
import Derived.Test.YtonfjhbfkichkaaGreatBz28
namespace Go.Proofs.YtonfjhbfkichkaaGreat.Pt
open Go.ChangeShapes Go.WideShapes Go.ChangeAt Go.RowKit
set_option linter.unusedVariables false
set_option maxRecDepth 20000
def r00 : RC := ⟨3, 3, 65536, 0, false, false, 0, false, false, 0⟩
def laidR (k : Nat) (j : Nat) : RC := if j < k then r00 else RC.zero
theorem laidR_upd (k : Nat) : updR (laidR k) k r00 = laidR (k + 1) := by
 funext j
 unfold updR laidR
 by_cases e : j = k
 ·subst e; simp
 ·rw [if_neg e]
  by_cases g : j < k
  ·rw [if_pos g, if_pos (by omega)]
  ·rw [if_neg g, if_neg (by omega)]
theorem row_at (g : Nat → RC) {i j : Nat} (hi : i < 3) (hj : j < 10) : (rowR g)[10 * i + j]? = (chV (g i))[j]? := by
 have hl : j < (chV (g i)).toList.length := hj
 have e : (chV (g i))[j]? = some ((chV (g i)).toList[j]) := by
  rw [← Array.getElem?_toList, List.getElem?_eq_getElem hl]
 rw [e]
 exact row_get g hi (List.getElem?_eq_getElem hl)
theorem row_size (g : Nat → RC) : (rowR g).size = 30 := by simp [rowR, chL_len]
theorem RAt.set {w : World} {R : Nat} {g : Nat → RC} {i : Nat} {r : RC} (h : RAt w R (updR g i r)) (hi : i < 3) (k o : Nat) (hk : k < 10) (ho : o = 10 * i + k) (v : Value) (r' : RC) (e : (chV r).setIfInBounds k v = chV r') : RAt (w.setCell ⟨R, o, none⟩ v) R (updR g i r') := by
 refine ⟨?_⟩
 rw [heap_set h.blk]
 congr 2
 apply Array.ext_getElem?
 intro j
 by_cases hj : j < 30
 ·obtain ⟨a, b, ha, hb, rfl⟩ : ∃ a b, a < 3 ∧ b < 10 ∧ j = 10 * a + b := ⟨j / 10, j % 10, by omega, by omega, by omega⟩
  rw [row_at _ ha hb]
  by_cases ea : a = i
  ·subst ea
   rw [updR_at, ← e]
   by_cases eb : b = k
   ·subst eb
    rw [ho, Array.getElem?_setIfInBounds_self, Array.getElem?_setIfInBounds_self, if_pos (by rw [row_size]; omega), if_pos (by rw [chV_size]; omega)]
   ·rw [Array.getElem?_setIfInBounds_ne (by omega), Array.getElem?_setIfInBounds_ne (by omega), row_at _ ha hb, updR_at]
  ·rw [updR_ne _ _ ea, Array.getElem?_setIfInBounds_ne (by omega), row_at _ ha hb, updR_ne _ _ ea]
 ·rw [Array.getElem?_eq_none (by rw [Array.size_setIfInBounds, row_size]; omega), Array.getElem?_eq_none (by rw [row_size]; omega)]
theorem RAt.cell {w : World} {R : Nat} {g : Nat → RC} (h : RAt w R g) {i k o : Nat} (hi : i < 3) (hk : k < 10) (ho : o = 10 * i + k) {v : Value} (e : (chV (g i))[k]? = some v) : w.cell? ⟨R, o, none⟩ = some v := by
 rw [cell_of_row w R o _ _ _ h.blk, ho, row_at _ hi hk]
 exact e
theorem laidR_self (k : Nat) : laidR k k = RC.zero := by unfold laidR; rw [if_neg (by omega)]
theorem rowR_all : rowR (laidR 3) = rowR (fun _ => r00) := rfl
def zrowR : Array Value := #[.int .i64 0, .int .i64 0, .int .u64 0, .int .u64 0, .bool false, .bool false, .int .u8 0, .bool false, .bool false, .int .u64 0, .int .i64 0, .int .i64 0, .int .u64 0, .int .u64 0, .bool false, .bool false, .int .u8 0, .bool false, .bool false, .int .u64 0, .int .i64 0, .int .i64 0, .int .u64 0, .int .u64 0, .bool false, .bool false, .int .u8 0, .bool false, .bool false, .int .u64 0]
theorem zrowR_is : zrowR = rowR (laidR 0) := rfl
set_option maxRecDepth 20000 in
set_option maxHeartbeats 1000000 in
theorem rnew_ok (w : World) : Calls Tryz.prog 32 #[] w fun e w' => ∃ R, e = .returned (.pointer (some ⟨R, 0, none⟩)) ∧ w.heap.size ≤ R ∧ RAt w' R (fun _ => r00) ∧ Kp noB w w' := by
 have h0 : Hid (RAt (w.alloc (.cells zrowR 147)) w.heap.size (laidR 0)) := ⟨by rw [zrowR_is]; exact heap_new _ _⟩
 have k0 : Hid (Kp noB w (w.alloc (.cells zrowR 147))) := Kp.alloc _ _ _
 unfold zrowR at h0 k0
 go_enter Tryz.func32, Tryz.ntmps32
 go_wp2
 obtain ⟨R, hR⟩ : ∃ B, B = w.heap.size := ⟨_, rfl⟩
 rw [← hR] at h0 ⊢
 generalize w.alloc _ = w0 at h0 k0 ⊢
 have lR : w.heap.size ≤ R := by omega
 clear hR
 go_loopw [2] (fun s2 wr => ∃ k : Nat, s2 = .int .i64 k ∧ k ≤ 3 ∧ RAt wr R (laidR k) ∧ Kp noB w wr) (fun s2 _ => (3 - intOf s2).toNat)
 case atStart => exact ⟨0, rfl, by omega, h0.out, k0.out⟩
 case round =>
  clear h0 k0
  obtain ⟨k, rfl, hk, hP, kr⟩ := hrel
  rcases (by omega : k = 0 ∨ k = 1 ∨ k = 2 ∨ k = 3) with rfl | rfl | rfl | rfl
  ·have h : RAt wr R (updR (laidR 0) 0 RC.zero) := by
    have : updR (laidR 0) 0 RC.zero = laidR 0 := by rw [← laidR_self 0]; funext j; unfold updR; split; (rename_i e; rw [e]); rfl
    rw [this]; exact hP
   have c0 : wr.cell? ⟨R, 0, none⟩ = some (.int .i64 0) := h.cell (i := 0) (k := 0) (by decide) (by decide) rfl (by rw [updR_at]; rfl)
   have y0 := hP.fz 0
   have c1 : wr.cell? ⟨R, 1, none⟩ = some (.int .i64 0) := h.cell (i := 0) (k := 1) (by decide) (by decide) rfl (by rw [updR_at]; rfl)
   have y1 := hP.fz 1
   have c2 : wr.cell? ⟨R, 2, none⟩ = some (.int .u64 0) := h.cell (i := 0) (k := 2) (by decide) (by decide) rfl (by rw [updR_at]; rfl)
   have y2 := hP.fz 2
   have c3 : wr.cell? ⟨R, 3, none⟩ = some (.int .u64 0) := h.cell (i := 0) (k := 3) (by decide) (by decide) rfl (by rw [updR_at]; rfl)
   have y3 := hP.fz 3
   have c4 : wr.cell? ⟨R, 4, none⟩ = some (.bool false) := h.cell (i := 0) (k := 4) (by decide) (by decide) rfl (by rw [updR_at]; rfl)
   have y4 := hP.fz 4
   have c5 : wr.cell? ⟨R, 5, none⟩ = some (.bool false) := h.cell (i := 0) (k := 5) (by decide) (by decide) rfl (by rw [updR_at]; rfl)
   have y5 := hP.fz 5
   have c6 : wr.cell? ⟨R, 6, none⟩ = some (.int .u8 0) := h.cell (i := 0) (k := 6) (by decide) (by decide) rfl (by rw [updR_at]; rfl)
   have y6 := hP.fz 6
   have c7 : wr.cell? ⟨R, 7, none⟩ = some (.bool false) := h.cell (i := 0) (k := 7) (by decide) (by decide) rfl (by rw [updR_at]; rfl)
   have y7 := hP.fz 7
   have c8 : wr.cell? ⟨R, 8, none⟩ = some (.bool false) := h.cell (i := 0) (k := 8) (by decide) (by decide) rfl (by rw [updR_at]; rfl)
   have y8 := hP.fz 8
   have c9 : wr.cell? ⟨R, 9, none⟩ = some (.int .u64 0) := h.cell (i := 0) (k := 9) (by decide) (by decide) rfl (by rw [updR_at]; rfl)
   have y9 := hP.fz 9
   have E1 : Hid (RAt ((((((((((wr.setCell ⟨R, 0, none⟩ (.int .i64 3)).setCell ⟨R, 1, none⟩ (.int .i64 3)).setCell ⟨R, 2, none⟩ (.int .u64 65536)).setCell ⟨R, 3, none⟩ (.int .u64 0)).setCell ⟨R, 4, none⟩ (.bool false)).setCell ⟨R, 5, none⟩ (.bool false)).setCell ⟨R, 6, none⟩ (.int .u8 0)).setCell ⟨R, 7, none⟩ (.bool false)).setCell ⟨R, 8, none⟩ (.bool false)).setCell ⟨R, 9, none⟩ (.int .u64 0)) R (updR (laidR 0) 0 r00)) := ((((((((((h.set (by decide) 0 0 (by decide) rfl _ ⟨3, 0, 0, 0, false, false, 0, false, false, 0⟩ rfl).set (by decide) 1 1 (by decide) rfl _ ⟨3, 3, 0, 0, false, false, 0, false, false, 0⟩ rfl).set (by decide) 2 2 (by decide) rfl _ ⟨3, 3, 65536, 0, false, false, 0, false, false, 0⟩ rfl).set (by decide) 3 3 (by decide) rfl _ ⟨3, 3, 65536, 0, false, false, 0, false, false, 0⟩ rfl).set (by decide) 4 4 (by decide) rfl _ ⟨3, 3, 65536, 0, false, false, 0, false, false, 0⟩ rfl).set (by decide) 5 5 (by decide) rfl _ ⟨3, 3, 65536, 0, false, false, 0, false, false, 0⟩ rfl).set (by decide) 6 6 (by decide) rfl _ ⟨3, 3, 65536, 0, false, false, 0, false, false, 0⟩ rfl).set (by decide) 7 7 (by decide) rfl _ ⟨3, 3, 65536, 0, false, false, 0, false, false, 0⟩ rfl).set (by decide) 8 8 (by decide) rfl _ ⟨3, 3, 65536, 0, false, false, 0, false, false, 0⟩ rfl).set (by decide) 9 9 (by decide) rfl _ ⟨3, 3, 65536, 0, false, false, 0, false, false, 0⟩ rfl)
   have K1 : Hid (Kp noB w ((((((((((wr.setCell ⟨R, 0, none⟩ (.int .i64 3)).setCell ⟨R, 1, none⟩ (.int .i64 3)).setCell ⟨R, 2, none⟩ (.int .u64 65536)).setCell ⟨R, 3, none⟩ (.int .u64 0)).setCell ⟨R, 4, none⟩ (.bool false)).setCell ⟨R, 5, none⟩ (.bool false)).setCell ⟨R, 6, none⟩ (.int .u8 0)).setCell ⟨R, 7, none⟩ (.bool false)).setCell ⟨R, 8, none⟩ (.bool false)).setCell ⟨R, 9, none⟩ (.int .u64 0))) := kr.own ((((((((((kpB R wr _ _).trans (kpB R _ _ _)).trans (kpB R _ _ _)).trans (kpB R _ _ _)).trans (kpB R _ _ _)).trans (kpB R _ _ _)).trans (kpB R _ _ _)).trans (kpB R _ _ _)).trans (kpB R _ _ _)).trans (kpB R _ _ _)) lR
   rw [laidR_upd] at E1
   clear h hP kr
   go_wp2
   go_roundw
   case rel => exact ⟨1, rfl, by omega, E1.out, K1.out⟩
   case measure => simp [intOf]
  ·have h : RAt wr R (updR (laidR 1) 1 RC.zero) := by
    have : updR (laidR 1) 1 RC.zero = laidR 1 := by rw [← laidR_self 1]; funext j; unfold updR; split; (rename_i e; rw [e]); rfl
    rw [this]; exact hP
   have c0 : wr.cell? ⟨R, 10, none⟩ = some (.int .i64 0) := h.cell (i := 1) (k := 0) (by decide) (by decide) rfl (by rw [updR_at]; rfl)
   have y0 := hP.fz 10
   have c1 : wr.cell? ⟨R, 11, none⟩ = some (.int .i64 0) := h.cell (i := 1) (k := 1) (by decide) (by decide) rfl (by rw [updR_at]; rfl)
   have y1 := hP.fz 11
   have c2 : wr.cell? ⟨R, 12, none⟩ = some (.int .u64 0) := h.cell (i := 1) (k := 2) (by decide) (by decide) rfl (by rw [updR_at]; rfl)
   have y2 := hP.fz 12
   have c3 : wr.cell? ⟨R, 13, none⟩ = some (.int .u64 0) := h.cell (i := 1) (k := 3) (by decide) (by decide) rfl (by rw [updR_at]; rfl)
   have y3 := hP.fz 13
   have c4 : wr.cell? ⟨R, 14, none⟩ = some (.bool false) := h.cell (i := 1) (k := 4) (by decide) (by decide) rfl (by rw [updR_at]; rfl)
   have y4 := hP.fz 14
   have c5 : wr.cell? ⟨R, 15, none⟩ = some (.bool false) := h.cell (i := 1) (k := 5) (by decide) (by decide) rfl (by rw [updR_at]; rfl)
   have y5 := hP.fz 15
   have c6 : wr.cell? ⟨R, 16, none⟩ = some (.int .u8 0) := h.cell (i := 1) (k := 6) (by decide) (by decide) rfl (by rw [updR_at]; rfl)
   have y6 := hP.fz 16
   have c7 : wr.cell? ⟨R, 17, none⟩ = some (.bool false) := h.cell (i := 1) (k := 7) (by decide) (by decide) rfl (by rw [updR_at]; rfl)
   have y7 := hP.fz 17
   have c8 : wr.cell? ⟨R, 18, none⟩ = some (.bool false) := h.cell (i := 1) (k := 8) (by decide) (by decide) rfl (by rw [updR_at]; rfl)
   have y8 := hP.fz 18
   have c9 : wr.cell? ⟨R, 19, none⟩ = some (.int .u64 0) := h.cell (i := 1) (k := 9) (by decide) (by decide) rfl (by rw [updR_at]; rfl)
   have y9 := hP.fz 19
   have E1 : Hid (RAt ((((((((((wr.setCell ⟨R, 10, none⟩ (.int .i64 3)).setCell ⟨R, 11, none⟩ (.int .i64 3)).setCell ⟨R, 12, none⟩ (.int .u64 65536)).setCell ⟨R, 13, none⟩ (.int .u64 0)).setCell ⟨R, 14, none⟩ (.bool false)).setCell ⟨R, 15, none⟩ (.bool false)).setCell ⟨R, 16, none⟩ (.int .u8 0)).setCell ⟨R, 17, none⟩ (.bool false)).setCell ⟨R, 18, none⟩ (.bool false)).setCell ⟨R, 19, none⟩ (.int .u64 0)) R (updR (laidR 1) 1 r00)) := ((((((((((h.set (by decide) 0 10 (by decide) rfl _ ⟨3, 0, 0, 0, false, false, 0, false, false, 0⟩ rfl).set (by decide) 1 11 (by decide) rfl _ ⟨3, 3, 0, 0, false, false, 0, false, false, 0⟩ rfl).set (by decide) 2 12 (by decide) rfl _ ⟨3, 3, 65536, 0, false, false, 0, false, false, 0⟩ rfl).set (by decide) 3 13 (by decide) rfl _ ⟨3, 3, 65536, 0, false, false, 0, false, false, 0⟩ rfl).set (by decide) 4 14 (by decide) rfl _ ⟨3, 3, 65536, 0, false, false, 0, false, false, 0⟩ rfl).set (by decide) 5 15 (by decide) rfl _ ⟨3, 3, 65536, 0, false, false, 0, false, false, 0⟩ rfl).set (by decide) 6 16 (by decide) rfl _ ⟨3, 3, 65536, 0, false, false, 0, false, false, 0⟩ rfl).set (by decide) 7 17 (by decide) rfl _ ⟨3, 3, 65536, 0, false, false, 0, false, false, 0⟩ rfl).set (by decide) 8 18 (by decide) rfl _ ⟨3, 3, 65536, 0, false, false, 0, false, false, 0⟩ rfl).set (by decide) 9 19 (by decide) rfl _ ⟨3, 3, 65536, 0, false, false, 0, false, false, 0⟩ rfl)
   have K1 : Hid (Kp noB w ((((((((((wr.setCell ⟨R, 10, none⟩ (.int .i64 3)).setCell ⟨R, 11, none⟩ (.int .i64 3)).setCell ⟨R, 12, none⟩ (.int .u64 65536)).setCell ⟨R, 13, none⟩ (.int .u64 0)).setCell ⟨R, 14, none⟩ (.bool false)).setCell ⟨R, 15, none⟩ (.bool false)).setCell ⟨R, 16, none⟩ (.int .u8 0)).setCell ⟨R, 17, none⟩ (.bool false)).setCell ⟨R, 18, none⟩ (.bool false)).setCell ⟨R, 19, none⟩ (.int .u64 0))) := kr.own ((((((((((kpB R wr _ _).trans (kpB R _ _ _)).trans (kpB R _ _ _)).trans (kpB R _ _ _)).trans (kpB R _ _ _)).trans (kpB R _ _ _)).trans (kpB R _ _ _)).trans (kpB R _ _ _)).trans (kpB R _ _ _)).trans (kpB R _ _ _)) lR
   rw [laidR_upd] at E1
   clear h hP kr
   go_wp2
   go_roundw
   case rel => exact ⟨2, rfl, by omega, E1.out, K1.out⟩
   case measure => simp [intOf]
  ·have h : RAt wr R (updR (laidR 2) 2 RC.zero) := by
    have : updR (laidR 2) 2 RC.zero = laidR 2 := by rw [← laidR_self 2]; funext j; unfold updR; split; (rename_i e; rw [e]); rfl
    rw [this]; exact hP
   have c0 : wr.cell? ⟨R, 20, none⟩ = some (.int .i64 0) := h.cell (i := 2) (k := 0) (by decide) (by decide) rfl (by rw [updR_at]; rfl)
   have y0 := hP.fz 20
   have c1 : wr.cell? ⟨R, 21, none⟩ = some (.int .i64 0) := h.cell (i := 2) (k := 1) (by decide) (by decide) rfl (by rw [updR_at]; rfl)
   have y1 := hP.fz 21
   have c2 : wr.cell? ⟨R, 22, none⟩ = some (.int .u64 0) := h.cell (i := 2) (k := 2) (by decide) (by decide) rfl (by rw [updR_at]; rfl)
   have y2 := hP.fz 22
   have c3 : wr.cell? ⟨R, 23, none⟩ = some (.int .u64 0) := h.cell (i := 2) (k := 3) (by decide) (by decide) rfl (by rw [updR_at]; rfl)
   have y3 := hP.fz 23
   have c4 : wr.cell? ⟨R, 24, none⟩ = some (.bool false) := h.cell (i := 2) (k := 4) (by decide) (by decide) rfl (by rw [updR_at]; rfl)
   have y4 := hP.fz 24
   have c5 : wr.cell? ⟨R, 25, none⟩ = some (.bool false) := h.cell (i := 2) (k := 5) (by decide) (by decide) rfl (by rw [updR_at]; rfl)
   have y5 := hP.fz 25
   have c6 : wr.cell? ⟨R, 26, none⟩ = some (.int .u8 0) := h.cell (i := 2) (k := 6) (by decide) (by decide) rfl (by rw [updR_at]; rfl)
   have y6 := hP.fz 26
   have c7 : wr.cell? ⟨R, 27, none⟩ = some (.bool false) := h.cell (i := 2) (k := 7) (by decide) (by decide) rfl (by rw [updR_at]; rfl)
   have y7 := hP.fz 27
   have c8 : wr.cell? ⟨R, 28, none⟩ = some (.bool false) := h.cell (i := 2) (k := 8) (by decide) (by decide) rfl (by rw [updR_at]; rfl)
   have y8 := hP.fz 28
   have c9 : wr.cell? ⟨R, 29, none⟩ = some (.int .u64 0) := h.cell (i := 2) (k := 9) (by decide) (by decide) rfl (by rw [updR_at]; rfl)
   have y9 := hP.fz 29
   have E1 : Hid (RAt ((((((((((wr.setCell ⟨R, 20, none⟩ (.int .i64 3)).setCell ⟨R, 21, none⟩ (.int .i64 3)).setCell ⟨R, 22, none⟩ (.int .u64 65536)).setCell ⟨R, 23, none⟩ (.int .u64 0)).setCell ⟨R, 24, none⟩ (.bool false)).setCell ⟨R, 25, none⟩ (.bool false)).setCell ⟨R, 26, none⟩ (.int .u8 0)).setCell ⟨R, 27, none⟩ (.bool false)).setCell ⟨R, 28, none⟩ (.bool false)).setCell ⟨R, 29, none⟩ (.int .u64 0)) R (updR (laidR 2) 2 r00)) := ((((((((((h.set (by decide) 0 20 (by decide) rfl _ ⟨3, 0, 0, 0, false, false, 0, false, false, 0⟩ rfl).set (by decide) 1 21 (by decide) rfl _ ⟨3, 3, 0, 0, false, false, 0, false, false, 0⟩ rfl).set (by decide) 2 22 (by decide) rfl _ ⟨3, 3, 65536, 0, false, false, 0, false, false, 0⟩ rfl).set (by decide) 3 23 (by decide) rfl _ ⟨3, 3, 65536, 0, false, false, 0, false, false, 0⟩ rfl).set (by decide) 4 24 (by decide) rfl _ ⟨3, 3, 65536, 0, false, false, 0, false, false, 0⟩ rfl).set (by decide) 5 25 (by decide) rfl _ ⟨3, 3, 65536, 0, false, false, 0, false, false, 0⟩ rfl).set (by decide) 6 26 (by decide) rfl _ ⟨3, 3, 65536, 0, false, false, 0, false, false, 0⟩ rfl).set (by decide) 7 27 (by decide) rfl _ ⟨3, 3, 65536, 0, false, false, 0, false, false, 0⟩ rfl).set (by decide) 8 28 (by decide) rfl _ ⟨3, 3, 65536, 0, false, false, 0, false, false, 0⟩ rfl).set (by decide) 9 29 (by decide) rfl _ ⟨3, 3, 65536, 0, false, false, 0, false, false, 0⟩ rfl)
   have K1 : Hid (Kp noB w ((((((((((wr.setCell ⟨R, 20, none⟩ (.int .i64 3)).setCell ⟨R, 21, none⟩ (.int .i64 3)).setCell ⟨R, 22, none⟩ (.int .u64 65536)).setCell ⟨R, 23, none⟩ (.int .u64 0)).setCell ⟨R, 24, none⟩ (.bool false)).setCell ⟨R, 25, none⟩ (.bool false)).setCell ⟨R, 26, none⟩ (.int .u8 0)).setCell ⟨R, 27, none⟩ (.bool false)).setCell ⟨R, 28, none⟩ (.bool false)).setCell ⟨R, 29, none⟩ (.int .u64 0))) := kr.own ((((((((((kpB R wr _ _).trans (kpB R _ _ _)).trans (kpB R _ _ _)).trans (kpB R _ _ _)).trans (kpB R _ _ _)).trans (kpB R _ _ _)).trans (kpB R _ _ _)).trans (kpB R _ _ _)).trans (kpB R _ _ _)).trans (kpB R _ _ _)) lR
   rw [laidR_upd] at E1
   clear h hP kr
   go_wp2
   go_roundw
   case rel => exact ⟨3, rfl, by omega, E1.out, K1.out⟩
   case measure => simp [intOf]
  ·go_wp2
   go_ret
   exact ⟨R, rfl, lR, ⟨rowR_all ▸ hP.blk⟩, kr⟩
end Go.Proofs.YtonfjhbfkichkaaGreat.Pt
namespace Go.Proofs.YtonfjhbfkichkaaGreat.Pt
open Go.RowKit
set_option linter.unusedVariables false
structure Rel (r : RC) (c : Cn) : Prop where
 mode : r.mode = c.mode
 how : r.how = c.how
 len : r.len = c.whole
 began : c.st = false → r.began = c.began
 st : r.st = c.st
 wants : r.wants = c.wants
 fst : c.wants = true → r.fst = c.fst
 upper : r.upper = c.upper
 held : r.held = c.holds
 value : c.holds = true → r.value = c.held
 only : c.how ≠ 3 → c.wants = false
theorem Rel.val {r : RC} {c : Cn} (h : Rel r c) (k : c.Ok) (now : Int) : r.val now = c.value now := by
 have e : c.st = false → r.steps now = c.steps now := fun s => by unfold RC.steps Cn.steps; rw [h.began s]
 unfold RC.val Cn.value
 rw [h.st, h.mode, h.len]
 cases s : c.st
 ·rw [e s]
  simp only [Bool.false_eq_true, if_false]
  have e0 : (c.whole + 65536 - c.steps now % 65536) % 65536 = (c.whole - c.steps now) % 65536 := by omega
  rw [e0]
 ·rfl
theorem Rel.line {r : RC} {c : Cn} (h : Rel r c) (now : Int) : r.line now = c.line now := by
 have e : c.st = false → r.steps now = c.steps now := fun s => by unfold RC.steps Cn.steps; rw [h.began s]
 unfold RC.line Cn.line
 rw [h.st, h.mode, h.len]
 cases s : c.st
 ·rw [e s]
 ·rfl
theorem Rel.holdT {r : RC} {c : Cn} (h : Rel r c) (now : Int) (e : r.held = true) : Rel r (c.hold now) := by
 have e' : c.holds = true := h.held ▸ e
 unfold Cn.hold
 rw [if_pos e']
 exact h
theorem Rel.holdF {r : RC} {c : Cn} (h : Rel r c) (k : c.Ok) (now : Int) (e : r.held = false) : Rel ⟨r.mode, r.how, r.len, r.began, r.st, r.wants, r.fst, r.upper, true, r.val now⟩ (c.hold now) := by
 have e' : c.holds = false := h.held ▸ e
 unfold Cn.hold
 rw [e', if_neg (by decide)]
 exact ⟨h.mode, h.how, h.len, h.began, h.st, h.wants, h.fst, h.upper, rfl, fun _ => h.val k now, h.only⟩
theorem Rel.set {r : RC} {c : Cn} (h : Rel r c) (b m : Int) : Rel ⟨md m, b, r.len, r.began, true, false, r.fst, b == 2, false, r.value⟩ (c.setUp b m) :=
 ⟨rfl, rfl, h.len, fun e => (by cases e), rfl, rfl, fun e => (by cases e), rfl, rfl, fun e => (by cases e), fun _ => rfl⟩
theorem Rel.first {r : RC} {c : Cn} (h : Rel r c) (v now : Int) (h3 : r.how = 3) (hw : r.wants = false) : Rel ⟨r.mode, r.how, r.len, r.began, r.st, true, v, r.upper, r.held, r.value⟩ (c.write v now) := by
 have e3 : c.how = 3 := h.how ▸ h3
 have ew : c.wants = false := h.wants ▸ hw
 have eX : c.write v now = { c with fst := v, wants := true } := by
  unfold Cn.write
  rw [if_neg (by omega), if_neg (by omega), ew, if_neg (by decide)]
 rw [eX]
 exact ⟨h.mode, h.how, h.len, h.began, h.st, rfl, fun _ => rfl, h.upper, h.held, h.value, fun e => absurd e3 e⟩
theorem Rel.beg {r : RC} {c : Cn} (h : Rel r c) (l L now : Int) (hL : L = if l = 0 then 65536 else l) : Rel ⟨r.mode, r.how, L, now, false, false, r.fst, r.upper, r.held, r.value⟩ ({ c with wants := false }.begin l now) :=
 ⟨h.mode, h.how, hL, fun _ => rfl, rfl, rfl, fun e => (by cases e), h.upper, h.held, h.value, fun _ => rfl⟩
theorem Rel.w1 {r : RC} {c : Cn} (h : Rel r c) (v now L : Int) (h1 : r.how = 1) (hL : L = if v = 0 then 65536 else v) : Rel ⟨r.mode, r.how, L, now, false, false, r.fst, r.upper, r.held, r.value⟩ (c.write v now) := by
 have e1 : c.how = 1 := h.how ▸ h1
 have ew : c.wants = false := h.only (by omega)
 have eX : c.write v now = { c with wants := false }.begin v now := by
  unfold Cn.write
  rw [if_pos e1]
  unfold Cn.begin
  rw [ew]
 rw [eX]
 exact h.beg v L now hL
theorem Rel.w2 {r : RC} {c : Cn} (h : Rel r c) (v now L : Int) (h1 : r.how = 2) (hL : L = if v * 256 = 0 then 65536 else v * 256) : Rel ⟨r.mode, r.how, L, now, false, false, r.fst, r.upper, r.held, r.value⟩ (c.write v now) := by
 have e1 : c.how = 2 := h.how ▸ h1
 have ew : c.wants = false := h.only (by omega)
 have eX : c.write v now = { c with wants := false }.begin (v * 256) now := by
  unfold Cn.write
  rw [if_neg (by omega), if_pos e1]
  unfold Cn.begin
  rw [ew]
 rw [eX]
 exact h.beg (v * 256) L now hL
theorem Rel.w3 {r : RC} {c : Cn} (h : Rel r c) (v now L : Int) (h1 : r.how = 3) (hw : r.wants = true) (hL : L = if v * 256 + r.fst = 0 then 65536 else v * 256 + r.fst) : Rel ⟨r.mode, r.how, L, now, false, false, r.fst, r.upper, r.held, r.value⟩ (c.write v now) := by
 have e1 : c.how = 3 := h.how ▸ h1
 have ew : c.wants = true := h.wants ▸ hw
 have eX : c.write v now = { c with wants := false }.begin (v * 256 + c.fst) now := by
  unfold Cn.write
  rw [if_neg (by omega), if_neg (by omega), if_pos ew]
 rw [eX]
 rw [h.fst ew] at hL
 exact h.beg (v * 256 + c.fst) L now hL
theorem Rel.read {r : RC} {c : Cn} (h : Rel r c) (k : c.Ok) (u d : Bool) (hu : u = if r.how = 3 then !r.upper else r.upper) (hd : d = if ¬ r.how = 3 ∨ r.upper = true then false else r.held) : Rel ⟨r.mode, r.how, r.len, r.began, r.st, r.wants, r.fst, u, d, r.value⟩ c.read := by
 have hh := k.how
 have u1 := k.up
 have u2 := k.up2
 have hd' : d = if c.upper || c.how == 1 then false else c.holds := by
  rw [hd, h.how, h.upper, h.held]
  cases e : c.upper
  ·by_cases e1 : c.how = 1
   ·simp [e1]
   ·by_cases e2 : c.how = 2
    ·rw [u2 e2] at e; cases e
    ·have e3 : c.how = 3 := by omega
     simp [e3]
  ·simp
 refine ⟨h.mode, h.how, h.len, h.began, h.st, h.wants, h.fst, ?_, hd', ?_, h.only⟩
 ·show u = if c.how = 3 then !c.upper else c.upper
  rw [hu, h.how, h.upper]
 ·intro e
  apply h.value
  have e' : (if c.upper || c.how == 1 then false else c.holds) = true := e
  split at e'
  ·cases e'
  ·exact e'
theorem Rel.told {r : RC} {c : Cn} (h : Rel r c) (k : c.Ok) (now : Int) : c.told now = if r.upper then (if r.held then r.value else r.val now) / 256 else (if r.held then r.value else r.val now) % 256 := by
 unfold Cn.told Cn.seen
 rw [h.upper, h.held]
 cases e : c.holds
 ·simp only [Bool.false_eq_true, if_false]
  rw [h.val k now]
 ·simp only [if_true]
  rw [h.value e]
theorem Rel.new : Rel ⟨3, 3, 65536, 0, false, false, 0, false, false, 0⟩ cn0 :=
 ⟨rfl, rfl, rfl, fun _ => rfl, rfl, rfl, fun _ => rfl, rfl, rfl, fun _ => rfl, fun _ => rfl⟩
open Go.ChangeShapes Go.WideShapes Go.ChangeAt
set_option maxRecDepth 20000
structure RW (w : World) (R : Nat) (f : Nat → Cn) : Prop where
 ex : ∃ g, RAt w R g ∧ ∀ j, j < 3 → Rel (g j) (f j)
 ok : Oks f
theorem RW.kept {S : Nat → Prop} {w w' : World} {R : Nat} {f : Nat → Cn} (h : RW w R f) (k : Kp S w w') (hS : ¬ S R) : RW w' R f := by
 obtain ⟨g, a, b⟩ := h.ex
 exact ⟨⟨g, a.kept k hS, b⟩, h.ok⟩
theorem RW.lt {w : World} {R : Nat} {f : Nat → Cn} (h : RW w R f) : R < w.heap.size := by
 obtain ⟨g, a, b⟩ := h.ex
 exact a.lt
theorem relU {g : Nat → RC} {f : Nat → Cn} (h : ∀ j, j < 3 → Rel (g j) (f j)) (i : Nat) {r : RC} {c : Cn} (k : Rel r c) : ∀ j, j < 3 → Rel (updR g i r j) (upd f i c j) := by
 intro j hj
 by_cases e : j = i
 ·subst e; rw [updR_at, upd_at]; exact k
 ·rw [updR_ne _ _ e, upd_ne _ _ e]; exact h j hj
theorem rel_len {r : RC} {c : Cn} (h : Rel r c) (k : c.Ok) : 1 ≤ r.len ∧ r.len ≤ 65536 := by rw [h.len]; exact k.whole
theorem rcmd_3 (w : World) (R : Nat) (v now : Int) (v0 : 0 ≤ v) (hn : v / 64 = 3) : Calls Tryz.prog 160 #[.pointer (some ⟨R, 0, none⟩), .int .u8 v, .int .u64 now] w fun e w' => e = .returned (.tuple #[]) ∧ w' = w := by
 have d1 : v.tdiv 64 = 3 := by rw [Int.tdiv_eq_ediv_of_nonneg v0]; exact hn
 go_enter Tryz.func160, Tryz.ntmps160
 go_wp2
 refine bodyPost_ret (results_none rfl _ _ _) rfl ?_
 exact ⟨rfl, rfl⟩
theorem three_i {v : Int} (v0 : 0 ≤ v) (v1 : v < 256) (h : ¬ v / 64 = 3) : ∃ i : Nat, i < 3 ∧ v / 64 = i ∧ (v / 64).toNat = i := ⟨(v / 64).toNat, by omega, by omega, rfl⟩
theorem xcmd (w : World) (R : Nat) (f : Nat → Cn) (h : RW w R f) (v now : Int) (v0 : 0 ≤ v) (v1 : v < 256) : Calls Tryz.prog 160 #[.pointer (some ⟨R, 0, none⟩), .int .u8 v, .int .u64 now] w fun e w' => e = .returned (.tuple #[]) ∧ RW w' R (cmdF f v now) ∧ Kp (isB R) w w' := by
 obtain ⟨g, hA, hr⟩ := h.ex
 have ok2 : Oks (cmdF f v now) := h.ok.cmd v0 v1
 unfold cmdF at ok2 ⊢
 by_cases e3 : v / 64 = 3
 ·rw [if_pos e3]
  exact (rcmd_3 w R v now v0 e3).mono fun e w' ⟨a, b⟩ => ⟨a, b ▸ h, b ▸ Kp.refl _ _⟩
 ·rw [if_neg e3] at ok2 ⊢
  obtain ⟨i, hi, hn, hi'⟩ := three_i v0 v1 e3
  rw [hi'] at ok2 ⊢
  have rl := hr i hi
  have ll := rel_len rl (h.ok i)
  by_cases eb : v / 16 % 4 = 0
  ·rw [if_pos eb] at ok2 ⊢
   cases eh : (g i).held
   ·have H : Calls Tryz.prog 160 #[.pointer (some ⟨R, 0, none⟩), .int .u8 v, .int .u64 now] w fun e w' => e = .returned (.tuple #[]) ∧ RAt w' R (updR g i ⟨(g i).mode, (g i).how, (g i).len, (g i).began, (g i).st, (g i).wants, (g i).fst, (g i).upper, true, (g i).val now⟩) ∧ Kp (isB R) w w' := by
     exact rcmdH_k i hi w R g _ hA rfl v now v0 v1 hn ll.1 ll.2 eb eh _ rfl
    exact H.mono fun e w' ⟨a, b, c⟩ => ⟨a, ⟨⟨_, b, relU hr i (rl.holdF (h.ok i) now eh)⟩, ok2⟩, c⟩
   ·have H : Calls Tryz.prog 160 #[.pointer (some ⟨R, 0, none⟩), .int .u8 v, .int .u64 now] w fun e w' => e = .returned (.tuple #[]) ∧ RAt w' R (updR g i (g i)) ∧ Kp (isB R) w w' := by
     exact rcmdT_k i hi w R g _ hA rfl v now v0 v1 hn eb eh
    exact H.mono fun e w' ⟨a, b, c⟩ => ⟨a, ⟨⟨_, b, relU hr i (rl.holdT now eh)⟩, ok2⟩, c⟩
  ·rw [if_neg eb] at ok2 ⊢
   have H : Calls Tryz.prog 160 #[.pointer (some ⟨R, 0, none⟩), .int .u8 v, .int .u64 now] w fun e w' => e = .returned (.tuple #[]) ∧ RAt w' R (updR g i ⟨md (v / 2 % 8), v / 16 % 4, (g i).len, (g i).began, true, false, (g i).fst, (v / 16 % 4 == 2), false, (g i).value⟩) ∧ Kp (isB R) w w' := by
    unfold md
    by_cases e5 : 5 < v / 2 % 8
    ·rw [if_pos e5]
     exact rcmdSg_k i hi w R g _ hA rfl v now v0 v1 hn _ _ rfl eb rfl e5
    ·rw [if_neg e5]
     exact rcmdSl_k i hi w R g _ hA rfl v now v0 v1 hn _ _ rfl eb rfl e5
   exact H.mono fun e w' ⟨a, b, c⟩ => ⟨a, ⟨⟨_, b, relU hr i (rl.set _ _)⟩, ok2⟩, c⟩
theorem xout_3 (w : World) (R : Nat) (f : Nat → Cn) (h : RW w R f) (v now : Int) (v0 : 0 ≤ v) (v1 : v < 256) : Calls Tryz.prog 127 #[.pointer (some ⟨R, 0, none⟩), .int .i64 3, .int .u8 v, .int .u64 now] w fun e w' => e = .returned (.int .i64 0) ∧ RW w' R (cmdF f v now) ∧ Kp (isB R) w w' := by
 have H : Hid _ := xcmd w R f h v now v0 v1
 go_enter Tryz.func127, Tryz.ntmps127
 go_wp2_with fail
 refine Calls.mono H.out ?_; rintro e w1 ⟨rfl, h1, k1⟩
 go_wp2
 go_ret
 exact ⟨rfl, h1, k1⟩
theorem rin_3 (w : World) (R : Nat) (now : Int) : Calls Tryz.prog 131 #[.pointer (some ⟨R, 0, none⟩), .int .i64 3, .int .u64 now] w fun e w' => e = .returned (.tuple #[.int .u8 255, .int .i64 0]) ∧ w' = w := by
 go_enter Tryz.func131, Tryz.ntmps131
 go_wp2
 go_ret2
 exact ⟨rfl, rfl⟩
theorem xwrite (w : World) (R : Nat) (f : Nat → Cn) (h : RW w R f) (i : Nat) (hi : i < 3) (p : Int) (hp : p = i) (v now : Int) (v0 : 0 ≤ v) (v1 : v < 256) (n0 : 0 ≤ now) (n1 : now < 18446744073709551616) : Calls Tryz.prog 127 #[.pointer (some ⟨R, 0, none⟩), .int .i64 p, .int .u8 v, .int .u64 now] w fun e w' => e = .returned (.int .i64 0) ∧ RW w' R (upd f i ((f i).write v now)) ∧ Kp (isB R) w w' := by
 obtain ⟨g, hA, hr⟩ := h.ex
 have ok2 : Oks (upd f i ((f i).write v now)) := h.ok.upd i ((h.ok i).write v0 v1 n0 n1)
 have rl := hr i hi
 have hh := (h.ok i).how
 rw [← rl.how] at hh
 have H : ∃ r', Rel r' ((f i).write v now) ∧ Calls Tryz.prog 127 #[.pointer (some ⟨R, 0, none⟩), .int .i64 p, .int .u8 v, .int .u64 now] w fun e w' => e = .returned (.int .i64 0) ∧ RAt w' R (updR g i r') ∧ Kp (isB R) w w' := by
  by_cases e3 : (g i).how = 3
  ·cases ew : (g i).wants
   ·refine ⟨_, rl.first v now e3 ew, ?_⟩
    subst hp
    exact routF_k i hi w R g _ hA rfl v now v0 v1 e3 ew
   ·have ff := (h.ok i).fst
    have ew' : (f i).wants = true := rl.wants ▸ ew
    rw [← rl.fst ew'] at ff
    by_cases ez : v * 256 + (g i).fst = 0
    ·refine ⟨_, rl.w3 v now 65536 e3 ew (by rw [if_pos ez]), ?_⟩
     subst hp
     exact rout3z_k i hi w R g _ hA rfl v now v0 v1 e3 ez ew ff.1 ff.2
    ·refine ⟨_, rl.w3 v now _ e3 ew (by rw [if_neg ez]), ?_⟩
     subst hp
     exact rout3n_k i hi w R g _ hA rfl v now v0 v1 e3 ez ew ff.1 ff.2
  ·by_cases e1 : (g i).how = 1
   ·by_cases ez : v = 0
    ·refine ⟨_, rl.w1 v now 65536 e1 (by rw [if_pos ez]), ?_⟩
     subst hp
     exact rout1z_k i hi w R g _ hA rfl v now v0 v1 e1 ez
    ·refine ⟨_, rl.w1 v now _ e1 (by rw [if_neg ez]), ?_⟩
     subst hp
     exact rout1n_k i hi w R g _ hA rfl v now v0 v1 e1 ez
   ·have e2 : (g i).how = 2 := by omega
    by_cases ez : v * 256 = 0
    ·refine ⟨_, rl.w2 v now 65536 e2 (by rw [if_pos ez]), ?_⟩
     subst hp
     exact rout2z_k i hi w R g _ hA rfl v now v0 v1 e2 ez
    ·refine ⟨_, rl.w2 v now _ e2 (by rw [if_neg ez]), ?_⟩
     subst hp
     exact rout2n_k i hi w R g _ hA rfl v now v0 v1 e2 ez
 obtain ⟨r', k, H⟩ := H
 exact H.mono fun e w' ⟨a, b, c⟩ => ⟨a, ⟨⟨_, b, relU hr i k⟩, ok2⟩, c⟩
theorem xOut (w : World) (R : Nat) (f : Nat → Cn) (h : RW w R f) (p v now : Int) (p0 : 0 ≤ p) (p1 : p < 4) (v0 : 0 ≤ v) (v1 : v < 256) (n0 : 0 ≤ now) (n1 : now < 18446744073709551616) : Calls Tryz.prog 127 #[.pointer (some ⟨R, 0, none⟩), .int .i64 p, .int .u8 v, .int .u64 now] w fun e w' => e = .returned (.int .i64 0) ∧ RW w' R (outF f p v now) ∧ Kp (isB R) w w' := by
 unfold outF
 by_cases e : p = 3
 ·subst e
  rw [if_pos rfl]
  exact xout_3 w R f h v now v0 v1
 ·rw [if_neg e]
  exact xwrite w R f h p.toNat (by omega) p (by omega) v now v0 v1 n0 n1
theorem xread (w : World) (R : Nat) (f : Nat → Cn) (h : RW w R f) (i : Nat) (hi : i < 3) (p : Int) (hp : p = i) (now : Int) : Calls Tryz.prog 131 #[.pointer (some ⟨R, 0, none⟩), .int .i64 p, .int .u64 now] w fun e w' => e = .returned (.tuple #[.int .u8 ((f i).told now), .int .i64 0]) ∧ RW w' R (upd f i (f i).read) ∧ Kp (isB R) w w' := by
 obtain ⟨g, hA, hr⟩ := h.ex
 have ok2 : Oks (upd f i (f i).read) := h.ok.upd i (h.ok i).read
 have rl := hr i hi
 have ll := rel_len rl (h.ok i)
 have bA : 0 ≤ (g i).val now ∧ (g i).val now < 65536 := by rw [rl.val (h.ok i) now]; exact (f i).value_bd now
 have bV : (g i).held = true → 0 ≤ (g i).value ∧ (g i).value < 65536 := fun e => by rw [rl.value (rl.held ▸ e)]; exact (h.ok i).held
 have H : ∃ u d, u = (if (g i).how = 3 then !(g i).upper else (g i).upper) ∧ d = (if ¬ (g i).how = 3 ∨ (g i).upper = true then false else (g i).held) ∧ Calls Tryz.prog 131 #[.pointer (some ⟨R, 0, none⟩), .int .i64 p, .int .u64 now] w fun e w' => e = .returned (.tuple #[.int .u8 (if (g i).upper then (if (g i).held then (g i).value else (g i).val now) / 256 else (if (g i).held then (g i).value else (g i).val now) % 256), .int .i64 0]) ∧ RAt w' R (updR g i ⟨(g i).mode, (g i).how, (g i).len, (g i).began, (g i).st, (g i).wants, (g i).fst, u, d, (g i).value⟩) ∧ Kp (isB R) w w' := by
  subst hp
  cases eh : (g i).held <;> cases eu : (g i).upper <;> by_cases e3 : (g i).how = 3
  ·refine ⟨true, false, by simp [e3], by simp [e3], ?_⟩
   simp only [Bool.false_eq_true, if_false]
   have H := rinn3l_k i hi w R g _ hA rfl now ll.1 ll.2 _ _ rfl rfl bA.1 bA.2 eh e3 eu
   rw [eh] at H; exact H
  ·refine ⟨false, false, by simp [e3], by simp [e3], ?_⟩
   simp only [Bool.false_eq_true, if_false]
   have H := rinnxl_k i hi w R g _ hA rfl now ll.1 ll.2 _ _ rfl rfl bA.1 bA.2 eh e3 eu
   rw [eu] at H; exact H
  ·refine ⟨false, false, by simp [e3], by simp [e3], ?_⟩
   simp only [Bool.false_eq_true, if_true, if_false]
   have H := rinn3u_k i hi w R g _ hA rfl now ll.1 ll.2 _ _ rfl rfl bA.1 bA.2 eh e3 eu
   exact H
  ·refine ⟨true, false, by simp [e3], by simp [e3], ?_⟩
   simp only [Bool.false_eq_true, if_true, if_false]
   have H := rinnxu_k i hi w R g _ hA rfl now ll.1 ll.2 _ _ rfl rfl bA.1 bA.2 eh e3 eu
   rw [eu] at H; exact H
  ·refine ⟨true, true, by simp [e3], by simp [e3], ?_⟩
   simp only [Bool.false_eq_true, if_true, if_false]
   have H := rinh3l_k i hi w R g _ hA rfl now ll.1 ll.2 _ _ rfl rfl (bV eh).1 (bV eh).2 eh e3 eu
   rw [eh] at H; exact H
  ·refine ⟨false, false, by simp [e3], by simp [e3], ?_⟩
   simp only [Bool.false_eq_true, if_true, if_false]
   have H := rinhxl_k i hi w R g _ hA rfl now ll.1 ll.2 _ _ rfl rfl (bV eh).1 (bV eh).2 eh e3 eu
   rw [eu] at H; exact H
  ·refine ⟨false, false, by simp [e3], by simp [e3], ?_⟩
   simp only [if_true]
   have H := rinh3u_k i hi w R g _ hA rfl now ll.1 ll.2 _ _ rfl rfl (bV eh).1 (bV eh).2 eh e3 eu
   exact H
  ·refine ⟨true, false, by simp [e3], by simp [e3], ?_⟩
   simp only [if_true]
   have H := rinhxu_k i hi w R g _ hA rfl now ll.1 ll.2 _ _ rfl rfl (bV eh).1 (bV eh).2 eh e3 eu
   rw [eu] at H; exact H
 obtain ⟨u, d, hu, hd, H⟩ := H
 rw [← rl.told (h.ok i) now] at H
 exact H.mono fun e w' ⟨a, b, c⟩ => ⟨a, ⟨⟨_, b, relU hr i (rl.read (h.ok i) u d hu hd)⟩, ok2⟩, c⟩
theorem xIn (w : World) (R : Nat) (f : Nat → Cn) (h : RW w R f) (p now : Int) (p0 : 0 ≤ p) (p1 : p < 4) : Calls Tryz.prog 131 #[.pointer (some ⟨R, 0, none⟩), .int .i64 p, .int .u64 now] w fun e w' => e = .returned (.tuple #[.int .u8 (innV f p now), .int .i64 0]) ∧ RW w' R (innF f p) ∧ Kp (isB R) w w' := by
 unfold innV innF
 by_cases e : p = 3
 ·subst e
  rw [if_pos rfl, if_pos rfl]
  exact (rin_3 w R now).mono fun e w' ⟨a, b⟩ => ⟨a, b ▸ h, b ▸ Kp.refl _ _⟩
 ·rw [if_neg e, if_neg e]
  exact xread w R f h p.toNat (by omega) p (by omega) now
theorem xLine (w : World) (R : Nat) (f : Nat → Cn) (h : RW w R f) (now : Int) : Calls Tryz.prog 76 #[.pointer (some ⟨R, 0, none⟩), .int .u64 now] w fun e w' => e = .returned (.bool ((f 0).line now)) ∧ Kp noB w w' := by
 obtain ⟨g, hA, hr⟩ := h.ex
 have rl := hr 0 (by decide)
 have ll := rel_len rl (h.ok 0)
 rw [← rl.line now]
 exact rlin_ok w R g hA now ll.1 ll.2
theorem xNew (w : World) : Calls Tryz.prog 32 #[] w fun e w' => ∃ R, e = .returned (.pointer (some ⟨R, 0, none⟩)) ∧ w.heap.size ≤ R ∧ RW w' R f00 ∧ Kp noB w w' :=
 (rnew_ok w).mono fun e w' ⟨R, a, b, c, d⟩ => ⟨R, a, b, ⟨⟨_, c, fun j hj => Rel.new⟩, f00_ok⟩, d⟩
end Go.Proofs.YtonfjhbfkichkaaGreat.Pt
