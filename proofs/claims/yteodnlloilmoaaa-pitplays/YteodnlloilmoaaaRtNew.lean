/- The contract of the document's New. -/
import Derived.Test.YteodnlloilmoaaaRtBase
namespace Go.Proofs.Yteodnlloilmoaaa
open Go.ChangeShapes Go.WideShapes Go.ChangeAt Go.RowKit
set_option linter.unusedVariables false

def r00 : RC := ⟨3, 3, 65536, 0, false, false, 0, false, false, 0⟩
def laidR (k : Nat) (j : Nat) : RC := if j < k then r00 else RC.zero

theorem laidR_upd (k : Nat) : updR (laidR k) k r00 = laidR (k + 1) := by
  funext j
  unfold updR laidR
  by_cases e : j = k
  · subst e; simp
  · rw [if_neg e]
    by_cases g : j < k
    · rw [if_pos g, if_pos (by omega)]
    · rw [if_neg g, if_neg (by omega)]

theorem row_at (g : Nat → RC) {i j : Nat} (hi : i < 3) (hj : j < 10) : (rowR g)[10 * i + j]? = (chV (g i))[j]? := by
  have hl : j < (chV (g i)).toList.length := hj
  have e : (chV (g i))[j]? = some ((chV (g i)).toList[j]) := by
    rw [← Array.getElem?_toList, List.getElem?_eq_getElem hl]
  rw [e]
  exact row_get g hi (List.getElem?_eq_getElem hl)

theorem row_size (g : Nat → RC) : (rowR g).size = 30 := by simp [rowR, chL_len]

theorem updR_updR (g : Nat → RC) (i : Nat) (a b : RC) : updR (updR g i a) i b = updR g i b := by
  funext j
  unfold updR
  split <;> rfl

theorem RAt.set {w : World} {R : Nat} {g : Nat → RC} {i : Nat} {r : RC} (h : RAt w R (updR g i r)) (hi : i < 3) (k o : Nat) (hk : k < 10) (ho : o = 10 * i + k) (v : Value) (r' : RC) (e : (chV r).setIfInBounds k v = chV r') : RAt (w.setCell ⟨R, o, none⟩ v) R (updR g i r') := by
  refine ⟨?_⟩
  rw [heap_set h.blk]
  congr 2
  apply Array.ext_getElem?
  intro j
  by_cases hj : j < 30
  · obtain ⟨a, b, ha, hb, rfl⟩ : ∃ a b, a < 3 ∧ b < 10 ∧ j = 10 * a + b := ⟨j / 10, j % 10, by omega, by omega, by omega⟩
    rw [row_at _ ha hb]
    by_cases ea : a = i
    · subst ea
      rw [updR_at, ← e]
      by_cases eb : b = k
      · subst eb
        rw [ho, Array.getElem?_setIfInBounds_self, Array.getElem?_setIfInBounds_self, if_pos (by rw [row_size]; omega), if_pos (by rw [chV_size]; omega)]
      · rw [Array.getElem?_setIfInBounds_ne (by omega), Array.getElem?_setIfInBounds_ne (by omega), row_at _ ha hb, updR_at]
    · rw [updR_ne _ _ ea, Array.getElem?_setIfInBounds_ne (by omega), row_at _ ha hb, updR_ne _ _ ea]
  · rw [Array.getElem?_eq_none (by rw [Array.size_setIfInBounds, row_size]; omega), Array.getElem?_eq_none (by rw [row_size]; omega)]

theorem RAt.cell {w : World} {R : Nat} {g : Nat → RC} (h : RAt w R g) {i k o : Nat} (hi : i < 3) (hk : k < 10) (ho : o = 10 * i + k) {v : Value} (e : (chV (g i))[k]? = some v) : w.cell? ⟨R, o, none⟩ = some v := by
  rw [cell_of_row w R o _ _ _ h.blk, ho, row_at _ hi hk]
  exact e

theorem laidR_self (k : Nat) : laidR k k = RC.zero := by unfold laidR; rw [if_neg (by omega)]

theorem rowR_all : rowR (laidR 3) = rowR (fun _ => r00) := rfl

def zrowR : Array Value := #[.int .i64 0, .int .i64 0, .int .u64 0, .int .u64 0, .bool false, .bool false, .int .u8 0, .bool false, .bool false, .int .u64 0, .int .i64 0, .int .i64 0, .int .u64 0, .int .u64 0, .bool false, .bool false, .int .u8 0, .bool false, .bool false, .int .u64 0, .int .i64 0, .int .i64 0, .int .u64 0, .int .u64 0, .bool false, .bool false, .int .u8 0, .bool false, .bool false, .int .u64 0]
theorem zrowR_is : zrowR = rowR (laidR 0) := rfl

set_option maxRecDepth 20000 in
set_option maxHeartbeats 1000000 in
theorem rnew_ok (w : World) : Calls Try.prog 10 #[] w fun e w' => ∃ R, e = .returned (.pointer (some ⟨R, 0, none⟩)) ∧ w.heap.size ≤ R ∧ RAt w' R (fun _ => r00) ∧ Kp noB w w' := by
  have h0 : Hid (RAt (w.alloc (.cells zrowR 53)) w.heap.size (laidR 0)) := ⟨by rw [zrowR_is]; exact heap_new _ _⟩
  have k0 : Hid (Kp noB w (w.alloc (.cells zrowR 53))) := Kp.alloc _ _ _
  unfold zrowR at h0 k0
  go_enter Try.func10, Try.ntmps10
  go_wp2
  obtain ⟨R, hR⟩ : ∃ B, B = w.heap.size := ⟨_, rfl⟩
  rw [← hR] at h0 ⊢
  generalize w.alloc _ = w0 at h0 k0 ⊢
  have lR : w.heap.size ≤ R := by omega
  clear hR
  go_loopw [2] (fun s2 wr => ∃ k : Nat, s2 = .int .i64 k ∧ k ≤ 3 ∧ RAt wr R (laidR k) ∧ Kp noB w wr) (fun s2 _ => (3 - intOf s2).toNat)
  case atStart => exact ⟨0, rfl, by omega, h0.out, k0.out⟩
  case round =>
    clear h0 k0
    obtain ⟨k, rfl, hk, hP, kr⟩ := hrel
    rcases (by omega : k = 0 ∨ k = 1 ∨ k = 2 ∨ k = 3) with rfl | rfl | rfl | rfl
    · have h : RAt wr R (updR (laidR 0) 0 RC.zero) := by
        have : updR (laidR 0) 0 RC.zero = laidR 0 := by rw [← laidR_self 0]; funext j; unfold updR; split; (rename_i e; rw [e]); rfl
        rw [this]; exact hP
      have c0 : wr.cell? ⟨R, 0, none⟩ = some (.int .i64 0) := h.cell (i := 0) (k := 0) (by decide) (by decide) rfl (by rw [updR_at]; rfl)
      have y0 := hP.fz 0
      have c1 : wr.cell? ⟨R, 1, none⟩ = some (.int .i64 0) := h.cell (i := 0) (k := 1) (by decide) (by decide) rfl (by rw [updR_at]; rfl)
      have y1 := hP.fz 1
      have c2 : wr.cell? ⟨R, 2, none⟩ = some (.int .u64 0) := h.cell (i := 0) (k := 2) (by decide) (by decide) rfl (by rw [updR_at]; rfl)
      have y2 := hP.fz 2
      have c3 : wr.cell? ⟨R, 3, none⟩ = some (.int .u64 0) := h.cell (i := 0) (k := 3) (by decide) (by decide) rfl (by rw [updR_at]; rfl)
      have y3 := hP.fz 3
      have c4 : wr.cell? ⟨R, 4, none⟩ = some (.bool false) := h.cell (i := 0) (k := 4) (by decide) (by decide) rfl (by rw [updR_at]; rfl)
      have y4 := hP.fz 4
      have c5 : wr.cell? ⟨R, 5, none⟩ = some (.bool false) := h.cell (i := 0) (k := 5) (by decide) (by decide) rfl (by rw [updR_at]; rfl)
      have y5 := hP.fz 5
      have c6 : wr.cell? ⟨R, 6, none⟩ = some (.int .u8 0) := h.cell (i := 0) (k := 6) (by decide) (by decide) rfl (by rw [updR_at]; rfl)
      have y6 := hP.fz 6
      have c7 : wr.cell? ⟨R, 7, none⟩ = some (.bool false) := h.cell (i := 0) (k := 7) (by decide) (by decide) rfl (by rw [updR_at]; rfl)
      have y7 := hP.fz 7
      have c8 : wr.cell? ⟨R, 8, none⟩ = some (.bool false) := h.cell (i := 0) (k := 8) (by decide) (by decide) rfl (by rw [updR_at]; rfl)
      have y8 := hP.fz 8
      have c9 : wr.cell? ⟨R, 9, none⟩ = some (.int .u64 0) := h.cell (i := 0) (k := 9) (by decide) (by decide) rfl (by rw [updR_at]; rfl)
      have y9 := hP.fz 9
      have E1 : Hid (RAt ((((((((((wr.setCell ⟨R, 0, none⟩ (.int .i64 3)).setCell ⟨R, 1, none⟩ (.int .i64 3)).setCell ⟨R, 2, none⟩ (.int .u64 65536)).setCell ⟨R, 3, none⟩ (.int .u64 0)).setCell ⟨R, 4, none⟩ (.bool false)).setCell ⟨R, 5, none⟩ (.bool false)).setCell ⟨R, 6, none⟩ (.int .u8 0)).setCell ⟨R, 7, none⟩ (.bool false)).setCell ⟨R, 8, none⟩ (.bool false)).setCell ⟨R, 9, none⟩ (.int .u64 0)) R (updR (laidR 0) 0 r00)) := ((((((((((h.set (by decide) 0 0 (by decide) rfl _ ⟨3, 0, 0, 0, false, false, 0, false, false, 0⟩ rfl).set (by decide) 1 1 (by decide) rfl _ ⟨3, 3, 0, 0, false, false, 0, false, false, 0⟩ rfl).set (by decide) 2 2 (by decide) rfl _ ⟨3, 3, 65536, 0, false, false, 0, false, false, 0⟩ rfl).set (by decide) 3 3 (by decide) rfl _ ⟨3, 3, 65536, 0, false, false, 0, false, false, 0⟩ rfl).set (by decide) 4 4 (by decide) rfl _ ⟨3, 3, 65536, 0, false, false, 0, false, false, 0⟩ rfl).set (by decide) 5 5 (by decide) rfl _ ⟨3, 3, 65536, 0, false, false, 0, false, false, 0⟩ rfl).set (by decide) 6 6 (by decide) rfl _ ⟨3, 3, 65536, 0, false, false, 0, false, false, 0⟩ rfl).set (by decide) 7 7 (by decide) rfl _ ⟨3, 3, 65536, 0, false, false, 0, false, false, 0⟩ rfl).set (by decide) 8 8 (by decide) rfl _ ⟨3, 3, 65536, 0, false, false, 0, false, false, 0⟩ rfl).set (by decide) 9 9 (by decide) rfl _ ⟨3, 3, 65536, 0, false, false, 0, false, false, 0⟩ rfl)
      have K1 : Hid (Kp noB w ((((((((((wr.setCell ⟨R, 0, none⟩ (.int .i64 3)).setCell ⟨R, 1, none⟩ (.int .i64 3)).setCell ⟨R, 2, none⟩ (.int .u64 65536)).setCell ⟨R, 3, none⟩ (.int .u64 0)).setCell ⟨R, 4, none⟩ (.bool false)).setCell ⟨R, 5, none⟩ (.bool false)).setCell ⟨R, 6, none⟩ (.int .u8 0)).setCell ⟨R, 7, none⟩ (.bool false)).setCell ⟨R, 8, none⟩ (.bool false)).setCell ⟨R, 9, none⟩ (.int .u64 0))) := kr.own ((((((((((kpB R wr _ _).trans (kpB R _ _ _)).trans (kpB R _ _ _)).trans (kpB R _ _ _)).trans (kpB R _ _ _)).trans (kpB R _ _ _)).trans (kpB R _ _ _)).trans (kpB R _ _ _)).trans (kpB R _ _ _)).trans (kpB R _ _ _)) lR
      rw [laidR_upd] at E1
      clear h hP kr
      go_wp2
      go_roundw
      case rel => exact ⟨1, rfl, by omega, E1.out, K1.out⟩
      case measure => simp [intOf]
    · have h : RAt wr R (updR (laidR 1) 1 RC.zero) := by
        have : updR (laidR 1) 1 RC.zero = laidR 1 := by rw [← laidR_self 1]; funext j; unfold updR; split; (rename_i e; rw [e]); rfl
        rw [this]; exact hP
      have c0 : wr.cell? ⟨R, 10, none⟩ = some (.int .i64 0) := h.cell (i := 1) (k := 0) (by decide) (by decide) rfl (by rw [updR_at]; rfl)
      have y0 := hP.fz 10
      have c1 : wr.cell? ⟨R, 11, none⟩ = some (.int .i64 0) := h.cell (i := 1) (k := 1) (by decide) (by decide) rfl (by rw [updR_at]; rfl)
      have y1 := hP.fz 11
      have c2 : wr.cell? ⟨R, 12, none⟩ = some (.int .u64 0) := h.cell (i := 1) (k := 2) (by decide) (by decide) rfl (by rw [updR_at]; rfl)
      have y2 := hP.fz 12
      have c3 : wr.cell? ⟨R, 13, none⟩ = some (.int .u64 0) := h.cell (i := 1) (k := 3) (by decide) (by decide) rfl (by rw [updR_at]; rfl)
      have y3 := hP.fz 13
      have c4 : wr.cell? ⟨R, 14, none⟩ = some (.bool false) := h.cell (i := 1) (k := 4) (by decide) (by decide) rfl (by rw [updR_at]; rfl)
      have y4 := hP.fz 14
      have c5 : wr.cell? ⟨R, 15, none⟩ = some (.bool false) := h.cell (i := 1) (k := 5) (by decide) (by decide) rfl (by rw [updR_at]; rfl)
      have y5 := hP.fz 15
      have c6 : wr.cell? ⟨R, 16, none⟩ = some (.int .u8 0) := h.cell (i := 1) (k := 6) (by decide) (by decide) rfl (by rw [updR_at]; rfl)
      have y6 := hP.fz 16
      have c7 : wr.cell? ⟨R, 17, none⟩ = some (.bool false) := h.cell (i := 1) (k := 7) (by decide) (by decide) rfl (by rw [updR_at]; rfl)
      have y7 := hP.fz 17
      have c8 : wr.cell? ⟨R, 18, none⟩ = some (.bool false) := h.cell (i := 1) (k := 8) (by decide) (by decide) rfl (by rw [updR_at]; rfl)
      have y8 := hP.fz 18
      have c9 : wr.cell? ⟨R, 19, none⟩ = some (.int .u64 0) := h.cell (i := 1) (k := 9) (by decide) (by decide) rfl (by rw [updR_at]; rfl)
      have y9 := hP.fz 19
      have E1 : Hid (RAt ((((((((((wr.setCell ⟨R, 10, none⟩ (.int .i64 3)).setCell ⟨R, 11, none⟩ (.int .i64 3)).setCell ⟨R, 12, none⟩ (.int .u64 65536)).setCell ⟨R, 13, none⟩ (.int .u64 0)).setCell ⟨R, 14, none⟩ (.bool false)).setCell ⟨R, 15, none⟩ (.bool false)).setCell ⟨R, 16, none⟩ (.int .u8 0)).setCell ⟨R, 17, none⟩ (.bool false)).setCell ⟨R, 18, none⟩ (.bool false)).setCell ⟨R, 19, none⟩ (.int .u64 0)) R (updR (laidR 1) 1 r00)) := ((((((((((h.set (by decide) 0 10 (by decide) rfl _ ⟨3, 0, 0, 0, false, false, 0, false, false, 0⟩ rfl).set (by decide) 1 11 (by decide) rfl _ ⟨3, 3, 0, 0, false, false, 0, false, false, 0⟩ rfl).set (by decide) 2 12 (by decide) rfl _ ⟨3, 3, 65536, 0, false, false, 0, false, false, 0⟩ rfl).set (by decide) 3 13 (by decide) rfl _ ⟨3, 3, 65536, 0, false, false, 0, false, false, 0⟩ rfl).set (by decide) 4 14 (by decide) rfl _ ⟨3, 3, 65536, 0, false, false, 0, false, false, 0⟩ rfl).set (by decide) 5 15 (by decide) rfl _ ⟨3, 3, 65536, 0, false, false, 0, false, false, 0⟩ rfl).set (by decide) 6 16 (by decide) rfl _ ⟨3, 3, 65536, 0, false, false, 0, false, false, 0⟩ rfl).set (by decide) 7 17 (by decide) rfl _ ⟨3, 3, 65536, 0, false, false, 0, false, false, 0⟩ rfl).set (by decide) 8 18 (by decide) rfl _ ⟨3, 3, 65536, 0, false, false, 0, false, false, 0⟩ rfl).set (by decide) 9 19 (by decide) rfl _ ⟨3, 3, 65536, 0, false, false, 0, false, false, 0⟩ rfl)
      have K1 : Hid (Kp noB w ((((((((((wr.setCell ⟨R, 10, none⟩ (.int .i64 3)).setCell ⟨R, 11, none⟩ (.int .i64 3)).setCell ⟨R, 12, none⟩ (.int .u64 65536)).setCell ⟨R, 13, none⟩ (.int .u64 0)).setCell ⟨R, 14, none⟩ (.bool false)).setCell ⟨R, 15, none⟩ (.bool false)).setCell ⟨R, 16, none⟩ (.int .u8 0)).setCell ⟨R, 17, none⟩ (.bool false)).setCell ⟨R, 18, none⟩ (.bool false)).setCell ⟨R, 19, none⟩ (.int .u64 0))) := kr.own ((((((((((kpB R wr _ _).trans (kpB R _ _ _)).trans (kpB R _ _ _)).trans (kpB R _ _ _)).trans (kpB R _ _ _)).trans (kpB R _ _ _)).trans (kpB R _ _ _)).trans (kpB R _ _ _)).trans (kpB R _ _ _)).trans (kpB R _ _ _)) lR
      rw [laidR_upd] at E1
      clear h hP kr
      go_wp2
      go_roundw
      case rel => exact ⟨2, rfl, by omega, E1.out, K1.out⟩
      case measure => simp [intOf]
    · have h : RAt wr R (updR (laidR 2) 2 RC.zero) := by
        have : updR (laidR 2) 2 RC.zero = laidR 2 := by rw [← laidR_self 2]; funext j; unfold updR; split; (rename_i e; rw [e]); rfl
        rw [this]; exact hP
      have c0 : wr.cell? ⟨R, 20, none⟩ = some (.int .i64 0) := h.cell (i := 2) (k := 0) (by decide) (by decide) rfl (by rw [updR_at]; rfl)
      have y0 := hP.fz 20
      have c1 : wr.cell? ⟨R, 21, none⟩ = some (.int .i64 0) := h.cell (i := 2) (k := 1) (by decide) (by decide) rfl (by rw [updR_at]; rfl)
      have y1 := hP.fz 21
      have c2 : wr.cell? ⟨R, 22, none⟩ = some (.int .u64 0) := h.cell (i := 2) (k := 2) (by decide) (by decide) rfl (by rw [updR_at]; rfl)
      have y2 := hP.fz 22
      have c3 : wr.cell? ⟨R, 23, none⟩ = some (.int .u64 0) := h.cell (i := 2) (k := 3) (by decide) (by decide) rfl (by rw [updR_at]; rfl)
      have y3 := hP.fz 23
      have c4 : wr.cell? ⟨R, 24, none⟩ = some (.bool false) := h.cell (i := 2) (k := 4) (by decide) (by decide) rfl (by rw [updR_at]; rfl)
      have y4 := hP.fz 24
      have c5 : wr.cell? ⟨R, 25, none⟩ = some (.bool false) := h.cell (i := 2) (k := 5) (by decide) (by decide) rfl (by rw [updR_at]; rfl)
      have y5 := hP.fz 25
      have c6 : wr.cell? ⟨R, 26, none⟩ = some (.int .u8 0) := h.cell (i := 2) (k := 6) (by decide) (by decide) rfl (by rw [updR_at]; rfl)
      have y6 := hP.fz 26
      have c7 : wr.cell? ⟨R, 27, none⟩ = some (.bool false) := h.cell (i := 2) (k := 7) (by decide) (by decide) rfl (by rw [updR_at]; rfl)
      have y7 := hP.fz 27
      have c8 : wr.cell? ⟨R, 28, none⟩ = some (.bool false) := h.cell (i := 2) (k := 8) (by decide) (by decide) rfl (by rw [updR_at]; rfl)
      have y8 := hP.fz 28
      have c9 : wr.cell? ⟨R, 29, none⟩ = some (.int .u64 0) := h.cell (i := 2) (k := 9) (by decide) (by decide) rfl (by rw [updR_at]; rfl)
      have y9 := hP.fz 29
      have E1 : Hid (RAt ((((((((((wr.setCell ⟨R, 20, none⟩ (.int .i64 3)).setCell ⟨R, 21, none⟩ (.int .i64 3)).setCell ⟨R, 22, none⟩ (.int .u64 65536)).setCell ⟨R, 23, none⟩ (.int .u64 0)).setCell ⟨R, 24, none⟩ (.bool false)).setCell ⟨R, 25, none⟩ (.bool false)).setCell ⟨R, 26, none⟩ (.int .u8 0)).setCell ⟨R, 27, none⟩ (.bool false)).setCell ⟨R, 28, none⟩ (.bool false)).setCell ⟨R, 29, none⟩ (.int .u64 0)) R (updR (laidR 2) 2 r00)) := ((((((((((h.set (by decide) 0 20 (by decide) rfl _ ⟨3, 0, 0, 0, false, false, 0, false, false, 0⟩ rfl).set (by decide) 1 21 (by decide) rfl _ ⟨3, 3, 0, 0, false, false, 0, false, false, 0⟩ rfl).set (by decide) 2 22 (by decide) rfl _ ⟨3, 3, 65536, 0, false, false, 0, false, false, 0⟩ rfl).set (by decide) 3 23 (by decide) rfl _ ⟨3, 3, 65536, 0, false, false, 0, false, false, 0⟩ rfl).set (by decide) 4 24 (by decide) rfl _ ⟨3, 3, 65536, 0, false, false, 0, false, false, 0⟩ rfl).set (by decide) 5 25 (by decide) rfl _ ⟨3, 3, 65536, 0, false, false, 0, false, false, 0⟩ rfl).set (by decide) 6 26 (by decide) rfl _ ⟨3, 3, 65536, 0, false, false, 0, false, false, 0⟩ rfl).set (by decide) 7 27 (by decide) rfl _ ⟨3, 3, 65536, 0, false, false, 0, false, false, 0⟩ rfl).set (by decide) 8 28 (by decide) rfl _ ⟨3, 3, 65536, 0, false, false, 0, false, false, 0⟩ rfl).set (by decide) 9 29 (by decide) rfl _ ⟨3, 3, 65536, 0, false, false, 0, false, false, 0⟩ rfl)
      have K1 : Hid (Kp noB w ((((((((((wr.setCell ⟨R, 20, none⟩ (.int .i64 3)).setCell ⟨R, 21, none⟩ (.int .i64 3)).setCell ⟨R, 22, none⟩ (.int .u64 65536)).setCell ⟨R, 23, none⟩ (.int .u64 0)).setCell ⟨R, 24, none⟩ (.bool false)).setCell ⟨R, 25, none⟩ (.bool false)).setCell ⟨R, 26, none⟩ (.int .u8 0)).setCell ⟨R, 27, none⟩ (.bool false)).setCell ⟨R, 28, none⟩ (.bool false)).setCell ⟨R, 29, none⟩ (.int .u64 0))) := kr.own ((((((((((kpB R wr _ _).trans (kpB R _ _ _)).trans (kpB R _ _ _)).trans (kpB R _ _ _)).trans (kpB R _ _ _)).trans (kpB R _ _ _)).trans (kpB R _ _ _)).trans (kpB R _ _ _)).trans (kpB R _ _ _)).trans (kpB R _ _ _)) lR
      rw [laidR_upd] at E1
      clear h hP kr
      go_wp2
      go_roundw
      case rel => exact ⟨3, rfl, by omega, E1.out, K1.out⟩
      case measure => simp [intOf]
    · go_wp2
      go_ret
      exact ⟨R, rfl, lR, ⟨rowR_all ▸ hP.blk⟩, kr⟩
end Go.Proofs.Yteodnlloilmoaaa
