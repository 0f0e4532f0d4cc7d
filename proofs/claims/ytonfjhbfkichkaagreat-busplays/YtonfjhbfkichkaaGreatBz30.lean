/- The bus and its devices: UrRead. -/
import Derived.Test.YtonfjhbfkichkaaGreatBz03
namespace Go.Proofs.YtonfjhbfkichkaaGreat.Ut
open Go.ChangeShapes Go.WideShapes Go.ChangeAt Go.RowKit
set_option linter.unusedVariables false
set_option maxRecDepth 20000
section
variable {w : World} {R : Nat} {cq sv : Value} {u : U}
theorem lat_gt (u : U) : decide ((127 : Int) < u.line) = u.lat := by
 unfold U.lat
 rw [decide_eq_decide]
 omega
def ROut (w : World) (R : Nat) (cq sv : Value) (u : U) (w' : World) : Prop :=
 ∃ cq' sv', RAt w' R cq' sv' u ∧ (∀ k, rfoot R cq' sv' k → rfoot R cq sv k ∨ w.heap.size ≤ k) ∧ Kp (rfoot R cq sv) w w'
theorem Kp.rfoot {w' : World} (h : Kp (isB R) w w') : Kp (rfoot R cq sv) w w' := h.mono fun k _ e => .inl e
theorem RAt.out {w' : World} (h : RAt w' R cq sv u) (k : Kp (isB R) w w') : ROut w R cq sv u w' := ⟨cq, sv, h, fun _ g => .inl g, k.rfoot⟩
theorem CqAt.inv {w : World} {v : Value} {l : List Int} (h : CqAt w v l) : (v = .slice none 0 0 ∧ l = []) ∨ ∃ g o cap cur, v = .slice (some ⟨g, o, none⟩) l.length cap ∧ w.heap[g]? = some (.cells cur 5 (0, 0)) ∧ l.length ≤ cap ∧ o + cap ≤ cur.size ∧ cap ≤ maxLen ∧ ∀ j, j < l.length → cur[o + j]? = some (.int .u8 (l.getD j 0)) := by
 cases h with
 | no => exact .inl ⟨rfl, rfl⟩
 | on g o cap cur l hg hn hc hm hx => exact .inr ⟨g, o, cap, cur, rfl, hg, hn, hc, hm, hx⟩
theorem CqAt.tl {w : World} {v : Value} {l : List Int} {b : Int} (h : CqAt w v (b :: l)) : ∃ g o cap, v = .slice (some ⟨g, o, none⟩) (l.length + 1) cap ∧ w.cell? ⟨g, o, none⟩ = some (.int .u8 b) ∧ CqAt w (.slice (some (if cap = 1 then ⟨g, o, none⟩ else ⟨g, o + 1, none⟩)) l.length (cap - 1)) l := by
 rcases h.inv with ⟨_, e⟩ | ⟨g, o, cap, cur, e, hg, hn, hc, hm, hx⟩
 ·cases e
 ·refine ⟨g, o, cap, e, ?_, ?_⟩
  ·have := hx 0 (by simp)
   rw [cell_of_row _ _ _ _ _ _ hg]
   simpa using this
  ·rw [List.length_cons] at hn
   by_cases e : cap = 1
   ·rw [if_pos e]
    have el : l = [] := List.length_eq_zero_iff.1 (by omega)
    subst el
    exact .on g o (cap - 1) cur [] hg (by simp) (by omega) (by omega) (fun j hj => by simp at hj)
   ·rw [if_neg e]
    refine .on g (o + 1) (cap - 1) cur l hg (by omega) (by omega) (by omega) (fun j hj => ?_)
    have := hx (j + 1) (by rw [List.length_cons]; omega)
    rw [show o + 1 + j = o + (j + 1) by omega, this]
    rfl
theorem rread_div0 (h : RAt w R cq sv u) (hl : u.lat = true) : Calls Tryz.prog 132 #[.pointer (some ⟨R, 0, none⟩), .int .i64 0] w fun e w' => e = .returned (.tuple #[.int .u8 (u.inV 0), .int .i64 0]) ∧ ROut w R cq sv (u.inn 0) w' := by
 have c4 := h.c4
 have cc := h.c2
 have el := (lat_gt u).trans hl
 have hC : Hid (RAt w R cq sv u) := h
 clear h
 go_enter Tryz.func132, Tryz.ntmps132
 go_wp2
 go_ret2
 have e1 : u.inV 0 = u.d0 := by unfold U.inV; rw [if_pos rfl, if_pos hl]
 have e2 : u.inn 0 = u := by unfold U.inn; rw [if_pos rfl, if_pos hl]
 rw [e1, e2]
 exact ⟨rfl, hC.out.out (Kp.refl _ _)⟩
theorem rread_div1 (h : RAt w R cq sv u) (hl : u.lat = true) : Calls Tryz.prog 132 #[.pointer (some ⟨R, 0, none⟩), .int .i64 1] w fun e w' => e = .returned (.tuple #[.int .u8 (u.inV 1), .int .i64 0]) ∧ ROut w R cq sv (u.inn 1) w' := by
 have c4 := h.c4
 have cc := h.c3
 have el := (lat_gt u).trans hl
 have hC : Hid (RAt w R cq sv u) := h
 clear h
 go_enter Tryz.func132, Tryz.ntmps132
 go_wp2
 go_ret2
 have e1 : u.inV 1 = u.d1 := by unfold U.inV; rw [if_neg (by decide)]; rw [if_pos rfl, if_pos hl]
 have e2 : u.inn 1 = u := by unfold U.inn; rw [if_neg (by decide), if_neg (by decide), if_neg (by decide)]
 rw [e1, e2]
 exact ⟨rfl, hC.out.out (Kp.refl _ _)⟩
theorem rread_0e (h : RAt w R cq sv u) (hl : u.lat = false) (hc : u.came = []) : Calls Tryz.prog 132 #[.pointer (some ⟨R, 0, none⟩), .int .i64 0] w fun e w' => e = .returned (.tuple #[.int .u8 (u.inV 0), .int .i64 0]) ∧ ROut w R cq sv (u.inn 0) w' := by
 have c0 := h.c0
 have c4 := h.c4
 have el := (lat_gt u).trans hl
 obtain ⟨p, c, rfl⟩ := h.chn.sl
 rw [hc, List.length_nil] at c0
 have hC : Hid (RAt w R _ sv u) := h
 clear h
 go_enter Tryz.func132, Tryz.ntmps132
 go_wp2
 go_ret2
 have hl' : ¬ u.lat = true := by rw [hl]; decide
 have e1 : u.inV 0 = 0 := by unfold U.inV U.first; rw [if_pos rfl, if_neg hl', hc]; rfl
 have e2 : u.inn 0 = u := by
  unfold U.inn U.took
  rw [if_pos rfl, if_neg hl']
  obtain ⟨came, lost, tell, on, d0, d1, want, line, modem, jot, sent⟩ := u
  simp only at hc
  subst hc
  rfl
 rw [e1, e2]
 exact ⟨rfl, hC.out.out (Kp.refl _ _)⟩
theorem rread_0s (h : RAt w R cq sv u) (hl : u.lat = false) (b : Int) (l : List Int) (hc : u.came = b :: l) : Calls Tryz.prog 132 #[.pointer (some ⟨R, 0, none⟩), .int .i64 0] w fun e w' => e = .returned (.tuple #[.int .u8 (u.inV 0), .int .i64 0]) ∧ ROut w R cq sv (u.inn 0) w' := by
 have c0 := h.c0
 have z0 := h.fz 0
 have c4 := h.c4
 have el := (lat_gt u).trans hl
 have hq := h.chn
 rw [hc] at hq
 obtain ⟨g, o, cap, rfl, hb, ht⟩ := hq.tl
 have hC : Hid (RAt w R _ sv u) := h
 have HT : Hid _ := ht
 have hl' : ¬ u.lat = true := by rw [hl]; decide
 have e1 : u.inV 0 = b := by unfold U.inV U.first; rw [if_pos rfl, if_neg hl', hc]; rfl
 have e2 : u.inn 0 = { u with came := l } := by unfold U.inn U.took; rw [if_pos rfl, if_neg hl', hc]; rfl
 have e3 : decide (l.length + 1 = 0) = false := by simp
 rw [e1, e2]
 have fin : ∀ a : Addr, CqAt w (.slice (some a) l.length (cap - 1)) l → a.block = g → ROut w R (.slice (some ⟨g, o, none⟩) (l.length + 1) cap) sv { u with came := l } (w.setCell ⟨R, 0, none⟩ (.slice (some a) l.length (cap - 1))) := fun a hq' ea => ⟨_, sv, hC.out.put (.slice (some a) l.length (cap - 1)) sv { u with came := l } rfl hq' hC.out.snt (fun k e => by
   have e : some a.block = some k := e
   rw [ea] at e
   exact hC.out.apart k e), fun k f => .inl (by
   rcases f with f | f | f
   ·exact .inl f
   ·have f : some a.block = some k := f
    rw [ea] at f
    exact .inr (.inl f)
   ·exact .inr (.inr f)), (kpB R _ _ _).rfoot⟩
 have FIN : Hid _ := fin
 clear h hq ht e1 e2 fin
 by_cases ec : cap = 1
 ·subst ec
  go_enter Tryz.func132, Tryz.ntmps132
  go_wp2
  go_ret2
  exact ⟨rfl, FIN.out ⟨g, o, none⟩ (by simpa using HT.out) rfl⟩
 ·have ed : decide (cap = 1) = false := by simp [ec]
  go_enter Tryz.func132, Tryz.ntmps132
  go_wp2
  go_ret2
  exact ⟨rfl, FIN.out ⟨g, o + 1, none⟩ (by have := HT.out; rw [if_neg ec] at this; exact this) rfl⟩
theorem rread_1 (h : RAt w R cq sv u) (k : u.Ok) (hl : u.lat = false) : Calls Tryz.prog 132 #[.pointer (some ⟨R, 0, none⟩), .int .i64 1] w fun e w' => e = .returned (.tuple #[.int .u8 (u.inV 1), .int .i64 0]) ∧ ROut w R cq sv (u.inn 1) w' := by
 have c4 := h.c4
 have c7 := h.c7
 have hC : Hid (RAt w R cq sv u) := h
 have el := (lat_gt u).trans hl
 clear h k
 go_enter Tryz.func132, Tryz.ntmps132
 go_wp2
 go_ret2
 have e1 : u.inV 1 = u.want := by unfold U.inV; rw [if_neg (by decide), if_pos rfl, if_neg (by rw [hl]; decide)]
 rw [e1]
 exact ⟨rfl, hC.out.out (Kp.refl _ _)⟩
theorem rread_3 (h : RAt w R cq sv u) (k : u.Ok) : Calls Tryz.prog 132 #[.pointer (some ⟨R, 0, none⟩), .int .i64 3] w fun e w' => e = .returned (.tuple #[.int .u8 (u.inV 3), .int .i64 0]) ∧ ROut w R cq sv (u.inn 3) w' := by
 have c4 := h.c4
 have cc := h.c4
 have hC : Hid (RAt w R cq sv u) := h
 clear h k
 have el := lat_gt u
 generalize u.lat = x at el
 cases x
 ·go_enter Tryz.func132, Tryz.ntmps132
  go_wp2
  go_ret2
  exact ⟨rfl, hC.out.out (Kp.refl _ _)⟩
 ·go_enter Tryz.func132, Tryz.ntmps132
  go_wp2
  go_ret2
  exact ⟨rfl, hC.out.out (Kp.refl _ _)⟩
theorem rread_4 (h : RAt w R cq sv u) (k : u.Ok) : Calls Tryz.prog 132 #[.pointer (some ⟨R, 0, none⟩), .int .i64 4] w fun e w' => e = .returned (.tuple #[.int .u8 (u.inV 4), .int .i64 0]) ∧ ROut w R cq sv (u.inn 4) w' := by
 have c4 := h.c4
 have cc := h.c5
 have hC : Hid (RAt w R cq sv u) := h
 clear h k
 have el := lat_gt u
 generalize u.lat = x at el
 cases x
 ·go_enter Tryz.func132, Tryz.ntmps132
  go_wp2
  go_ret2
  exact ⟨rfl, hC.out.out (Kp.refl _ _)⟩
 ·go_enter Tryz.func132, Tryz.ntmps132
  go_wp2
  go_ret2
  exact ⟨rfl, hC.out.out (Kp.refl _ _)⟩
theorem rread_7 (h : RAt w R cq sv u) (k : u.Ok) : Calls Tryz.prog 132 #[.pointer (some ⟨R, 0, none⟩), .int .i64 7] w fun e w' => e = .returned (.tuple #[.int .u8 (u.inV 7), .int .i64 0]) ∧ ROut w R cq sv (u.inn 7) w' := by
 have c4 := h.c4
 have cc := h.c6
 have hC : Hid (RAt w R cq sv u) := h
 clear h k
 have el := lat_gt u
 generalize u.lat = x at el
 cases x
 ·go_enter Tryz.func132, Tryz.ntmps132
  go_wp2
  go_ret2
  exact ⟨rfl, hC.out.out (Kp.refl _ _)⟩
 ·go_enter Tryz.func132, Tryz.ntmps132
  go_wp2
  go_ret2
  exact ⟨rfl, hC.out.out (Kp.refl _ _)⟩
theorem rread_6 (h : RAt w R cq sv u) (k : u.Ok) : Calls Tryz.prog 132 #[.pointer (some ⟨R, 0, none⟩), .int .i64 6] w fun e w' => e = .returned (.tuple #[.int .u8 (u.inV 6), .int .i64 0]) ∧ ROut w R cq sv (u.inn 6) w' := by
 have c4 := h.c4
 have hC : Hid (RAt w R cq sv u) := h
 clear h k
 have el := lat_gt u
 generalize u.lat = x at el
 cases x
 ·go_enter Tryz.func132, Tryz.ntmps132
  go_wp2
  go_ret2
  exact ⟨rfl, hC.out.out (Kp.refl _ _)⟩
 ·go_enter Tryz.func132, Tryz.ntmps132
  go_wp2
  go_ret2
  exact ⟨rfl, hC.out.out (Kp.refl _ _)⟩
theorem rread_2 (h : RAt w R cq sv u) (k : u.Ok) : Calls Tryz.prog 132 #[.pointer (some ⟨R, 0, none⟩), .int .i64 2] w fun e w' => e = .returned (.tuple #[.int .u8 (u.inV 2), .int .i64 0]) ∧ ROut w R cq sv (u.inn 2) w' := by
 have HT : Hid _ := rwhy_any h k
 have c4 := h.c4
 have c8 := h.c8
 have c9 := h.c9
 have z9 := h.fz 9
 have hC : Hid (RAt w R cq sv u) := h
 have hy : u.why = 4 ∨ u.why = 2 ∨ u.why = 1 := by
  unfold U.why
  split
  ·exact .inl rfl
  ·split
   ·exact .inr (.inl rfl)
   ·exact .inr (.inr rfl)
 have e1 : u.inV 2 = u.told := rfl
 have e2 : u.inn 2 = u.telling := rfl
 rw [e1, e2]
 unfold U.told U.telling
 have el := lat_gt u
 clear h k e1 e2
 generalize u.lat = x at el
 generalize u.why = y at HT hy ⊢
 rcases hy with rfl | rfl | rfl <;> cases x <;> cases eo : u.on <;> rw [eo] at c8 <;> (
  go_enter Tryz.func132, Tryz.ntmps132
  go_wp2_with fail
  refine Calls.mono HT.out ?_; rintro e w1 ⟨rfl, hw⟩; replace hw := hw.symm; subst hw
  go_wp2
  go_ret2
  first
  | exact ⟨rfl, hC.out.out (Kp.refl _ _)⟩
  | exact ⟨rfl, (hC.out.set { u with tell := false } rfl rfl rfl).out (kpB R _ _ _)⟩
  | exact ⟨rfl, (hC.out.set { u with tell := false, on := false } (by simp [rC, eo]) rfl rfl).out (kpB R _ _ _)⟩
  | exact ⟨rfl, (hC.out.set { u with tell := false, on := true } (by simp [rC, eo]) rfl rfl).out (kpB R _ _ _)⟩)
theorem rread_5 (h : RAt w R cq sv u) (k : u.Ok) : Calls Tryz.prog 132 #[.pointer (some ⟨R, 0, none⟩), .int .i64 5] w fun e w' => e = .returned (.tuple #[.int .u8 (u.inV 5), .int .i64 0]) ∧ ROut w R cq sv (u.inn 5) w' := by
 have c0 := h.c0
 have c1 := h.c1
 have z1 := h.fz 1
 have c4 := h.c4
 obtain ⟨p, c, rfl⟩ := h.chn.sl
 have hC : Hid (RAt w R _ sv u) := h
 have e1 : u.inV 5 = u.status := rfl
 have e2 : u.inn 5 = { u with lost := false } := rfl
 have et : decide (0 < u.came.length) = u.there := rfl
 rw [e1, e2]
 unfold U.status
 have el := lat_gt u
 clear h k e1 e2
 generalize u.lat = x at el
 generalize u.there = y at et ⊢
 cases y <;> cases x <;> cases eo : u.lost <;> rw [eo] at c1 <;> (
  go_enter Tryz.func132, Tryz.ntmps132
  go_wp2
  go_ret2
  exact ⟨rfl, (hC.out.set { u with lost := false } rfl rfl rfl).out (kpB R _ _ _)⟩)
theorem rread_no (h : RAt w R cq sv u) (n : Int) (hn : n < 0 ∨ 8 ≤ n) : Calls Tryz.prog 132 #[.pointer (some ⟨R, 0, none⟩), .int .i64 n] w fun e w' => e = .returned (.tuple #[.int .u8 0, .int .i64 1]) ∧ w' = w := by
 have c4 := h.c4
 have n0 : (n == 0) = false := by simp; omega
 have n1 : (n == 1) = false := by simp; omega
 have n2 : (n == 2) = false := by simp; omega
 have n3 : (n == 3) = false := by simp; omega
 have n4 : (n == 4) = false := by simp; omega
 have n5 : (n == 5) = false := by simp; omega
 have n6 : (n == 6) = false := by simp; omega
 have n7 : (n == 7) = false := by simp; omega
 have el := lat_gt u
 clear h
 generalize u.lat = x at el
 cases x <;> (
  go_enter Tryz.func132, Tryz.ntmps132
  go_wp2
  go_ret2
  exact ⟨rfl, rfl⟩)
theorem rread_ok (h : RAt w R cq sv u) (k : u.Ok) (n : Int) (n0 : 0 ≤ n) (n1 : n < 8) : Calls Tryz.prog 132 #[.pointer (some ⟨R, 0, none⟩), .int .i64 n] w fun e w' => e = .returned (.tuple #[.int .u8 (u.inV n), .int .i64 0]) ∧ ROut w R cq sv (u.inn n) w' := by
 rcases (by omega : n = 0 ∨ n = 1 ∨ n = 2 ∨ n = 3 ∨ n = 4 ∨ n = 5 ∨ n = 6 ∨ n = 7) with rfl | rfl | rfl | rfl | rfl | rfl | rfl | rfl
 ·cases e : u.lat
  ·cases hc : u.came with
   | nil => exact rread_0e h e hc
   | cons b l => exact rread_0s h e b l hc
  ·exact rread_div0 h e
 ·cases e : u.lat
  ·exact rread_1 h k e
  ·exact rread_div1 h e
 ·exact rread_2 h k
 ·exact rread_3 h k
 ·exact rread_4 h k
 ·exact rread_5 h k
 ·exact rread_6 h k
 ·exact rread_7 h k
end
end Go.Proofs.YtonfjhbfkichkaaGreat.Ut
