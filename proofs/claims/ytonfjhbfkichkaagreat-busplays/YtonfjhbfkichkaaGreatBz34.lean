/- The bus and its devices: IxIn. -/
import Derived.Test.YtonfjhbfkichkaaGreatBz33
import Derived.Test.YtonfjhbfkichkaaGreatBz13
namespace Go.Proofs.YtonfjhbfkichkaaGreat.Dk
open Go.ChangeShapes Go.WideShapes Go.ChangeAt Go.RowKit
set_option linter.unusedVariables false
set_option maxRecDepth 20000
section
variable {w : World} {B gD cap : Nat} {dn : Int} {sv : Value} {d : Id}
theorem xin_no (w : World) (x : Option Addr) (reg size : Int) (h : ck reg size ≠ 0) : Calls Tryz.prog 81 #[.pointer x, .int .i64 reg, .int .i64 size] w fun e w' => e = .returned (.tuple #[.int .u32 0, .int .i64 (ck reg size)]) ∧ w' = w := by
 by_cases a : reg < 0
 ·have e : ck reg size = 1 := by unfold ck; rw [if_pos (.inl a)]
  rw [e]
  clear h e
  go_enter Tryz.func81, Tryz.ntmps81
  go_wp2
  go_ret2
  exact ⟨rfl, rfl⟩
 ·by_cases b : 8 < reg
  ·have e : ck reg size = 1 := by unfold ck; rw [if_pos (.inr (by omega))]
   rw [e]
   clear h e
   go_enter Tryz.func81, Tryz.ntmps81
   go_wp2
   go_ret2
   exact ⟨rfl, rfl⟩
  ·have g : reg = 0 ∧ size ≠ 1 ∧ size ≠ 2 ∧ size ≠ 4 := by
    refine Decidable.byContradiction fun g => h ?_
    unfold ck
    rw [if_neg (by omega), if_neg g]
   obtain ⟨rfl, s1, s2, s4⟩ := g
   have e : ck 0 size = 2 := by unfold ck; rw [if_neg (by omega), if_pos ⟨rfl, s1, s2, s4⟩]
   rw [e]
   have q1 : (size != 1) = true := by rw [bne_iff_ne]; exact s1
   have q2 : (size != 2) = true := by rw [bne_iff_ne]; exact s2
   have q4 : (size != 4) = true := by rw [bne_iff_ne]; exact s4
   clear h e a b
   go_enter Tryz.func81, Tryz.ntmps81
   go_wp2
   go_ret2
   exact ⟨rfl, rfl⟩
theorem xin_off (h : XAt w B gD cap dn sv d) (hd : Dn d dn) (k : d.Ok) (ho : d.off = true) (reg size : Int) (r0 : 0 ≤ reg) (r9 : reg < 9) (rs : reg = 0 → size = 1 ∨ size = 2 ∨ size = 4) (h6 : reg ≠ 6) : Calls Tryz.prog 81 #[.pointer (some ⟨B, 0, none⟩), .int .i64 reg, .int .i64 size] w fun e w' => e = .returned (.tuple #[.int .u32 (d.inV reg size.toNat), .int .i64 0]) ∧ XOk w B gD cap sv (d.inn reg size.toNat) w' := by
 have e : d.inV reg size.toNat = 0 := by unfold Id.inV; rw [if_pos ⟨ho, h6⟩]
 have H : Hid (XOk w B gD cap sv (d.inn reg size.toNat) w) := by
  show XOk _ _ _ _ _ _ _
  rw [inn_off ho]
  exact ⟨dn, h, hd, Kp.refl _ _⟩
 rw [e]
 have c6 := h.r6
 have q0 : (d.r6 / 16 % 2 == 1) = true := ho
 have q1 : d.r6 / 16 % 2 = 1 := by simpa using q0
 obtain ⟨b0, b1⟩ := k.r6
 clear h hd k ho e
 generalize d.r6 = r at *
 by_cases z : reg = 0
 ·have := rs z
  subst z
  rcases this with rfl | rfl | rfl
  all_goals
   go_enter Tryz.func81, Tryz.ntmps81
   go_wp2
   go_ret2
   exact ⟨rfl, H.out⟩
 ·clear rs
  rcases (by omega : reg = 1 ∨ reg = 2 ∨ reg = 3 ∨ reg = 4 ∨ reg = 5 ∨ reg = 7 ∨ reg = 8) with rfl | rfl | rfl | rfl | rfl | rfl | rfl
  all_goals
   go_enter Tryz.func81, Tryz.ntmps81
   go_wp2
   go_ret2
   exact ⟨rfl, H.out⟩
theorem xin_reg (h : XAt w B gD cap dn sv d) (hd : Dn d dn) (k : d.Ok) (size : Int) (j : Nat) (j1 : 1 ≤ j) (j6 : j ≤ 6) (ho : d.off = false ∨ j = 6) : Calls Tryz.prog 81 #[.pointer (some ⟨B, 0, none⟩), .int .i64 j, .int .i64 size] w fun e w' => e = .returned (.tuple #[.int .u32 (d.inV j size.toNat), .int .i64 0]) ∧ XOk w B gD cap sv (d.inn j size.toNat) w' := by
 have H : Hid (XOk w B gD cap sv (d.inn j size.toNat) w) := by
  have e : d.inn j size.toNat = d := by
   unfold Id.inn
   split
   ·rfl
   ·rw [if_neg (by omega), if_neg (by omega)]
  show XOk _ _ _ _ _ _ _
  rw [e]
  exact ⟨dn, h, hd, Kp.refl _ _⟩
 have e : d.inV j size.toNat = d.reg j := by
  unfold Id.inV
  rw [if_neg (by
   rintro ⟨a, b⟩
   rcases ho with c | c
   ·rw [a] at c; cases c
   ·exact b (by omega))]
  rcases (by omega : j = 1 ∨ j = 2 ∨ j = 3 ∨ j = 4 ∨ j = 5 ∨ j = 6) with rfl | rfl | rfl | rfl | rfl | rfl <;> rfl
 have cc := h.cr j (by omega)
 have c6 := h.r6
 obtain ⟨b0, b1⟩ := k.r6
 have by0 : 0 ≤ d.reg j ∧ d.reg j < 256 := by
  rcases (by omega : j = 1 ∨ j = 2 ∨ j = 3 ∨ j = 4 ∨ j = 5 ∨ j = 6) with rfl | rfl | rfl | rfl | rfl | rfl
  ·exact k.r1
  ·exact k.r2
  ·exact k.r3
  ·exact k.r4
  ·exact k.r5
  ·exact k.r6
 obtain ⟨y0, y1⟩ := by0
 have hq : ¬ d.r6 / 16 % 2 = 1 ∨ j = 6 := by
  rcases ho with a | a
  ·have : (d.r6 / 16 % 2 == 1) = false := a
   exact .inl (by simpa using this)
  ·exact .inr a
 rw [e]
 clear h hd k e ho
 by_cases z : j = 6
 ·subst z
  have er : d.reg 6 = d.r6 := rfl
  rw [er] at *
  generalize d.r6 = r at *
  clear cc er hq
  cases q : (r / 16 % 2 == 1)
  all_goals
   go_enter Tryz.func81, Tryz.ntmps81
   go_wp2
   go_ret2
   exact ⟨rfl, H.out⟩
 ·have q : ¬ d.r6 / 16 % 2 = 1 := by omega
  generalize d.reg j = y at *
  generalize d.r6 = r at *
  clear hq
  rcases (by omega : j = 1 ∨ j = 2 ∨ j = 3 ∨ j = 4 ∨ j = 5) with rfl | rfl | rfl | rfl | rfl
  all_goals
   simp only [Nat.reduceAdd] at cc
   go_enter Tryz.func81, Tryz.ntmps81
   go_wp2
   go_ret2
   exact ⟨rfl, H.out⟩
set_option maxHeartbeats 2000000 in
theorem xin_7 (h : XAt w B gD cap dn sv d) (hd : Dn d dn) (k : d.Ok) (size : Int) (ho : d.off = false) (reg : Int) (hr : reg = 7 ∨ reg = 8) : Calls Tryz.prog 81 #[.pointer (some ⟨B, 0, none⟩), .int .i64 reg, .int .i64 size] w fun e w' => e = .returned (.tuple #[.int .u32 (d.inV reg size.toNat), .int .i64 0]) ∧ XOk w B gD cap sv (d.inn reg size.toNat) w' := by
 have e : d.inV reg size.toNat = d.status := by
  unfold Id.inV
  rw [if_neg (by rintro ⟨a, _⟩; rw [a] at ho; cases ho)]
  rcases hr with rfl | rfl <;> rfl
 have H7 : Hid (reg = 7 → XOk w B gD cap sv (d.inn reg size.toNat) (w.setCell ⟨B, 523, none⟩ (.bool false))) := by
  intro z
  subst z
  have e : d.inn 7 size.toNat = { d with mark := false } := by
   unfold Id.inn
   rw [if_neg (by rw [ho]; decide), if_neg (by decide), if_pos rfl]
  rw [e]
  exact ⟨dn, (h.raw.setmk false).id _ rfl rfl rfl (fun _ _ => rfl) rfl rfl rfl rfl rfl, hd, kpB B _ _ _⟩
 have H8 : Hid (reg = 8 → XOk w B gD cap sv (d.inn reg size.toNat) w) := by
  intro z
  subst z
  have e : d.inn 8 size.toNat = d := by
   unfold Id.inn
   rw [if_neg (by rw [ho]; decide), if_neg (by decide), if_neg (by decide)]
  rw [e]
  exact ⟨dn, h, hd, Kp.refl _ _⟩
 rw [e]
 have cm := h.cmk
 have zm := h.fz 523
 have cg := h.cmo
 have cf := h.cfl
 have c6 := h.r6
 have hm := k.mode
 obtain ⟨b0, b1⟩ := k.r6
 have q0 : (d.r6 / 16 % 2 == 1) = false := ho
 have q1 : ¬ d.r6 / 16 % 2 = 1 := by simpa using q0
 unfold Id.status
 clear h hd k e ho q0
 generalize d.r6 = r at *
 generalize d.mode = g at *
 generalize d.failed = f at *
 rcases hr with rfl | rfl
 ·have H : Hid _ := H7.out rfl
  clear H7 H8
  rcases hm with rfl | rfl | rfl | rfl <;> cases f
  all_goals
   go_enter Tryz.func81, Tryz.ntmps81
   go_wp2
   go_ret2
   exact ⟨rfl, H.out⟩
 ·have H : Hid _ := H8.out rfl
  clear H7 H8
  rcases hm with rfl | rfl | rfl | rfl <;> cases f
  all_goals
   go_enter Tryz.func81, Tryz.ntmps81
   go_wp2
   go_ret2
   exact ⟨rfl, H.out⟩
end
end Go.Proofs.YtonfjhbfkichkaaGreat.Dk
