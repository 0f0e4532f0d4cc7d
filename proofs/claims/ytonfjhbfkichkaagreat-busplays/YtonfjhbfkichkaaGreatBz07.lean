/- The bus and its devices: PcCmd, PcDat, PcLine, PcSettle, PcClo. -/
import Derived.Test.YtonfjhbfkichkaaGreatBz06
import Derived.Test.YtonfjhbfkichkaaGreatBz05
import Derived.MapKept
namespace Go.Proofs.YtonfjhbfkichkaaGreat.Pc
open Go.ChangeShapes Go.WideShapes Go.ChangeAt Go.RowKit
set_option linter.unusedVariables false
theorem cmd_a (w : World) (B : Nat) (m : M2) (h : PAt w B m) (v : Int) (hv : By v) : Calls Tryz.prog 106 #[.pointer (some ⟨B, 0, none⟩), .int .u8 v] w fun e w' => e = .returned (.tuple #[]) ∧ PAt w' B (m.set false (m.a.cmd v)) ∧ Kp (isB B) w w' := by
 have c0 := h.c0
 have c2 := h.c2
 have c4 := h.c4
 have c6 := h.c6
 have z2 := h.fz 2
 have z6 := h.fz 6
 obtain ⟨v0, v1⟩ := hv
 have b16 : (bits .and .u8 v 16 != 0) = bt v 16 := rfl
 have b8 : (bits .and .u8 v 8 != 0) = bt v 8 := rfl
 have b2 : (bits .and .u8 v 2 != 0) = bt v 2 := rfl
 have b1 : (bits .and .u8 v 1 != 0) = bt v 1 := rfl
 have a7 : bits .and .u8 v 7 = v % 8 := and8_7 v0 v1
 have p7 : (2 : Int) ^ (v % 8).toNat % 256 = pw (v % 8) := pw_mod (by omega) (by omega)
 cases e16 : bt v 16
 ·rw [e16] at b16
  cases e8 : bt v 8
  ·rw [e8] at b8
   by_cases g1 : v / 32 = 1
   ·have hX : m.a.cmd v = { m.a with srv := bits .and .u8 m.a.srv ((m.a.srv - 1) % 256) } := by simp [Ch.cmd, e16, e8, g1]
    rw [hX]
    go_enter Tryz.func106, Tryz.ntmps106
    go_wp2
    go_region
    all_goals
     go_wp2
     go_end0
     exact ⟨rfl, PAt.drew (h.set 2 _ _ rfl), (kpB B w _ _).drew⟩
   ·by_cases g3 : v / 32 = 3
    ·have hX : m.a.cmd v = { m.a with srv := bits .andNot .u8 m.a.srv (pw (v % 8)) } := by simp [Ch.cmd, e16, e8, g3]
     rw [hX]
     go_enter Tryz.func106, Tryz.ntmps106
     go_wp2
     go_end0
     exact ⟨rfl, h.set 2 _ _ rfl, kpB B w _ _⟩
    ·have hX : m.a.cmd v = m.a := by simp [Ch.cmd, e16, e8, g1, g3]
     rw [hX]
     go_enter Tryz.func106, Tryz.ntmps106
     go_wp2
     go_end0
     exact ⟨rfl, h, Kp.refl _ _⟩
  ·rw [e8] at b8
   cases e2 : bt v 2
   ·rw [e2] at b2
    have hX : m.a.cmd v = m.a := by simp [Ch.cmd, e16, e8, e2]
    rw [hX]
    go_enter Tryz.func106, Tryz.ntmps106
    go_wp2
    go_end0
    exact ⟨rfl, h, Kp.refl _ _⟩
   ·rw [e2] at b2
    have hX : m.a.cmd v = { m.a with sh := bt v 1 } := by simp [Ch.cmd, e16, e8, e2]
    rw [hX]
    go_enter Tryz.func106, Tryz.ntmps106
    go_wp2
    go_end0
    exact ⟨rfl, h.set 6 _ _ rfl, kpB B w _ _⟩
 ·rw [e16] at b16
  have hX : m.a.cmd v = { up := m.a.up, asks := 0, srv := 0, msk := 0, base := m.a.base, due := setUpD v, sh := false, ends := false } := by simp [Ch.cmd, e16]
  rw [hX]
  exact begin_a w B m h v b16
theorem cmd_b (w : World) (B : Nat) (m : M2) (h : PAt w B m) (v : Int) (hv : By v) : Calls Tryz.prog 106 #[.pointer (some ⟨B, 8, none⟩), .int .u8 v] w fun e w' => e = .returned (.tuple #[]) ∧ PAt w' B (m.set true (m.b.cmd v)) ∧ Kp (isB B) w w' := by
 have c0 := h.c8
 have c2 := h.c10
 have c4 := h.c12
 have c6 := h.c14
 have z2 := h.fz 10
 have z6 := h.fz 14
 obtain ⟨v0, v1⟩ := hv
 have b16 : (bits .and .u8 v 16 != 0) = bt v 16 := rfl
 have b8 : (bits .and .u8 v 8 != 0) = bt v 8 := rfl
 have b2 : (bits .and .u8 v 2 != 0) = bt v 2 := rfl
 have b1 : (bits .and .u8 v 1 != 0) = bt v 1 := rfl
 have a7 : bits .and .u8 v 7 = v % 8 := and8_7 v0 v1
 have p7 : (2 : Int) ^ (v % 8).toNat % 256 = pw (v % 8) := pw_mod (by omega) (by omega)
 cases e16 : bt v 16
 ·rw [e16] at b16
  cases e8 : bt v 8
  ·rw [e8] at b8
   by_cases g1 : v / 32 = 1
   ·have hX : m.b.cmd v = { m.b with srv := bits .and .u8 m.b.srv ((m.b.srv - 1) % 256) } := by simp [Ch.cmd, e16, e8, g1]
    rw [hX]
    go_enter Tryz.func106, Tryz.ntmps106
    go_wp2
    go_region
    all_goals
     go_wp2
     go_end0
     exact ⟨rfl, PAt.drew (h.set 10 _ _ rfl), (kpB B w _ _).drew⟩
   ·by_cases g3 : v / 32 = 3
    ·have hX : m.b.cmd v = { m.b with srv := bits .andNot .u8 m.b.srv (pw (v % 8)) } := by simp [Ch.cmd, e16, e8, g3]
     rw [hX]
     go_enter Tryz.func106, Tryz.ntmps106
     go_wp2
     go_end0
     exact ⟨rfl, h.set 10 _ _ rfl, kpB B w _ _⟩
    ·have hX : m.b.cmd v = m.b := by simp [Ch.cmd, e16, e8, g1, g3]
     rw [hX]
     go_enter Tryz.func106, Tryz.ntmps106
     go_wp2
     go_end0
     exact ⟨rfl, h, Kp.refl _ _⟩
  ·rw [e8] at b8
   cases e2 : bt v 2
   ·rw [e2] at b2
    have hX : m.b.cmd v = m.b := by simp [Ch.cmd, e16, e8, e2]
    rw [hX]
    go_enter Tryz.func106, Tryz.ntmps106
    go_wp2
    go_end0
    exact ⟨rfl, h, Kp.refl _ _⟩
   ·rw [e2] at b2
    have hX : m.b.cmd v = { m.b with sh := bt v 1 } := by simp [Ch.cmd, e16, e8, e2]
    rw [hX]
    go_enter Tryz.func106, Tryz.ntmps106
    go_wp2
    go_end0
    exact ⟨rfl, h.set 14 _ _ rfl, kpB B w _ _⟩
 ·rw [e16] at b16
  have hX : m.b.cmd v = { up := m.b.up, asks := 0, srv := 0, msk := 0, base := m.b.base, due := setUpD v, sh := false, ends := false } := by simp [Ch.cmd, e16]
  rw [hX]
  exact begin_b w B m h v b16
theorem dat_a (w : World) (B : Nat) (m : M2) (h : PAt w B m) (v : Int) (hv : By v) : Calls Tryz.prog 107 #[.pointer (some ⟨B, 0, none⟩), .int .u8 v] w fun e w' => e = .returned (.tuple #[]) ∧ PAt w' B (m.set false (m.a.dat v)) ∧ Kp (isB B) w w' := by
 have c5 := h.c5
 have c3 := h.c3
 have c4 := h.c4
 have c7 := h.c7
 have z3 := h.fz 3
 have z4 := h.fz 4
 have z5 := h.fz 5
 have z7 := h.fz 7
 obtain ⟨v0, v1⟩ := hv
 have b2 : (bits .and .u8 v 2 != 0) = bt v 2 := rfl
 have a7 : bits .andNot .u8 v 7 = v - v % 8 := not8_7 v0 v1
 have lb : bits .and .u8 m.a.due (-m.a.due % 256) = lowB m.a.due := rfl
 unfold Ch.dat
 by_cases g0 : lowB m.a.due = 0
 ·have hX : m.a.dat1 v = { m.a with msk := v } := by unfold Ch.dat1; rw [if_pos g0]
  rw [hX]
  have r1 : ∀ n, PAt ((w.drewN n).setCell ⟨B, 3, none⟩ (.int .u8 v)) B (m.set false { m.a with msk := v }) := fun n => (h.drewN n).set 3 _ _ rfl
  have c5' : ∀ n, ((w.drewN n).setCell ⟨B, 3, none⟩ (.int .u8 v)).cell? ⟨B, 5, none⟩ = some (.int .u8 m.a.due) := fun n => (r1 n).c5
  go_enter Tryz.func107, Tryz.ntmps107
  go_wp2
  go_quiet (fail)
  go_wp2
  go_region
  all_goals
   go_wp2
   go_end0
   exact ⟨rfl, PAt.drew ((r1 _).set 5 _ _ rfl), ((((Kp.refl _ w).drewN _).trans (kpB B _ _ _)).trans (kpB B _ _ _)).drew⟩
 ·by_cases g1 : lowB m.a.due = 1
  ·have hX : m.a.dat1 v = { m.a with base := v - v % 8 } := by unfold Ch.dat1; rw [if_neg g0, if_pos g1]
   rw [hX]
   have r1 : ∀ n, PAt ((w.drewN n).setCell ⟨B, 4, none⟩ (.int .u8 (v - v % 8))) B (m.set false { m.a with base := v - v % 8 }) := fun n => (h.drewN n).set 4 _ _ rfl
   have c5' : ∀ n, ((w.drewN n).setCell ⟨B, 4, none⟩ (.int .u8 (v - v % 8))).cell? ⟨B, 5, none⟩ = some (.int .u8 m.a.due) := fun n => (r1 n).c5
   go_enter Tryz.func107, Tryz.ntmps107
   go_wp2
   go_quiet (fail)
   go_wp2
   go_region
   all_goals
    go_wp2
    go_end0
    exact ⟨rfl, PAt.drew ((r1 _).set 5 _ _ rfl), ((((Kp.refl _ w).drewN _).trans (kpB B _ _ _)).trans (kpB B _ _ _)).drew⟩
  ·by_cases g4 : lowB m.a.due = 4
   ·have hX : m.a.dat1 v = { m.a with ends := bt v 2 } := by unfold Ch.dat1; rw [if_neg g0, if_neg g1, if_pos g4]
    rw [hX]
    have r1 : ∀ n, PAt ((w.drewN n).setCell ⟨B, 7, none⟩ (.bool (bt v 2))) B (m.set false { m.a with ends := bt v 2 }) := fun n => (h.drewN n).set 7 _ _ rfl
    have c5' : ∀ n, ((w.drewN n).setCell ⟨B, 7, none⟩ (.bool (bt v 2))).cell? ⟨B, 5, none⟩ = some (.int .u8 m.a.due) := fun n => (r1 n).c5
    go_enter Tryz.func107, Tryz.ntmps107
    go_wp2
    go_quiet (fail)
    go_wp2
    go_region
    all_goals
     go_wp2
     go_end0
     exact ⟨rfl, PAt.drew ((r1 _).set 5 _ _ rfl), ((((Kp.refl _ w).drewN _).trans (kpB B _ _ _)).trans (kpB B _ _ _)).drew⟩
   ·have hX : m.a.dat1 v = m.a := by unfold Ch.dat1; rw [if_neg g0, if_neg g1, if_neg g4]
    rw [hX]
    go_enter Tryz.func107, Tryz.ntmps107
    go_wp2
    go_quiet (fail)
    go_wp2
    go_region
    all_goals
     go_wp2
     go_end0
     exact ⟨rfl, (h.drewN _).set 5 _ _ rfl, ((Kp.refl _ w).drewN _).trans (kpB B _ _ _)⟩
theorem dat_b (w : World) (B : Nat) (m : M2) (h : PAt w B m) (v : Int) (hv : By v) : Calls Tryz.prog 107 #[.pointer (some ⟨B, 8, none⟩), .int .u8 v] w fun e w' => e = .returned (.tuple #[]) ∧ PAt w' B (m.set true (m.b.dat v)) ∧ Kp (isB B) w w' := by
 have c5 := h.c13
 have c3 := h.c11
 have c4 := h.c12
 have c7 := h.c15
 have z3 := h.fz 11
 have z4 := h.fz 12
 have z5 := h.fz 13
 have z7 := h.fz 15
 obtain ⟨v0, v1⟩ := hv
 have b2 : (bits .and .u8 v 2 != 0) = bt v 2 := rfl
 have a7 : bits .andNot .u8 v 7 = v - v % 8 := not8_7 v0 v1
 have lb : bits .and .u8 m.b.due (-m.b.due % 256) = lowB m.b.due := rfl
 unfold Ch.dat
 by_cases g0 : lowB m.b.due = 0
 ·have hX : m.b.dat1 v = { m.b with msk := v } := by unfold Ch.dat1; rw [if_pos g0]
  rw [hX]
  have r1 : ∀ n, PAt ((w.drewN n).setCell ⟨B, 11, none⟩ (.int .u8 v)) B (m.set true { m.b with msk := v }) := fun n => (h.drewN n).set 11 _ _ rfl
  have c5' : ∀ n, ((w.drewN n).setCell ⟨B, 11, none⟩ (.int .u8 v)).cell? ⟨B, 13, none⟩ = some (.int .u8 m.b.due) := fun n => (r1 n).c13
  go_enter Tryz.func107, Tryz.ntmps107
  go_wp2
  go_quiet (fail)
  go_wp2
  go_region
  all_goals
   go_wp2
   go_end0
   exact ⟨rfl, PAt.drew ((r1 _).set 13 _ _ rfl), ((((Kp.refl _ w).drewN _).trans (kpB B _ _ _)).trans (kpB B _ _ _)).drew⟩
 ·by_cases g1 : lowB m.b.due = 1
  ·have hX : m.b.dat1 v = { m.b with base := v - v % 8 } := by unfold Ch.dat1; rw [if_neg g0, if_pos g1]
   rw [hX]
   have r1 : ∀ n, PAt ((w.drewN n).setCell ⟨B, 12, none⟩ (.int .u8 (v - v % 8))) B (m.set true { m.b with base := v - v % 8 }) := fun n => (h.drewN n).set 12 _ _ rfl
   have c5' : ∀ n, ((w.drewN n).setCell ⟨B, 12, none⟩ (.int .u8 (v - v % 8))).cell? ⟨B, 13, none⟩ = some (.int .u8 m.b.due) := fun n => (r1 n).c13
   go_enter Tryz.func107, Tryz.ntmps107
   go_wp2
   go_quiet (fail)
   go_wp2
   go_region
   all_goals
    go_wp2
    go_end0
    exact ⟨rfl, PAt.drew ((r1 _).set 13 _ _ rfl), ((((Kp.refl _ w).drewN _).trans (kpB B _ _ _)).trans (kpB B _ _ _)).drew⟩
  ·by_cases g4 : lowB m.b.due = 4
   ·have hX : m.b.dat1 v = { m.b with ends := bt v 2 } := by unfold Ch.dat1; rw [if_neg g0, if_neg g1, if_pos g4]
    rw [hX]
    have r1 : ∀ n, PAt ((w.drewN n).setCell ⟨B, 15, none⟩ (.bool (bt v 2))) B (m.set true { m.b with ends := bt v 2 }) := fun n => (h.drewN n).set 15 _ _ rfl
    have c5' : ∀ n, ((w.drewN n).setCell ⟨B, 15, none⟩ (.bool (bt v 2))).cell? ⟨B, 13, none⟩ = some (.int .u8 m.b.due) := fun n => (r1 n).c13
    go_enter Tryz.func107, Tryz.ntmps107
    go_wp2
    go_quiet (fail)
    go_wp2
    go_region
    all_goals
     go_wp2
     go_end0
     exact ⟨rfl, PAt.drew ((r1 _).set 13 _ _ rfl), ((((Kp.refl _ w).drewN _).trans (kpB B _ _ _)).trans (kpB B _ _ _)).drew⟩
   ·have hX : m.b.dat1 v = m.b := by unfold Ch.dat1; rw [if_neg g0, if_neg g1, if_neg g4]
    rw [hX]
    go_enter Tryz.func107, Tryz.ntmps107
    go_wp2
    go_quiet (fail)
    go_wp2
    go_region
    all_goals
     go_wp2
     go_end0
     exact ⟨rfl, (h.drewN _).set 13 _ _ rfl, ((Kp.refl _ w).drewN _).trans (kpB B _ _ _)⟩
theorem line_a (w : World) (B : Nat) (m : M2) (h : PAt w B m) (n : Int) (n0 : 0 ≤ n) (n1 : n < 8) (u : Bool) : Calls Tryz.prog 118 #[.pointer (some ⟨B, 0, none⟩), .int .i64 n, .bool u] w fun e w' => e = .returned (.tuple #[]) ∧ PAt w' B (m.set false (m.a.line n u)) ∧ Kp (isB B) w w' := by
 have c0 := h.c0
 have c1 := h.c1
 have z0 := h.fz 0
 have z1 := h.fz 1
 have pn : (2 : Int) ^ n.toNat % 256 = pw n := pw_mod n0 n1
 have bu : (bits .and .u8 m.a.up (pw n) == 0) = !bt m.a.up (pw n) := by unfold bt; simp [bne]
 cases u
 ·have hX : m.a.line n false = { m.a with up := bits .andNot .u8 m.a.up (pw n), asks := bits .andNot .u8 m.a.asks (pw n) } := by simp [Ch.line]
  rw [hX]
  go_enter Tryz.func118, Tryz.ntmps118
  go_wp2
  go_end0
  exact ⟨rfl, (h.set 0 _ (m.set false { m.a with up := bits .andNot .u8 m.a.up (pw n) }) rfl).set 1 _ _ rfl, (kpB B w _ _).trans (kpB B _ _ _)⟩
 ·cases eu : bt m.a.up (pw n)
  ·rw [eu] at bu
   have hX : m.a.line n true = { m.a with up := bits .or .u8 m.a.up (pw n), asks := bits .or .u8 m.a.asks (pw n) } := by simp [Ch.line, eu]
   rw [hX]
   go_enter Tryz.func118, Tryz.ntmps118
   go_wp2
   go_end0
   exact ⟨rfl, (h.set 0 _ (m.set false { m.a with up := bits .or .u8 m.a.up (pw n) }) rfl).set 1 _ _ rfl, (kpB B w _ _).trans (kpB B _ _ _)⟩
  ·rw [eu] at bu
   have hX : m.a.line n true = m.a := by simp [Ch.line, eu]
   rw [hX]
   go_enter Tryz.func118, Tryz.ntmps118
   go_wp2
   go_end0
   exact ⟨rfl, h, Kp.refl _ _⟩
theorem line_b (w : World) (B : Nat) (m : M2) (h : PAt w B m) (n : Int) (n0 : 0 ≤ n) (n1 : n < 8) (u : Bool) : Calls Tryz.prog 118 #[.pointer (some ⟨B, 8, none⟩), .int .i64 n, .bool u] w fun e w' => e = .returned (.tuple #[]) ∧ PAt w' B (m.set true (m.b.line n u)) ∧ Kp (isB B) w w' := by
 have c0 := h.c8
 have c1 := h.c9
 have z0 := h.fz 8
 have z1 := h.fz 9
 have pn : (2 : Int) ^ n.toNat % 256 = pw n := pw_mod n0 n1
 have bu : (bits .and .u8 m.b.up (pw n) == 0) = !bt m.b.up (pw n) := by unfold bt; simp [bne]
 cases u
 ·have hX : m.b.line n false = { m.b with up := bits .andNot .u8 m.b.up (pw n), asks := bits .andNot .u8 m.b.asks (pw n) } := by simp [Ch.line]
  rw [hX]
  go_enter Tryz.func118, Tryz.ntmps118
  go_wp2
  go_end0
  exact ⟨rfl, (h.set 8 _ (m.set true { m.b with up := bits .andNot .u8 m.b.up (pw n) }) rfl).set 9 _ _ rfl, (kpB B w _ _).trans (kpB B _ _ _)⟩
 ·cases eu : bt m.b.up (pw n)
  ·rw [eu] at bu
   have hX : m.b.line n true = { m.b with up := bits .or .u8 m.b.up (pw n), asks := bits .or .u8 m.b.asks (pw n) } := by simp [Ch.line, eu]
   rw [hX]
   go_enter Tryz.func118, Tryz.ntmps118
   go_wp2
   go_end0
   exact ⟨rfl, (h.set 8 _ (m.set true { m.b with up := bits .or .u8 m.b.up (pw n) }) rfl).set 9 _ _ rfl, (kpB B w _ _).trans (kpB B _ _ _)⟩
  ·rw [eu] at bu
   have hX : m.b.line n true = m.b := by simp [Ch.line, eu]
   rw [hX]
   go_enter Tryz.func118, Tryz.ntmps118
   go_wp2
   go_end0
   exact ⟨rfl, h, Kp.refl _ _⟩
theorem ackn_a (w : World) (B : Nat) (m : M2) (h : PAt w B m) (k : m.a.Ok) : Calls Tryz.prog 104 #[.pointer (some ⟨B, 0, none⟩), .int .i64 (-1)] w fun e w' => e = .returned (.int .i64 (m.a.vec (-1))) ∧ PAt w' B (m.set false (m.a.told (-1))) ∧ Kp (isB B) w w' := by
 have c4 := h.c4
 have b7 : bits .or .u8 m.a.base 7 = m.a.base + 7 := or8_7 k.base k.b8
 have hX : m.a.told (-1) = m.a := by simp [Ch.told]
 have hV : m.a.vec (-1) = m.a.base + 7 := by simp [Ch.vec]
 obtain ⟨kb0, kb1⟩ := k.base
 have hw : IntKind.i64.wrap (m.a.base + 7) = m.a.base + 7 := IntWalk.i64_in _ ⟨by omega, by omega⟩
 rw [hX, hV]
 go_enter Tryz.func104, Tryz.ntmps104
 go_wp2
 go_ret
 exact ⟨rfl, h, Kp.refl _ _⟩
theorem ack_a (w : World) (B : Nat) (m : M2) (h : PAt w B m) (k : m.a.Ok) (n : Int) (n0 : 0 ≤ n) (n1 : n < 8) : Calls Tryz.prog 104 #[.pointer (some ⟨B, 0, none⟩), .int .i64 n] w fun e w' => e = .returned (.int .i64 (m.a.vec n)) ∧ PAt w' B (m.set false (m.a.told n)) ∧ Kp (isB B) w w' := by
 have c1 := h.c1
 have c2 := h.c2
 have c4 := h.c4
 have c7 := h.c7
 have z1 := h.fz 1
 have z2 := h.fz 2
 have pn : (2 : Int) ^ n.toNat % 256 = pw n := pw_mod n0 n1
 have bn : bits .or .i64 m.a.base n = m.a.base + n := or64_n k.base k.b8 n0 n1
 obtain ⟨kb0, kb1⟩ := k.base
 have nn : (n == -1) = false := by simp; omega
 have hw : IntKind.i64.wrap m.a.base = m.a.base := IntWalk.i64_in _ ⟨by omega, by omega⟩
 have hV : m.a.vec n = m.a.base + n := by unfold Ch.vec; rw [if_neg (by omega)]
 rw [hV]
 cases e7 : m.a.ends
 ·rw [e7] at c7
  have hX : m.a.told n = { m.a with asks := bits .andNot .u8 m.a.asks (pw n), srv := bits .or .u8 m.a.srv (pw n) } := by unfold Ch.told; rw [if_neg (by omega)]; simp [e7]
  rw [hX]
  have r1 : PAt (w.setCell ⟨B, 1, none⟩ (.int .u8 (bits .andNot .u8 m.a.asks (pw n)))).drew B (m.set false { m.a with asks := bits .andNot .u8 m.a.asks (pw n) }) := PAt.drew (h.set 1 _ _ rfl)
  go_enter Tryz.func104, Tryz.ntmps104
  go_wp2
  go_region
  all_goals go_wp2
  all_goals go_region
  all_goals
   go_wp2
   go_ret
   exact ⟨rfl, PAt.drew (r1.set 2 _ _ rfl), (((kpB B w _ _).drew).trans (kpB B _ _ _)).drew⟩
 ·rw [e7] at c7
  have hX : m.a.told n = { m.a with asks := bits .andNot .u8 m.a.asks (pw n) } := by unfold Ch.told; rw [if_neg (by omega)]; simp [e7]
  rw [hX]
  have r1 : PAt (w.setCell ⟨B, 1, none⟩ (.int .u8 (bits .andNot .u8 m.a.asks (pw n)))).drew B (m.set false { m.a with asks := bits .andNot .u8 m.a.asks (pw n) }) := PAt.drew (h.set 1 _ _ rfl)
  go_enter Tryz.func104, Tryz.ntmps104
  go_wp2
  go_region
  all_goals
   go_wp2
   go_ret
   exact ⟨rfl, r1, (kpB B w _ _).drew⟩
theorem ackn_b (w : World) (B : Nat) (m : M2) (h : PAt w B m) (k : m.b.Ok) : Calls Tryz.prog 104 #[.pointer (some ⟨B, 8, none⟩), .int .i64 (-1)] w fun e w' => e = .returned (.int .i64 (m.b.vec (-1))) ∧ PAt w' B (m.set true (m.b.told (-1))) ∧ Kp (isB B) w w' := by
 have c4 := h.c12
 have b7 : bits .or .u8 m.b.base 7 = m.b.base + 7 := or8_7 k.base k.b8
 have hX : m.b.told (-1) = m.b := by simp [Ch.told]
 have hV : m.b.vec (-1) = m.b.base + 7 := by simp [Ch.vec]
 obtain ⟨kb0, kb1⟩ := k.base
 have hw : IntKind.i64.wrap (m.b.base + 7) = m.b.base + 7 := IntWalk.i64_in _ ⟨by omega, by omega⟩
 rw [hX, hV]
 go_enter Tryz.func104, Tryz.ntmps104
 go_wp2
 go_ret
 exact ⟨rfl, h, Kp.refl _ _⟩
theorem ack_b (w : World) (B : Nat) (m : M2) (h : PAt w B m) (k : m.b.Ok) (n : Int) (n0 : 0 ≤ n) (n1 : n < 8) : Calls Tryz.prog 104 #[.pointer (some ⟨B, 8, none⟩), .int .i64 n] w fun e w' => e = .returned (.int .i64 (m.b.vec n)) ∧ PAt w' B (m.set true (m.b.told n)) ∧ Kp (isB B) w w' := by
 have c1 := h.c9
 have c2 := h.c10
 have c4 := h.c12
 have c7 := h.c15
 have z1 := h.fz 9
 have z2 := h.fz 10
 have pn : (2 : Int) ^ n.toNat % 256 = pw n := pw_mod n0 n1
 have bn : bits .or .i64 m.b.base n = m.b.base + n := or64_n k.base k.b8 n0 n1
 obtain ⟨kb0, kb1⟩ := k.base
 have nn : (n == -1) = false := by simp; omega
 have hw : IntKind.i64.wrap m.b.base = m.b.base := IntWalk.i64_in _ ⟨by omega, by omega⟩
 have hV : m.b.vec n = m.b.base + n := by unfold Ch.vec; rw [if_neg (by omega)]
 rw [hV]
 cases e7 : m.b.ends
 ·rw [e7] at c7
  have hX : m.b.told n = { m.b with asks := bits .andNot .u8 m.b.asks (pw n), srv := bits .or .u8 m.b.srv (pw n) } := by unfold Ch.told; rw [if_neg (by omega)]; simp [e7]
  rw [hX]
  have r1 : PAt (w.setCell ⟨B, 9, none⟩ (.int .u8 (bits .andNot .u8 m.b.asks (pw n)))).drew B (m.set true { m.b with asks := bits .andNot .u8 m.b.asks (pw n) }) := PAt.drew (h.set 9 _ _ rfl)
  go_enter Tryz.func104, Tryz.ntmps104
  go_wp2
  go_region
  all_goals go_wp2
  all_goals go_region
  all_goals
   go_wp2
   go_ret
   exact ⟨rfl, PAt.drew (r1.set 10 _ _ rfl), (((kpB B w _ _).drew).trans (kpB B _ _ _)).drew⟩
 ·rw [e7] at c7
  have hX : m.b.told n = { m.b with asks := bits .andNot .u8 m.b.asks (pw n) } := by unfold Ch.told; rw [if_neg (by omega)]; simp [e7]
  rw [hX]
  have r1 : PAt (w.setCell ⟨B, 9, none⟩ (.int .u8 (bits .andNot .u8 m.b.asks (pw n)))).drew B (m.set true { m.b with asks := bits .andNot .u8 m.b.asks (pw n) }) := PAt.drew (h.set 9 _ _ rfl)
  go_enter Tryz.func104, Tryz.ntmps104
  go_wp2
  go_region
  all_goals
   go_wp2
   go_ret
   exact ⟨rfl, r1, (kpB B w _ _).drew⟩
theorem settle_ok (w : World) (B : Nat) (m : M2) (h : PAt w B m) (k : m.b.Ok) : Calls Tryz.prog 142 #[.pointer (some ⟨B, 0, none⟩)] w fun e w' => e = .returned (.tuple #[]) ∧ PAt w' B m.settle ∧ Kp (isB B) w w' := by
 have c1 := h.c1
 have z1 := h.fz 1
 have r1 : PAt (w.setCell ⟨B, 1, none⟩ (.int .u8 (bits .andNot .u8 m.a.asks 4))).drew B ⟨{ m.a with asks := bits .andNot .u8 m.a.asks 4 }, m.b⟩ := PAt.drew (h.set 1 _ _ rfl)
 have HN : Hid _ := next_b _ B _ r1 k
 have k1 : Kp (isB B) w (w.setCell ⟨B, 1, none⟩ (.int .u8 (bits .andNot .u8 m.a.asks 4))).drew := (kpB B w _ _).drew
 have hs : (⟨{ m.a with asks := bits .andNot .u8 m.a.asks 4 }, m.b⟩ : M2).b = m.b := rfl
 rw [hs] at HN
 by_cases g : m.b.next = -1
 ·have hX : m.settle = ⟨{ m.a with asks := bits .andNot .u8 m.a.asks 4 }, m.b⟩ := by unfold M2.settle; rw [if_pos g]
  rw [hX]
  rw [g] at HN
  go_enter Tryz.func142, Tryz.ntmps142
  go_wp2
  go_region
  all_goals
   go_wp2_with fail
   refine Calls.mono HN.out ?_; rintro e w1 ⟨rfl, k2⟩
   go_wp2
   go_end0
   exact ⟨rfl, r1.kept k2 id, k1.trans k2.any⟩
 ·have hX : m.settle = ⟨{ m.a with asks := bits .or .u8 (bits .andNot .u8 m.a.asks 4) 4 }, m.b⟩ := by unfold M2.settle; rw [if_neg g]
  rw [hX]
  have g' : (m.b.next != -1) = true := by simp [g]
  obtain ⟨N, hN⟩ : ∃ N, N = m.b.next := ⟨_, rfl⟩
  rw [← hN] at HN g'
  clear hN g
  go_enter Tryz.func142, Tryz.ntmps142
  go_wp2
  go_region
  all_goals
   go_wp2_with fail
   refine Calls.mono HN.out ?_; rintro e w1 ⟨rfl, k2⟩
   have r2 := r1.kept k2 id
   have d1 := r2.c1
   have y1 := r2.fz 1
   replace k1 := k1.trans k2.any
   clear c1 z1
   go_wp2
   go_region
   all_goals
    go_wp2
    go_end0
    exact ⟨rfl, PAt.drew (r2.set 1 _ _ rfl), (k1.trans (kpB B _ _ _)).drew⟩
theorem pend_ok (w : World) (B : Nat) (m : M2) (h : PAt w B m) (k : m.a.Ok) : Calls Tryz.prog 41 #[.pointer (some ⟨B, 0, none⟩)] w fun e w' => e = .returned (.bool (m.a.next != -1)) ∧ Kp noB w w' := by
 have HN : Hid _ := next_a _ B _ h k
 go_enter Tryz.func41, Tryz.ntmps41
 go_wp2_with fail
 refine Calls.mono HN.out ?_; rintro e w1 ⟨rfl, k2⟩
 go_wp2
 go_ret
 exact ⟨rfl, k2⟩
def ch0 : Ch := ⟨0, 0, 0, 0, 0, 0, false, false⟩
theorem new_ok (w : World) : Calls Tryz.prog 24 #[] w fun e w' => e = .returned (.pointer (some ⟨w.heap.size, 0, none⟩)) ∧ PAt w' w.heap.size ⟨ch0, ch0⟩ ∧ Kp noB w w' := by
 go_enter Tryz.func24, Tryz.ntmps24
 go_wp2
 go_ret
 exact ⟨rfl, ⟨(MapKept.heap_alloc w _).1⟩, Kp.alloc _ _ _⟩
theorem outc_a (w : World) (B q : Nat) (m : M2) (h : PAt w B m) (v : Int) (hv : By v) (hq : w.cell? ⟨q, 0, none⟩ = some (.int .u8 v)) : Calls Tryz.prog 105 #[.pointer (some ⟨B, 0, none⟩), .int .i64 0, .pointer (some ⟨q, 0, none⟩)] w fun e w' => e = .returned (.tuple #[]) ∧ PAt w' B (m.set false (m.a.cmd v)) ∧ Kp (isB B) w w' := by
 have H : Hid _ := cmd_a w B m h v hv
 go_enter Tryz.func105, Tryz.ntmps105
 go_wp2_with fail
 refine Calls.mono H.out ?_; rintro e w1 ⟨rfl, r1, k1⟩
 go_wp2
 go_end0
 exact ⟨rfl, r1, k1⟩
theorem outd_a (w : World) (B q : Nat) (m : M2) (h : PAt w B m) (v : Int) (hv : By v) (hq : w.cell? ⟨q, 0, none⟩ = some (.int .u8 v)) : Calls Tryz.prog 105 #[.pointer (some ⟨B, 0, none⟩), .int .i64 1, .pointer (some ⟨q, 0, none⟩)] w fun e w' => e = .returned (.tuple #[]) ∧ PAt w' B (m.set false (m.a.dat v)) ∧ Kp (isB B) w w' := by
 have H : Hid _ := dat_a w B m h v hv
 go_enter Tryz.func105, Tryz.ntmps105
 go_wp2_with fail
 refine Calls.mono H.out ?_; rintro e w1 ⟨rfl, r1, k1⟩
 go_wp2
 go_end0
 exact ⟨rfl, r1, k1⟩
theorem inc_a (w : World) (B q : Nat) (m : M2) (h : PAt w B m) (x : Value) (hq : w.cell? ⟨q, 0, none⟩ = some x) (zq : w.frozen? ⟨q, 0, none⟩ = false) : Calls Tryz.prog 108 #[.pointer (some ⟨B, 0, none⟩), .int .i64 0, .pointer (some ⟨q, 0, none⟩)] w fun e w' => e = .returned (.tuple #[]) ∧ w' = w.setCell ⟨q, 0, none⟩ (.int .u8 m.a.shown) := by
 have H : Hid _ := shown_a w B m h
 go_enter Tryz.func108, Tryz.ntmps108
 go_wp2_with fail
 refine Calls.mono H.out ?_; rintro e w1 ⟨rfl, hw⟩; replace hw := hw.symm; subst hw
 go_wp2
 go_end0
 exact ⟨rfl, rfl⟩
theorem ind_a (w : World) (B q : Nat) (m : M2) (h : PAt w B m) (x : Value) (hq : w.cell? ⟨q, 0, none⟩ = some x) (zq : w.frozen? ⟨q, 0, none⟩ = false) : Calls Tryz.prog 108 #[.pointer (some ⟨B, 0, none⟩), .int .i64 1, .pointer (some ⟨q, 0, none⟩)] w fun e w' => e = .returned (.tuple #[]) ∧ w' = w.setCell ⟨q, 0, none⟩ (.int .u8 m.a.msk) := by
 have c3 := h.c3
 go_enter Tryz.func108, Tryz.ntmps108
 go_wp2
 go_end0
 exact ⟨rfl, rfl⟩
theorem linc_a (w : World) (B q r : Nat) (m : M2) (h : PAt w B m) (n x : Int) (u : Bool) (n0 : 0 ≤ n) (n1 : n < 8) (hx : (x != 2) = true) (hq : w.cell? ⟨q, 0, none⟩ = some (.int .i64 x)) (hr : w.cell? ⟨r, 0, none⟩ = some (.bool u)) : Calls Tryz.prog 117 #[.pointer (some ⟨B, 0, none⟩), .int .i64 n, .pointer (some ⟨q, 0, none⟩), .pointer (some ⟨r, 0, none⟩)] w fun e w' => e = .returned (.tuple #[]) ∧ PAt w' B (m.set false (m.a.line n u)) ∧ Kp (isB B) w w' := by
 have H : Hid _ := line_a w B m h n n0 n1 u
 go_enter Tryz.func117, Tryz.ntmps117
 go_wp2_with fail
 refine Calls.mono H.out ?_; rintro e w1 ⟨rfl, r1, k1⟩
 go_wp2
 go_end0
 exact ⟨rfl, r1, k1⟩
theorem outc_b (w : World) (B q : Nat) (m : M2) (h : PAt w B m) (v : Int) (hv : By v) (hq : w.cell? ⟨q, 0, none⟩ = some (.int .u8 v)) : Calls Tryz.prog 105 #[.pointer (some ⟨B, 8, none⟩), .int .i64 0, .pointer (some ⟨q, 0, none⟩)] w fun e w' => e = .returned (.tuple #[]) ∧ PAt w' B (m.set true (m.b.cmd v)) ∧ Kp (isB B) w w' := by
 have H : Hid _ := cmd_b w B m h v hv
 go_enter Tryz.func105, Tryz.ntmps105
 go_wp2_with fail
 refine Calls.mono H.out ?_; rintro e w1 ⟨rfl, r1, k1⟩
 go_wp2
 go_end0
 exact ⟨rfl, r1, k1⟩
theorem outd_b (w : World) (B q : Nat) (m : M2) (h : PAt w B m) (v : Int) (hv : By v) (hq : w.cell? ⟨q, 0, none⟩ = some (.int .u8 v)) : Calls Tryz.prog 105 #[.pointer (some ⟨B, 8, none⟩), .int .i64 1, .pointer (some ⟨q, 0, none⟩)] w fun e w' => e = .returned (.tuple #[]) ∧ PAt w' B (m.set true (m.b.dat v)) ∧ Kp (isB B) w w' := by
 have H : Hid _ := dat_b w B m h v hv
 go_enter Tryz.func105, Tryz.ntmps105
 go_wp2_with fail
 refine Calls.mono H.out ?_; rintro e w1 ⟨rfl, r1, k1⟩
 go_wp2
 go_end0
 exact ⟨rfl, r1, k1⟩
theorem inc_b (w : World) (B q : Nat) (m : M2) (h : PAt w B m) (x : Value) (hq : w.cell? ⟨q, 0, none⟩ = some x) (zq : w.frozen? ⟨q, 0, none⟩ = false) : Calls Tryz.prog 108 #[.pointer (some ⟨B, 8, none⟩), .int .i64 0, .pointer (some ⟨q, 0, none⟩)] w fun e w' => e = .returned (.tuple #[]) ∧ w' = w.setCell ⟨q, 0, none⟩ (.int .u8 m.b.shown) := by
 have H : Hid _ := shown_b w B m h
 go_enter Tryz.func108, Tryz.ntmps108
 go_wp2_with fail
 refine Calls.mono H.out ?_; rintro e w1 ⟨rfl, hw⟩; replace hw := hw.symm; subst hw
 go_wp2
 go_end0
 exact ⟨rfl, rfl⟩
theorem ind_b (w : World) (B q : Nat) (m : M2) (h : PAt w B m) (x : Value) (hq : w.cell? ⟨q, 0, none⟩ = some x) (zq : w.frozen? ⟨q, 0, none⟩ = false) : Calls Tryz.prog 108 #[.pointer (some ⟨B, 8, none⟩), .int .i64 1, .pointer (some ⟨q, 0, none⟩)] w fun e w' => e = .returned (.tuple #[]) ∧ w' = w.setCell ⟨q, 0, none⟩ (.int .u8 m.b.msk) := by
 have c3 := h.c11
 go_enter Tryz.func108, Tryz.ntmps108
 go_wp2
 go_end0
 exact ⟨rfl, rfl⟩
theorem linc_b (w : World) (B q r : Nat) (m : M2) (h : PAt w B m) (n x : Int) (u : Bool) (n0 : 0 ≤ n) (n1 : n < 8) (hx : (x != 2) = true) (hq : w.cell? ⟨q, 0, none⟩ = some (.int .i64 x)) (hr : w.cell? ⟨r, 0, none⟩ = some (.bool u)) : Calls Tryz.prog 117 #[.pointer (some ⟨B, 8, none⟩), .int .i64 n, .pointer (some ⟨q, 0, none⟩), .pointer (some ⟨r, 0, none⟩)] w fun e w' => e = .returned (.tuple #[]) ∧ PAt w' B (m.set true (m.b.line n u)) ∧ Kp (isB B) w w' := by
 have H : Hid _ := line_b w B m h n n0 n1 u
 go_enter Tryz.func117, Tryz.ntmps117
 go_wp2_with fail
 refine Calls.mono H.out ?_; rintro e w1 ⟨rfl, r1, k1⟩
 go_wp2
 go_end0
 exact ⟨rfl, r1, k1⟩
theorem linc_2 (w : World) (B q r : Nat) (hq : w.cell? ⟨q, 0, none⟩ = some (.int .i64 2)) : Calls Tryz.prog 117 #[.pointer (some ⟨B, 0, none⟩), .int .i64 2, .pointer (some ⟨q, 0, none⟩), .pointer (some ⟨r, 0, none⟩)] w fun e w' => e = .returned (.tuple #[]) ∧ w' = w := by
 go_enter Tryz.func117, Tryz.ntmps117
 go_wp2
 go_end0
 exact ⟨rfl, rfl⟩
def M2.acks (m : M2) : M2 := if m.a.next = 2 then ⟨m.a.told 2, m.b.told m.b.next⟩ else ⟨m.a.told m.a.next, m.b⟩
def M2.vec (m : M2) : Int := if m.a.next = 2 then m.b.vec m.b.next else m.a.vec m.a.next
theorem ackAny_a (w : World) (B : Nat) (m : M2) (h : PAt w B m) (k : m.a.Ok) (n : Int) (n0 : -1 ≤ n) (n1 : n < 8) : Calls Tryz.prog 104 #[.pointer (some ⟨B, 0, none⟩), .int .i64 n] w fun e w' => e = .returned (.int .i64 (m.a.vec n)) ∧ PAt w' B (m.set false (m.a.told n)) ∧ Kp (isB B) w w' := by
 by_cases g : n = -1
 ·subst g; exact ackn_a w B m h k
 ·exact ack_a w B m h k n (by omega) n1
theorem ackAny_b (w : World) (B : Nat) (m : M2) (h : PAt w B m) (k : m.b.Ok) (n : Int) (n0 : -1 ≤ n) (n1 : n < 8) : Calls Tryz.prog 104 #[.pointer (some ⟨B, 8, none⟩), .int .i64 n] w fun e w' => e = .returned (.int .i64 (m.b.vec n)) ∧ PAt w' B (m.set true (m.b.told n)) ∧ Kp (isB B) w w' := by
 by_cases g : n = -1
 ·subst g; exact ackn_b w B m h k
 ·exact ack_b w B m h k n (by omega) n1
def isBq (B q k : Nat) : Prop := k = B ∨ k = q
theorem cell_kept {S : Nat → Prop} {w w' : World} {b o : Nat} {v : Value} (h : w.cell? ⟨b, o, none⟩ = some v) (k : Kp S w w') (hS : ¬ S b) : w'.cell? ⟨b, o, none⟩ = some v := by
 have hb : b < w.heap.size := by
  by_cases e : b < w.heap.size
  ·exact e
  ·have : w.heap[b]? = none := Array.getElem?_eq_none (by omega)
   simp [World.cell?, this] at h
 rw [World.cell?_of_block (w := w) (k.block b hb hS)]; exact h
theorem cell_self {w : World} {b o : Nat} {v x : Value} (h : w.cell? ⟨b, o, none⟩ = some x) : (w.setCell ⟨b, o, none⟩ v).cell? ⟨b, o, none⟩ = some v := by simp [go_sem, h]
theorem frozen_kept {S : Nat → Prop} {w w' : World} {b o : Nat} (h : w.frozen? ⟨b, o, none⟩ = false) (hb : b < w.heap.size) (k : Kp S w w') (hS : ¬ S b) : w'.frozen? ⟨b, o, none⟩ = false := by
 have e := k.block b hb hS
 unfold World.frozen? at h ⊢
 rw [e]; exact h
theorem ackc_ok (w : World) (B q r : Nat) (m : M2) (h : PAt w B m) (k : m.Ok) (x : Value) (hq : w.cell? ⟨q, 0, none⟩ = some x) (zq : w.frozen? ⟨q, 0, none⟩ = false) (hr : w.cell? ⟨r, 0, none⟩ = some (.pointer (some ⟨B, 0, none⟩))) (qB : ¬ q = B) (rB : ¬ r = B) (rq : ¬ r = q) (lq : q < w.heap.size) : Calls Tryz.prog 103 #[.pointer (some ⟨B, 0, none⟩), .int .i64 0, .pointer (some ⟨q, 0, none⟩), .pointer (some ⟨r, 0, none⟩)] w fun e w' => e = .returned (.tuple #[]) ∧ PAt w' B m.acks ∧ w'.cell? ⟨q, 0, none⟩ = some (.int .i64 m.vec) ∧ Kp (isBq B q) w w' := by
 have bn := next_bd k.a
 have bm := next_bd k.b
 have HN : Hid _ := next_a w B m h k.a
 have HA : Hid (∀ w, PAt w B m → _) := fun w h => ackAny_a w B m h k.a m.a.next bn.1 bn.2
 by_cases g : m.a.next = 2
 ·have hX : m.acks = ⟨m.a.told 2, m.b.told m.b.next⟩ := by unfold M2.acks; rw [if_pos g]
  have hV : m.vec = m.b.vec m.b.next := by unfold M2.vec; rw [if_pos g]
  rw [hX, hV]
  rw [g] at HN HA
  have HN2 : Hid (∀ w, PAt w B (m.set false (m.a.told 2)) → _) := fun w h => next_b w B _ h k.b
  have HA2 : Hid (∀ w, PAt w B (m.set false (m.a.told 2)) → _) := fun w h => ackAny_b w B _ h k.b m.b.next bm.1 bm.2
  go_enter Tryz.func103, Tryz.ntmps103
  go_wp2_with fail
  refine Calls.mono HN.out ?_; rintro e w1 ⟨rfl, k1⟩
  have h1 := h.kept k1 id
  have hq1 := cell_kept hq k1 id
  have zq1 := frozen_kept zq lq k1 id
  have hr1 := cell_kept hr k1 id
  have lq1 : q < w1.heap.size := Nat.lt_of_lt_of_le lq k1.size
  clear hq zq hr
  go_wp2_with fail
  refine Calls.mono (HA.out w1 h1) ?_; rintro e w2 ⟨rfl, h2, k2⟩
  have hq2 := cell_kept hq1 k2 qB
  have zq2 := frozen_kept zq1 lq1 k2 qB
  have hr2 := cell_kept hr1 k2 rB
  have lq2 : q < w2.heap.size := Nat.lt_of_lt_of_le lq1 k2.size
  clear hq1 zq1 hr1
  have k3 : Kp (isB q) w2 (w2.setCell ⟨q, 0, none⟩ (.int .i64 (m.a.vec 2))) := Kp.setCell (S := isB q) w2 (p := ⟨q, 0, none⟩) rfl _
  have h3 := h2.kept k3 (fun e => qB e.symm)
  have hr3 := cell_kept hr2 k3 rq
  have zq3 : (w2.setCell ⟨q, 0, none⟩ (.int .i64 (m.a.vec 2))).frozen? ⟨q, 0, none⟩ = false := by simpa [go_sem] using zq2
  have hq3 : (w2.setCell ⟨q, 0, none⟩ (.int .i64 (m.a.vec 2))).cell? ⟨q, 0, none⟩ = some (.int .i64 (m.a.vec 2)) := by simp [go_sem, hq2]
  have lq3 : q < (w2.setCell ⟨q, 0, none⟩ (.int .i64 (m.a.vec 2))).heap.size := Nat.lt_of_lt_of_le lq2 k3.size
  go_wp2_with fail
  clear hq2 zq2 hr2
  refine Calls.mono (HN2.out _ h3) ?_; rintro e w4 ⟨rfl, k4⟩
  have h4 := h3.kept k4 id
  have hq4 := cell_kept hq3 k4 id
  have zq4 := frozen_kept zq3 lq3 k4 id
  have lq4 : q < w4.heap.size := Nat.lt_of_lt_of_le lq3 k4.size
  clear hq3 zq3 hr3
  go_wp2_with fail
  refine Calls.mono (HA2.out w4 h4) ?_; rintro e w5 ⟨rfl, h5, k5⟩
  have hq5 := cell_kept hq4 k5 qB
  have zq5 := frozen_kept zq4 lq4 k5 qB
  clear hq4 zq4
  have k6 : Kp (isB q) w5 (w5.setCell ⟨q, 0, none⟩ (.int .i64 (m.b.vec m.b.next))) := Kp.setCell (S := isB q) w5 (p := ⟨q, 0, none⟩) rfl _
  have h6 := h5.kept k6 (fun e => qB e.symm)
  go_wp2
  go_end0
  refine ⟨rfl, h6, cell_self hq5, ?_⟩
  exact (((((k1.any (S := isBq B q)).over k2 (fun _ _ e => .inl e)).over k3 (fun _ _ e => .inr e)).over k4 (fun _ _ e => e.elim)).over k5 (fun _ _ e => .inl e)).over k6 (fun _ _ e => .inr e)
 ·have hX : m.acks = ⟨m.a.told m.a.next, m.b⟩ := by unfold M2.acks; rw [if_neg g]
  have hV : m.vec = m.a.vec m.a.next := by unfold M2.vec; rw [if_neg g]
  rw [hX, hV]
  have g' : (m.a.next == 2) = false := by simp [g]
  obtain ⟨N, hN⟩ : ∃ N, N = m.a.next := ⟨_, rfl⟩
  rw [← hN] at HN HA g' ⊢
  clear g hN hX hV bn
  go_enter Tryz.func103, Tryz.ntmps103
  go_wp2_with fail
  refine Calls.mono HN.out ?_; rintro e w1 ⟨rfl, k1⟩
  have h1 := h.kept k1 id
  have hq1 := cell_kept hq k1 id
  have zq1 := frozen_kept zq lq k1 id
  have lq1 : q < w1.heap.size := Nat.lt_of_lt_of_le lq k1.size
  clear hq zq hr
  go_wp2_with fail
  refine Calls.mono (HA.out w1 h1) ?_; rintro e w2 ⟨rfl, h2, k2⟩
  have hq2 := cell_kept hq1 k2 qB
  have zq2 := frozen_kept zq1 lq1 k2 qB
  clear hq1 zq1
  have k3 : Kp (isB q) w2 (w2.setCell ⟨q, 0, none⟩ (.int .i64 (m.a.vec N))) := Kp.setCell (S := isB q) w2 (p := ⟨q, 0, none⟩) rfl _
  have h3 := h2.kept k3 (fun e => qB e.symm)
  go_wp2
  go_end0
  refine ⟨rfl, h3, cell_self hq2, ?_⟩
  exact ((k1.any (S := isBq B q)).over k2 (fun _ _ e => .inl e)).over k3 (fun _ _ e => .inr e)
end Go.Proofs.YtonfjhbfkichkaaGreat.Pc
