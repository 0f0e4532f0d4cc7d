/- The contracts of a chip's functions, on. -/
import Derived.Test.YtfpgijdfbgfkcaaPcLeaf
namespace Go.Proofs.Ytfpgijdfbgfkcaa
open Go.ChangeShapes Go.WideShapes Go.ChangeAt Go.RowKit
set_option linter.unusedVariables false

theorem dat_a (w : World) (B : Nat) (m : M2) (h : PAt w B m) (v : Int) (hv : By v) : Calls Try.prog 25 #[.pointer (some ⟨B, 0, none⟩), .int .u8 v] w fun e w' => e = .returned (.tuple #[]) ∧ PAt w' B (m.set false (m.a.dat v)) ∧ Kp (isB B) w w' := by
  have c5 := h.c5
  have c3 := h.c3
  have c4 := h.c4
  have c7 := h.c7
  have z3 := h.fz 3
  have z4 := h.fz 4
  have z5 := h.fz 5
  have z7 := h.fz 7
  obtain ⟨v0, v1⟩ := hv
  have b2 : (bits .and .u8 v 2 != 0) = bt v 2 := rfl
  have a7 : bits .andNot .u8 v 7 = v - v % 8 := not8_7 v0 v1
  have lb : bits .and .u8 m.a.due (-m.a.due % 256) = lowB m.a.due := rfl
  unfold Ch.dat
  by_cases g0 : lowB m.a.due = 0
  · have hX : m.a.dat1 v = { m.a with msk := v } := by unfold Ch.dat1; rw [if_pos g0]
    rw [hX]
    have r1 : ∀ n, PAt ((w.drewN n).setCell ⟨B, 3, none⟩ (.int .u8 v)) B (m.set false { m.a with msk := v }) := fun n => (h.drewN n).set 3 _ _ rfl
    have c5' : ∀ n, ((w.drewN n).setCell ⟨B, 3, none⟩ (.int .u8 v)).cell? ⟨B, 5, none⟩ = some (.int .u8 m.a.due) := fun n => (r1 n).c5
    go_enter Try.func25, Try.ntmps25
    go_wp2
    go_quiet (fail)
    go_wp2
    go_region
    all_goals
      go_wp2
      go_end0
      exact ⟨rfl, PAt.drew ((r1 _).set 5 _ _ rfl), ((((Kp.refl _ w).drewN _).trans (kpB B _ _ _)).trans (kpB B _ _ _)).drew⟩
  · by_cases g1 : lowB m.a.due = 1
    · have hX : m.a.dat1 v = { m.a with base := v - v % 8 } := by unfold Ch.dat1; rw [if_neg g0, if_pos g1]
      rw [hX]
      have r1 : ∀ n, PAt ((w.drewN n).setCell ⟨B, 4, none⟩ (.int .u8 (v - v % 8))) B (m.set false { m.a with base := v - v % 8 }) := fun n => (h.drewN n).set 4 _ _ rfl
      have c5' : ∀ n, ((w.drewN n).setCell ⟨B, 4, none⟩ (.int .u8 (v - v % 8))).cell? ⟨B, 5, none⟩ = some (.int .u8 m.a.due) := fun n => (r1 n).c5
      go_enter Try.func25, Try.ntmps25
      go_wp2
      go_quiet (fail)
      go_wp2
      go_region
      all_goals
        go_wp2
        go_end0
        exact ⟨rfl, PAt.drew ((r1 _).set 5 _ _ rfl), ((((Kp.refl _ w).drewN _).trans (kpB B _ _ _)).trans (kpB B _ _ _)).drew⟩
    · by_cases g4 : lowB m.a.due = 4
      · have hX : m.a.dat1 v = { m.a with ends := bt v 2 } := by unfold Ch.dat1; rw [if_neg g0, if_neg g1, if_pos g4]
        rw [hX]
        have r1 : ∀ n, PAt ((w.drewN n).setCell ⟨B, 7, none⟩ (.bool (bt v 2))) B (m.set false { m.a with ends := bt v 2 }) := fun n => (h.drewN n).set 7 _ _ rfl
        have c5' : ∀ n, ((w.drewN n).setCell ⟨B, 7, none⟩ (.bool (bt v 2))).cell? ⟨B, 5, none⟩ = some (.int .u8 m.a.due) := fun n => (r1 n).c5
        go_enter Try.func25, Try.ntmps25
        go_wp2
        go_quiet (fail)
        go_wp2
        go_region
        all_goals
          go_wp2
          go_end0
          exact ⟨rfl, PAt.drew ((r1 _).set 5 _ _ rfl), ((((Kp.refl _ w).drewN _).trans (kpB B _ _ _)).trans (kpB B _ _ _)).drew⟩
      · have hX : m.a.dat1 v = m.a := by unfold Ch.dat1; rw [if_neg g0, if_neg g1, if_neg g4]
        rw [hX]
        go_enter Try.func25, Try.ntmps25
        go_wp2
        go_quiet (fail)
        go_wp2
        go_region
        all_goals
          go_wp2
          go_end0
          exact ⟨rfl, (h.drewN _).set 5 _ _ rfl, ((Kp.refl _ w).drewN _).trans (kpB B _ _ _)⟩

theorem dat_b (w : World) (B : Nat) (m : M2) (h : PAt w B m) (v : Int) (hv : By v) : Calls Try.prog 25 #[.pointer (some ⟨B, 8, none⟩), .int .u8 v] w fun e w' => e = .returned (.tuple #[]) ∧ PAt w' B (m.set true (m.b.dat v)) ∧ Kp (isB B) w w' := by
  have c5 := h.c13
  have c3 := h.c11
  have c4 := h.c12
  have c7 := h.c15
  have z3 := h.fz 11
  have z4 := h.fz 12
  have z5 := h.fz 13
  have z7 := h.fz 15
  obtain ⟨v0, v1⟩ := hv
  have b2 : (bits .and .u8 v 2 != 0) = bt v 2 := rfl
  have a7 : bits .andNot .u8 v 7 = v - v % 8 := not8_7 v0 v1
  have lb : bits .and .u8 m.b.due (-m.b.due % 256) = lowB m.b.due := rfl
  unfold Ch.dat
  by_cases g0 : lowB m.b.due = 0
  · have hX : m.b.dat1 v = { m.b with msk := v } := by unfold Ch.dat1; rw [if_pos g0]
    rw [hX]
    have r1 : ∀ n, PAt ((w.drewN n).setCell ⟨B, 11, none⟩ (.int .u8 v)) B (m.set true { m.b with msk := v }) := fun n => (h.drewN n).set 11 _ _ rfl
    have c5' : ∀ n, ((w.drewN n).setCell ⟨B, 11, none⟩ (.int .u8 v)).cell? ⟨B, 13, none⟩ = some (.int .u8 m.b.due) := fun n => (r1 n).c13
    go_enter Try.func25, Try.ntmps25
    go_wp2
    go_quiet (fail)
    go_wp2
    go_region
    all_goals
      go_wp2
      go_end0
      exact ⟨rfl, PAt.drew ((r1 _).set 13 _ _ rfl), ((((Kp.refl _ w).drewN _).trans (kpB B _ _ _)).trans (kpB B _ _ _)).drew⟩
  · by_cases g1 : lowB m.b.due = 1
    · have hX : m.b.dat1 v = { m.b with base := v - v % 8 } := by unfold Ch.dat1; rw [if_neg g0, if_pos g1]
      rw [hX]
      have r1 : ∀ n, PAt ((w.drewN n).setCell ⟨B, 12, none⟩ (.int .u8 (v - v % 8))) B (m.set true { m.b with base := v - v % 8 }) := fun n => (h.drewN n).set 12 _ _ rfl
      have c5' : ∀ n, ((w.drewN n).setCell ⟨B, 12, none⟩ (.int .u8 (v - v % 8))).cell? ⟨B, 13, none⟩ = some (.int .u8 m.b.due) := fun n => (r1 n).c13
      go_enter Try.func25, Try.ntmps25
      go_wp2
      go_quiet (fail)
      go_wp2
      go_region
      all_goals
        go_wp2
        go_end0
        exact ⟨rfl, PAt.drew ((r1 _).set 13 _ _ rfl), ((((Kp.refl _ w).drewN _).trans (kpB B _ _ _)).trans (kpB B _ _ _)).drew⟩
    · by_cases g4 : lowB m.b.due = 4
      · have hX : m.b.dat1 v = { m.b with ends := bt v 2 } := by unfold Ch.dat1; rw [if_neg g0, if_neg g1, if_pos g4]
        rw [hX]
        have r1 : ∀ n, PAt ((w.drewN n).setCell ⟨B, 15, none⟩ (.bool (bt v 2))) B (m.set true { m.b with ends := bt v 2 }) := fun n => (h.drewN n).set 15 _ _ rfl
        have c5' : ∀ n, ((w.drewN n).setCell ⟨B, 15, none⟩ (.bool (bt v 2))).cell? ⟨B, 13, none⟩ = some (.int .u8 m.b.due) := fun n => (r1 n).c13
        go_enter Try.func25, Try.ntmps25
        go_wp2
        go_quiet (fail)
        go_wp2
        go_region
        all_goals
          go_wp2
          go_end0
          exact ⟨rfl, PAt.drew ((r1 _).set 13 _ _ rfl), ((((Kp.refl _ w).drewN _).trans (kpB B _ _ _)).trans (kpB B _ _ _)).drew⟩
      · have hX : m.b.dat1 v = m.b := by unfold Ch.dat1; rw [if_neg g0, if_neg g1, if_neg g4]
        rw [hX]
        go_enter Try.func25, Try.ntmps25
        go_wp2
        go_quiet (fail)
        go_wp2
        go_region
        all_goals
          go_wp2
          go_end0
          exact ⟨rfl, (h.drewN _).set 13 _ _ rfl, ((Kp.refl _ w).drewN _).trans (kpB B _ _ _)⟩

end Go.Proofs.Ytfpgijdfbgfkcaa
