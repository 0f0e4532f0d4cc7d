/- The contracts of a chip's functions, on. -/
import Derived.Test.YtfpgijdfbgfkcaaPcBeg
namespace Go.Proofs.Ytfpgijdfbgfkcaa
open Go.ChangeShapes Go.WideShapes Go.ChangeAt Go.RowKit
set_option linter.unusedVariables false

theorem cmd_a (w : World) (B : Nat) (m : M2) (h : PAt w B m) (v : Int) (hv : By v) : Calls Try.prog 24 #[.pointer (some ⟨B, 0, none⟩), .int .u8 v] w fun e w' => e = .returned (.tuple #[]) ∧ PAt w' B (m.set false (m.a.cmd v)) ∧ Kp (isB B) w w' := by
  have c0 := h.c0
  have c2 := h.c2
  have c4 := h.c4
  have c6 := h.c6
  have z2 := h.fz 2
  have z6 := h.fz 6
  obtain ⟨v0, v1⟩ := hv
  have b16 : (bits .and .u8 v 16 != 0) = bt v 16 := rfl
  have b8 : (bits .and .u8 v 8 != 0) = bt v 8 := rfl
  have b2 : (bits .and .u8 v 2 != 0) = bt v 2 := rfl
  have b1 : (bits .and .u8 v 1 != 0) = bt v 1 := rfl
  have a7 : bits .and .u8 v 7 = v % 8 := and8_7 v0 v1
  have p7 : (2 : Int) ^ (v % 8).toNat % 256 = pw (v % 8) := pw_mod (by omega) (by omega)
  cases e16 : bt v 16
  · rw [e16] at b16
    cases e8 : bt v 8
    · rw [e8] at b8
      by_cases g1 : v / 32 = 1
      · have hX : m.a.cmd v = { m.a with srv := bits .and .u8 m.a.srv ((m.a.srv - 1) % 256) } := by simp [Ch.cmd, e16, e8, g1]
        rw [hX]
        go_enter Try.func24, Try.ntmps24
        go_wp2
        go_region
        all_goals
          go_wp2
          go_end0
          exact ⟨rfl, PAt.drew (h.set 2 _ _ rfl), (kpB B w _ _).drew⟩
      · by_cases g3 : v / 32 = 3
        · have hX : m.a.cmd v = { m.a with srv := bits .andNot .u8 m.a.srv (pw (v % 8)) } := by simp [Ch.cmd, e16, e8, g3]
          rw [hX]
          go_enter Try.func24, Try.ntmps24
          go_wp2
          go_end0
          exact ⟨rfl, h.set 2 _ _ rfl, kpB B w _ _⟩
        · have hX : m.a.cmd v = m.a := by simp [Ch.cmd, e16, e8, g1, g3]
          rw [hX]
          go_enter Try.func24, Try.ntmps24
          go_wp2
          go_end0
          exact ⟨rfl, h, Kp.refl _ _⟩
    · rw [e8] at b8
      cases e2 : bt v 2
      · rw [e2] at b2
        have hX : m.a.cmd v = m.a := by simp [Ch.cmd, e16, e8, e2]
        rw [hX]
        go_enter Try.func24, Try.ntmps24
        go_wp2
        go_end0
        exact ⟨rfl, h, Kp.refl _ _⟩
      · rw [e2] at b2
        have hX : m.a.cmd v = { m.a with sh := bt v 1 } := by simp [Ch.cmd, e16, e8, e2]
        rw [hX]
        go_enter Try.func24, Try.ntmps24
        go_wp2
        go_end0
        exact ⟨rfl, h.set 6 _ _ rfl, kpB B w _ _⟩
  · rw [e16] at b16
    have hX : m.a.cmd v = { up := m.a.up, asks := 0, srv := 0, msk := 0, base := m.a.base, due := setUpD v, sh := false, ends := false } := by simp [Ch.cmd, e16]
    rw [hX]
    exact begin_a w B m h v b16

theorem cmd_b (w : World) (B : Nat) (m : M2) (h : PAt w B m) (v : Int) (hv : By v) : Calls Try.prog 24 #[.pointer (some ⟨B, 8, none⟩), .int .u8 v] w fun e w' => e = .returned (.tuple #[]) ∧ PAt w' B (m.set true (m.b.cmd v)) ∧ Kp (isB B) w w' := by
  have c0 := h.c8
  have c2 := h.c10
  have c4 := h.c12
  have c6 := h.c14
  have z2 := h.fz 10
  have z6 := h.fz 14
  obtain ⟨v0, v1⟩ := hv
  have b16 : (bits .and .u8 v 16 != 0) = bt v 16 := rfl
  have b8 : (bits .and .u8 v 8 != 0) = bt v 8 := rfl
  have b2 : (bits .and .u8 v 2 != 0) = bt v 2 := rfl
  have b1 : (bits .and .u8 v 1 != 0) = bt v 1 := rfl
  have a7 : bits .and .u8 v 7 = v % 8 := and8_7 v0 v1
  have p7 : (2 : Int) ^ (v % 8).toNat % 256 = pw (v % 8) := pw_mod (by omega) (by omega)
  cases e16 : bt v 16
  · rw [e16] at b16
    cases e8 : bt v 8
    · rw [e8] at b8
      by_cases g1 : v / 32 = 1
      · have hX : m.b.cmd v = { m.b with srv := bits .and .u8 m.b.srv ((m.b.srv - 1) % 256) } := by simp [Ch.cmd, e16, e8, g1]
        rw [hX]
        go_enter Try.func24, Try.ntmps24
        go_wp2
        go_region
        all_goals
          go_wp2
          go_end0
          exact ⟨rfl, PAt.drew (h.set 10 _ _ rfl), (kpB B w _ _).drew⟩
      · by_cases g3 : v / 32 = 3
        · have hX : m.b.cmd v = { m.b with srv := bits .andNot .u8 m.b.srv (pw (v % 8)) } := by simp [Ch.cmd, e16, e8, g3]
          rw [hX]
          go_enter Try.func24, Try.ntmps24
          go_wp2
          go_end0
          exact ⟨rfl, h.set 10 _ _ rfl, kpB B w _ _⟩
        · have hX : m.b.cmd v = m.b := by simp [Ch.cmd, e16, e8, g1, g3]
          rw [hX]
          go_enter Try.func24, Try.ntmps24
          go_wp2
          go_end0
          exact ⟨rfl, h, Kp.refl _ _⟩
    · rw [e8] at b8
      cases e2 : bt v 2
      · rw [e2] at b2
        have hX : m.b.cmd v = m.b := by simp [Ch.cmd, e16, e8, e2]
        rw [hX]
        go_enter Try.func24, Try.ntmps24
        go_wp2
        go_end0
        exact ⟨rfl, h, Kp.refl _ _⟩
      · rw [e2] at b2
        have hX : m.b.cmd v = { m.b with sh := bt v 1 } := by simp [Ch.cmd, e16, e8, e2]
        rw [hX]
        go_enter Try.func24, Try.ntmps24
        go_wp2
        go_end0
        exact ⟨rfl, h.set 14 _ _ rfl, kpB B w _ _⟩
  · rw [e16] at b16
    have hX : m.b.cmd v = { up := m.b.up, asks := 0, srv := 0, msk := 0, base := m.b.base, due := setUpD v, sh := false, ends := false } := by simp [Ch.cmd, e16]
    rw [hX]
    exact begin_b w B m h v b16

end Go.Proofs.Ytfpgijdfbgfkcaa
