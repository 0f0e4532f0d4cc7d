/- The contracts of a chip's functions, on. -/
import Derived.Test.YtfpgijdfbgfkcaaPcLeaf
namespace Go.Proofs.Ytfpgijdfbgfkcaa
open Go.ChangeShapes Go.WideShapes Go.ChangeAt Go.RowKit
set_option linter.unusedVariables false

theorem line_a (w : World) (B : Nat) (m : M2) (h : PAt w B m) (n : Int) (n0 : 0 ≤ n) (n1 : n < 8) (u : Bool) : Calls Try.prog 33 #[.pointer (some ⟨B, 0, none⟩), .int .i64 n, .bool u] w fun e w' => e = .returned (.tuple #[]) ∧ PAt w' B (m.set false (m.a.line n u)) ∧ Kp (isB B) w w' := by
  have c0 := h.c0
  have c1 := h.c1
  have z0 := h.fz 0
  have z1 := h.fz 1
  have pn : (2 : Int) ^ n.toNat % 256 = pw n := pw_mod n0 n1
  have bu : (bits .and .u8 m.a.up (pw n) == 0) = !bt m.a.up (pw n) := by unfold bt; simp [bne]
  cases u
  · have hX : m.a.line n false = { m.a with up := bits .andNot .u8 m.a.up (pw n), asks := bits .andNot .u8 m.a.asks (pw n) } := by simp [Ch.line]
    rw [hX]
    go_enter Try.func33, Try.ntmps33
    go_wp2
    go_end0
    exact ⟨rfl, (h.set 0 _ (m.set false { m.a with up := bits .andNot .u8 m.a.up (pw n) }) rfl).set 1 _ _ rfl, (kpB B w _ _).trans (kpB B _ _ _)⟩
  · cases eu : bt m.a.up (pw n)
    · rw [eu] at bu
      have hX : m.a.line n true = { m.a with up := bits .or .u8 m.a.up (pw n), asks := bits .or .u8 m.a.asks (pw n) } := by simp [Ch.line, eu]
      rw [hX]
      go_enter Try.func33, Try.ntmps33
      go_wp2
      go_end0
      exact ⟨rfl, (h.set 0 _ (m.set false { m.a with up := bits .or .u8 m.a.up (pw n) }) rfl).set 1 _ _ rfl, (kpB B w _ _).trans (kpB B _ _ _)⟩
    · rw [eu] at bu
      have hX : m.a.line n true = m.a := by simp [Ch.line, eu]
      rw [hX]
      go_enter Try.func33, Try.ntmps33
      go_wp2
      go_end0
      exact ⟨rfl, h, Kp.refl _ _⟩

theorem line_b (w : World) (B : Nat) (m : M2) (h : PAt w B m) (n : Int) (n0 : 0 ≤ n) (n1 : n < 8) (u : Bool) : Calls Try.prog 33 #[.pointer (some ⟨B, 8, none⟩), .int .i64 n, .bool u] w fun e w' => e = .returned (.tuple #[]) ∧ PAt w' B (m.set true (m.b.line n u)) ∧ Kp (isB B) w w' := by
  have c0 := h.c8
  have c1 := h.c9
  have z0 := h.fz 8
  have z1 := h.fz 9
  have pn : (2 : Int) ^ n.toNat % 256 = pw n := pw_mod n0 n1
  have bu : (bits .and .u8 m.b.up (pw n) == 0) = !bt m.b.up (pw n) := by unfold bt; simp [bne]
  cases u
  · have hX : m.b.line n false = { m.b with up := bits .andNot .u8 m.b.up (pw n), asks := bits .andNot .u8 m.b.asks (pw n) } := by simp [Ch.line]
    rw [hX]
    go_enter Try.func33, Try.ntmps33
    go_wp2
    go_end0
    exact ⟨rfl, (h.set 8 _ (m.set true { m.b with up := bits .andNot .u8 m.b.up (pw n) }) rfl).set 9 _ _ rfl, (kpB B w _ _).trans (kpB B _ _ _)⟩
  · cases eu : bt m.b.up (pw n)
    · rw [eu] at bu
      have hX : m.b.line n true = { m.b with up := bits .or .u8 m.b.up (pw n), asks := bits .or .u8 m.b.asks (pw n) } := by simp [Ch.line, eu]
      rw [hX]
      go_enter Try.func33, Try.ntmps33
      go_wp2
      go_end0
      exact ⟨rfl, (h.set 8 _ (m.set true { m.b with up := bits .or .u8 m.b.up (pw n) }) rfl).set 9 _ _ rfl, (kpB B w _ _).trans (kpB B _ _ _)⟩
    · rw [eu] at bu
      have hX : m.b.line n true = m.b := by simp [Ch.line, eu]
      rw [hX]
      go_enter Try.func33, Try.ntmps33
      go_wp2
      go_end0
      exact ⟨rfl, h, Kp.refl _ _⟩

theorem ackn_a (w : World) (B : Nat) (m : M2) (h : PAt w B m) (k : m.a.Ok) : Calls Try.prog 36 #[.pointer (some ⟨B, 0, none⟩), .int .i64 (-1)] w fun e w' => e = .returned (.int .i64 (m.a.vec (-1))) ∧ PAt w' B (m.set false (m.a.told (-1))) ∧ Kp (isB B) w w' := by
  have c4 := h.c4
  have b7 : bits .or .u8 m.a.base 7 = m.a.base + 7 := or8_7 k.base k.b8
  have hX : m.a.told (-1) = m.a := by simp [Ch.told]
  have hV : m.a.vec (-1) = m.a.base + 7 := by simp [Ch.vec]
  obtain ⟨kb0, kb1⟩ := k.base
  have hw : IntKind.i64.wrap (m.a.base + 7) = m.a.base + 7 := IntWalk.i64_in _ ⟨by omega, by omega⟩
  rw [hX, hV]
  go_enter Try.func36, Try.ntmps36
  go_wp2
  go_ret
  exact ⟨rfl, h, Kp.refl _ _⟩

theorem ack_a (w : World) (B : Nat) (m : M2) (h : PAt w B m) (k : m.a.Ok) (n : Int) (n0 : 0 ≤ n) (n1 : n < 8) : Calls Try.prog 36 #[.pointer (some ⟨B, 0, none⟩), .int .i64 n] w fun e w' => e = .returned (.int .i64 (m.a.vec n)) ∧ PAt w' B (m.set false (m.a.told n)) ∧ Kp (isB B) w w' := by
  have c1 := h.c1
  have c2 := h.c2
  have c4 := h.c4
  have c7 := h.c7
  have z1 := h.fz 1
  have z2 := h.fz 2
  have pn : (2 : Int) ^ n.toNat % 256 = pw n := pw_mod n0 n1
  have bn : bits .or .i64 m.a.base n = m.a.base + n := or64_n k.base k.b8 n0 n1
  obtain ⟨kb0, kb1⟩ := k.base
  have nn : (n == -1) = false := by simp; omega
  have hw : IntKind.i64.wrap m.a.base = m.a.base := IntWalk.i64_in _ ⟨by omega, by omega⟩
  have hV : m.a.vec n = m.a.base + n := by unfold Ch.vec; rw [if_neg (by omega)]
  rw [hV]
  cases e7 : m.a.ends
  · rw [e7] at c7
    have hX : m.a.told n = { m.a with asks := bits .andNot .u8 m.a.asks (pw n), srv := bits .or .u8 m.a.srv (pw n) } := by unfold Ch.told; rw [if_neg (by omega)]; simp [e7]
    rw [hX]
    have r1 : PAt (w.setCell ⟨B, 1, none⟩ (.int .u8 (bits .andNot .u8 m.a.asks (pw n)))).drew B (m.set false { m.a with asks := bits .andNot .u8 m.a.asks (pw n) }) := PAt.drew (h.set 1 _ _ rfl)
    go_enter Try.func36, Try.ntmps36
    go_wp2
    go_region
    all_goals go_wp2
    all_goals go_region
    all_goals
      go_wp2
      go_ret
      exact ⟨rfl, PAt.drew (r1.set 2 _ _ rfl), (((kpB B w _ _).drew).trans (kpB B _ _ _)).drew⟩
  · rw [e7] at c7
    have hX : m.a.told n = { m.a with asks := bits .andNot .u8 m.a.asks (pw n) } := by unfold Ch.told; rw [if_neg (by omega)]; simp [e7]
    rw [hX]
    have r1 : PAt (w.setCell ⟨B, 1, none⟩ (.int .u8 (bits .andNot .u8 m.a.asks (pw n)))).drew B (m.set false { m.a with asks := bits .andNot .u8 m.a.asks (pw n) }) := PAt.drew (h.set 1 _ _ rfl)
    go_enter Try.func36, Try.ntmps36
    go_wp2
    go_region
    all_goals
      go_wp2
      go_ret
      exact ⟨rfl, r1, (kpB B w _ _).drew⟩

theorem ackn_b (w : World) (B : Nat) (m : M2) (h : PAt w B m) (k : m.b.Ok) : Calls Try.prog 36 #[.pointer (some ⟨B, 8, none⟩), .int .i64 (-1)] w fun e w' => e = .returned (.int .i64 (m.b.vec (-1))) ∧ PAt w' B (m.set true (m.b.told (-1))) ∧ Kp (isB B) w w' := by
  have c4 := h.c12
  have b7 : bits .or .u8 m.b.base 7 = m.b.base + 7 := or8_7 k.base k.b8
  have hX : m.b.told (-1) = m.b := by simp [Ch.told]
  have hV : m.b.vec (-1) = m.b.base + 7 := by simp [Ch.vec]
  obtain ⟨kb0, kb1⟩ := k.base
  have hw : IntKind.i64.wrap (m.b.base + 7) = m.b.base + 7 := IntWalk.i64_in _ ⟨by omega, by omega⟩
  rw [hX, hV]
  go_enter Try.func36, Try.ntmps36
  go_wp2
  go_ret
  exact ⟨rfl, h, Kp.refl _ _⟩

theorem ack_b (w : World) (B : Nat) (m : M2) (h : PAt w B m) (k : m.b.Ok) (n : Int) (n0 : 0 ≤ n) (n1 : n < 8) : Calls Try.prog 36 #[.pointer (some ⟨B, 8, none⟩), .int .i64 n] w fun e w' => e = .returned (.int .i64 (m.b.vec n)) ∧ PAt w' B (m.set true (m.b.told n)) ∧ Kp (isB B) w w' := by
  have c1 := h.c9
  have c2 := h.c10
  have c4 := h.c12
  have c7 := h.c15
  have z1 := h.fz 9
  have z2 := h.fz 10
  have pn : (2 : Int) ^ n.toNat % 256 = pw n := pw_mod n0 n1
  have bn : bits .or .i64 m.b.base n = m.b.base + n := or64_n k.base k.b8 n0 n1
  obtain ⟨kb0, kb1⟩ := k.base
  have nn : (n == -1) = false := by simp; omega
  have hw : IntKind.i64.wrap m.b.base = m.b.base := IntWalk.i64_in _ ⟨by omega, by omega⟩
  have hV : m.b.vec n = m.b.base + n := by unfold Ch.vec; rw [if_neg (by omega)]
  rw [hV]
  cases e7 : m.b.ends
  · rw [e7] at c7
    have hX : m.b.told n = { m.b with asks := bits .andNot .u8 m.b.asks (pw n), srv := bits .or .u8 m.b.srv (pw n) } := by unfold Ch.told; rw [if_neg (by omega)]; simp [e7]
    rw [hX]
    have r1 : PAt (w.setCell ⟨B, 9, none⟩ (.int .u8 (bits .andNot .u8 m.b.asks (pw n)))).drew B (m.set true { m.b with asks := bits .andNot .u8 m.b.asks (pw n) }) := PAt.drew (h.set 9 _ _ rfl)
    go_enter Try.func36, Try.ntmps36
    go_wp2
    go_region
    all_goals go_wp2
    all_goals go_region
    all_goals
      go_wp2
      go_ret
      exact ⟨rfl, PAt.drew (r1.set 10 _ _ rfl), (((kpB B w _ _).drew).trans (kpB B _ _ _)).drew⟩
  · rw [e7] at c7
    have hX : m.b.told n = { m.b with asks := bits .andNot .u8 m.b.asks (pw n) } := by unfold Ch.told; rw [if_neg (by omega)]; simp [e7]
    rw [hX]
    have r1 : PAt (w.setCell ⟨B, 9, none⟩ (.int .u8 (bits .andNot .u8 m.b.asks (pw n)))).drew B (m.set true { m.b with asks := bits .andNot .u8 m.b.asks (pw n) }) := PAt.drew (h.set 9 _ _ rfl)
    go_enter Try.func36, Try.ntmps36
    go_wp2
    go_region
    all_goals
      go_wp2
      go_ret
      exact ⟨rfl, r1, (kpB B w _ _).drew⟩

end Go.Proofs.Ytfpgijdfbgfkcaa
