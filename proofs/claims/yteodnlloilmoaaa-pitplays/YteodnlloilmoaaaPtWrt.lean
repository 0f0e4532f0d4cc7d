/- The contracts of a counter's write and setUp. -/
import Derived.Test.YteodnlloilmoaaaPtLeaf
namespace Go.Proofs.Yteodnlloilmoaaa
open Go.ChangeShapes Go.WideShapes Go.ChangeAt Go.RowKit
set_option linter.unusedVariables false

theorem or16 : ∀ a b : Nat, a < 256 → b < 256 → (a * 256) ||| b = a * 256 + b := by
  intro a b ha hb
  have := Nat.two_pow_add_eq_or_of_lt (i := 8) (b := b) (by omega) a
  rw [show (2 : Nat) ^ 8 * a = a * 256 by omega] at this
  exact this.symm

theorem or_16 {a b : Int} (a0 : 0 ≤ a) (a1 : a < 256) (b0 : 0 ≤ b) (b1 : b < 256) : bits .or .u16 (a * 256) b = a * 256 + b := by
  have e := u16_or (a * 256) b (by omega) (by omega) b0 (by omega)
  rw [e, show (a * 256).toNat = a.toNat * 256 by omega, or16 _ _ (by omega) (by omega)]
  omega

section
variable {w : World} {B o : Nat} {f : Nat → Cn} {i : Nat} {c : Cn}

theorem CAt.beg {l l' now : Int} (h : CAt w B o f i (c.begin l now)) (e : l = l') : CAt w B o f i (c.begin l' now) := e ▸ h

theorem write_1 (h : CAt w B o f i c) (v now : Int) (v0 : 0 ≤ v) (v1 : v < 256) (hh : c.how = 1) : Calls Try.prog 20 #[.pointer (some ⟨B, o, none⟩), .int .u8 v, .int .u64 now] w fun e w' => e = .returned (.tuple #[]) ∧ CAt w' B o f i (c.begin v now) ∧ Kp (isB B) w w' := by
  have HB : Hid (∀ l, _) := fun l => begin_ok h l now
  have c1 := h.c1
  rw [hh] at c1
  go_enter Try.func20, Try.ntmps20
  go_wp2_with fail
  refine Calls.mono (HB.out _) ?_; rintro e w1 ⟨rfl, h1, k1⟩
  go_wp2
  go_end0
  exact ⟨rfl, h1.beg (by omega), k1⟩

theorem write_2 (h : CAt w B o f i c) (v now : Int) (v0 : 0 ≤ v) (v1 : v < 256) (hh : c.how = 2) : Calls Try.prog 20 #[.pointer (some ⟨B, o, none⟩), .int .u8 v, .int .u64 now] w fun e w' => e = .returned (.tuple #[]) ∧ CAt w' B o f i (c.begin (v * 256) now) ∧ Kp (isB B) w w' := by
  have HB : Hid (∀ l, _) := fun l => begin_ok h l now
  have c1 := h.c1
  rw [hh] at c1
  go_enter Try.func20, Try.ntmps20
  go_wp2_with fail
  refine Calls.mono (HB.out _) ?_; rintro e w1 ⟨rfl, h1, k1⟩
  go_wp2
  go_end0
  exact ⟨rfl, h1.beg (by omega), k1⟩

theorem write_3 (h : CAt w B o f i c) (v now : Int) (v0 : 0 ≤ v) (v1 : v < 256) (hf : 0 ≤ c.fst ∧ c.fst < 256) (hh : c.how = 3) (hw : c.wants = true) : Calls Try.prog 20 #[.pointer (some ⟨B, o, none⟩), .int .u8 v, .int .u64 now] w fun e w' => e = .returned (.tuple #[]) ∧ CAt w' B o f i ({ c with wants := false }.begin (v * 256 + c.fst) now) ∧ Kp (isB B) w w' := by
  have h' : CAt (w.setCell ⟨B, o + 6, none⟩ (.bool false)) B o f i { c with wants := false } := h.set (k := 6) (by decide) _ _ rfl
  have HB : Hid (∀ l, _) := fun l => begin_ok h' l now
  have hk : Kp (isB B) w (w.setCell ⟨B, o + 6, none⟩ (.bool false)) := kpB B w _ _
  have c1 := h.c1
  have c5 := h.c5
  have c6 := h.c6
  have z6 := h.fz (o + 6)
  rw [hh] at c1
  rw [hw] at c6
  obtain ⟨f0, f1⟩ := hf
  go_enter Try.func20, Try.ntmps20
  go_wp2_with fail
  refine Calls.mono (HB.out _) ?_; rintro e w1 ⟨rfl, h1, k1⟩
  go_wp2
  go_end0
  exact ⟨rfl, h1.beg (or_16 v0 v1 f0 f1), hk.trans k1⟩

theorem write_4 (h : CAt w B o f i c) (v now : Int) (hh : c.how = 3) (hw : c.wants = false) : Calls Try.prog 20 #[.pointer (some ⟨B, o, none⟩), .int .u8 v, .int .u64 now] w fun e w' => e = .returned (.tuple #[]) ∧ CAt w' B o f i { c with fst := v, wants := true } ∧ Kp (isB B) w w' := by
  have c1 := h.c1
  have c5 := h.c5
  have c6 := h.c6
  have z5 := h.fz (o + 5)
  have z6 := h.fz (o + 6)
  rw [hh] at c1
  rw [hw] at c6
  go_enter Try.func20, Try.ntmps20
  go_wp2
  go_end0
  exact ⟨rfl, (h.set (k := 5) (by decide) _ { c with fst := v } rfl).set (k := 6) (by decide) _ { c with fst := v, wants := true } rfl, (kpB B w _ _).trans (kpB B _ _ _)⟩

theorem write_ok (h : CAt w B o f i c) (k : c.Ok) (v now : Int) (v0 : 0 ≤ v) (v1 : v < 256) : Calls Try.prog 20 #[.pointer (some ⟨B, o, none⟩), .int .u8 v, .int .u64 now] w fun e w' => e = .returned (.tuple #[]) ∧ CAt w' B o f i (c.write v now) ∧ Kp (isB B) w w' := by
  have hh := k.how
  unfold Cn.write
  by_cases e1 : c.how = 1
  · rw [if_pos e1]; exact write_1 h v now v0 v1 e1
  · rw [if_neg e1]
    by_cases e2 : c.how = 2
    · rw [if_pos e2]; exact write_2 h v now v0 v1 e2
    · rw [if_neg e2]
      cases e : c.wants
      · exact write_4 h v now (by omega) e
      · exact write_3 h v now v0 v1 k.fst (by omega) e

theorem row10 (h : CAt w B o f i c) (c' : Cn) (W : World) (hW : W = ((((((((((w.setCell ⟨B, o, none⟩ (.int .u8 c'.mode)).setCell ⟨B, o + 1, none⟩ (.int .u8 c'.how)).setCell ⟨B, o + 2, none⟩ (.int .u16 c'.len)).setCell ⟨B, o + 3, none⟩ (.int .u64 c'.began)).setCell ⟨B, o + 4, none⟩ (.bool c'.st)).setCell ⟨B, o + 5, none⟩ (.int .u8 c'.fst)).setCell ⟨B, o + 6, none⟩ (.bool c'.wants)).setCell ⟨B, o + 7, none⟩ (.bool c'.upper)).setCell ⟨B, o + 8, none⟩ (.int .u16 c'.held)).setCell ⟨B, o + 9, none⟩ (.bool c'.holds))) : CAt W B o f i c' ∧ Kp (isB B) w W := by
  subst hW
  refine ⟨(((((((((h.set0 _ ⟨c'.mode, c.how, c.len, c.began, c.st, c.fst, c.wants, c.upper, c.held, c.holds⟩ rfl).set (k := 1) (by decide) _ ⟨c'.mode, c'.how, c.len, c.began, c.st, c.fst, c.wants, c.upper, c.held, c.holds⟩ rfl).set (k := 2) (by decide) _ ⟨c'.mode, c'.how, c'.len, c.began, c.st, c.fst, c.wants, c.upper, c.held, c.holds⟩ rfl).set (k := 3) (by decide) _ ⟨c'.mode, c'.how, c'.len, c'.began, c.st, c.fst, c.wants, c.upper, c.held, c.holds⟩ rfl).set (k := 4) (by decide) _ ⟨c'.mode, c'.how, c'.len, c'.began, c'.st, c.fst, c.wants, c.upper, c.held, c.holds⟩ rfl).set (k := 5) (by decide) _ ⟨c'.mode, c'.how, c'.len, c'.began, c'.st, c'.fst, c.wants, c.upper, c.held, c.holds⟩ rfl).set (k := 6) (by decide) _ ⟨c'.mode, c'.how, c'.len, c'.began, c'.st, c'.fst, c'.wants, c.upper, c.held, c.holds⟩ rfl).set (k := 7) (by decide) _ ⟨c'.mode, c'.how, c'.len, c'.began, c'.st, c'.fst, c'.wants, c'.upper, c.held, c.holds⟩ rfl).set (k := 8) (by decide) _ ⟨c'.mode, c'.how, c'.len, c'.began, c'.st, c'.fst, c'.wants, c'.upper, c'.held, c.holds⟩ rfl).set (k := 9) (by decide) _ c' rfl, ?_⟩
  exact (((((((((kpB B w _ _).trans (kpB B _ _ _)).trans (kpB B _ _ _)).trans (kpB B _ _ _)).trans (kpB B _ _ _)).trans (kpB B _ _ _)).trans (kpB B _ _ _)).trans (kpB B _ _ _)).trans (kpB B _ _ _)).trans (kpB B _ _ _)

set_option maxHeartbeats 1000000 in
theorem setUp_ok (h : CAt w B o f i c) (b n : Int) (n0 : 0 ≤ n) (n1 : n < 256) : Calls Try.prog 26 #[.pointer (some ⟨B, o, none⟩), .int .u8 b, .int .u8 n] w fun e w' => e = .returned (.tuple #[]) ∧ CAt w' B o f i (c.setUp b n) ∧ Kp (isB B) w w' := by
  have c0 := h.c0
  have c1 := h.c1
  have c2 := h.c2
  have c3 := h.c3
  have c4 := h.c4
  have c5 := h.c5
  have c6 := h.c6
  have c7 := h.c7
  have c8 := h.c8
  have c9 := h.c9
  have z0 := h.fz o
  have z1 := h.fz (o + 1)
  have z2 := h.fz (o + 2)
  have z3 := h.fz (o + 3)
  have z4 := h.fz (o + 4)
  have z5 := h.fz (o + 5)
  have z6 := h.fz (o + 6)
  have z7 := h.fz (o + 7)
  have z8 := h.fz (o + 8)
  have z9 := h.fz (o + 9)
  by_cases g : 5 < n
  · have g' : decide (5 < n) = true := by simp [g]
    have hX : c.setUp b n = ⟨n - 4, b, c.len, 0, true, 0, false, b == 2, 0, false⟩ := by unfold Cn.setUp md; rw [if_pos g]
    rw [hX]
    have hm : (n - 4) % 256 = n - 4 := by omega
    have r := row10 h ⟨n - 4, b, c.len, 0, true, 0, false, b == 2, 0, false⟩ _ rfl
    dsimp only at r
    have HR : Hid _ := r
    clear h hX r
    go_enter Try.func26, Try.ntmps26
    go_wp2
    go_end0
    exact ⟨rfl, HR.out.1, HR.out.2⟩
  · have g' : decide (5 < n) = false := by simp; omega
    have hX : c.setUp b n = ⟨n, b, c.len, 0, true, 0, false, b == 2, 0, false⟩ := by unfold Cn.setUp md; rw [if_neg g]
    rw [hX]
    have r := row10 h ⟨n, b, c.len, 0, true, 0, false, b == 2, 0, false⟩ _ rfl
    dsimp only at r
    have HR : Hid _ := r
    clear h hX r
    go_enter Try.func26, Try.ntmps26
    go_wp2
    go_end0
    exact ⟨rfl, HR.out.1, HR.out.2⟩
end
end Go.Proofs.Yteodnlloilmoaaa
