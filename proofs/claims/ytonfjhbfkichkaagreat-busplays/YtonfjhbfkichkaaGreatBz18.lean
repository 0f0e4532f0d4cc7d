/- The bus and its devices: PtWrt, PtNew. -/
import Derived.Test.YtonfjhbfkichkaaGreatBz10
import Derived.Test.YtonfjhbfkichkaaGreatBz17
namespace Go.Proofs.YtonfjhbfkichkaaGreat.Pt
open Go.ChangeShapes Go.WideShapes Go.ChangeAt Go.RowKit
set_option linter.unusedVariables false
theorem or16 : ∀ a b : Nat, a < 256 → b < 256 → (a * 256) ||| b = a * 256 + b := by
 intro a b ha hb
 have := Nat.two_pow_add_eq_or_of_lt (i := 8) (b := b) (by omega) a
 rw [show (2 : Nat) ^ 8 * a = a * 256 by omega] at this
 exact this.symm
theorem or_16 {a b : Int} (a0 : 0 ≤ a) (a1 : a < 256) (b0 : 0 ≤ b) (b1 : b < 256) : bits .or .u16 (a * 256) b = a * 256 + b := by
 have e := u16_or (a * 256) b (by omega) (by omega) b0 (by omega)
 rw [e, show (a * 256).toNat = a.toNat * 256 by omega, or16 _ _ (by omega) (by omega)]
 omega
section
variable {w : World} {B o : Nat} {f : Nat → Cn} {i : Nat} {c : Cn}
theorem CAt.beg {l l' now : Int} (h : CAt w B o f i (c.begin l now)) (e : l = l') : CAt w B o f i (c.begin l' now) := e ▸ h
theorem write_1 (h : CAt w B o f i c) (v now : Int) (v0 : 0 ≤ v) (v1 : v < 256) (hh : c.how = 1) : Calls Tryz.prog 146 #[.pointer (some ⟨B, o, none⟩), .int .u8 v, .int .u64 now] w fun e w' => e = .returned (.tuple #[]) ∧ CAt w' B o f i (c.begin v now) ∧ Kp (isB B) w w' := by
 have HB : Hid (∀ l, _) := fun l => begin_ok h l now
 have c1 := h.c1
 rw [hh] at c1
 go_enter Tryz.func146, Tryz.ntmps146
 go_wp2_with fail
 refine Calls.mono (HB.out _) ?_; rintro e w1 ⟨rfl, h1, k1⟩
 go_wp2
 go_end0
 exact ⟨rfl, h1.beg (by omega), k1⟩
theorem write_2 (h : CAt w B o f i c) (v now : Int) (v0 : 0 ≤ v) (v1 : v < 256) (hh : c.how = 2) : Calls Tryz.prog 146 #[.pointer (some ⟨B, o, none⟩), .int .u8 v, .int .u64 now] w fun e w' => e = .returned (.tuple #[]) ∧ CAt w' B o f i (c.begin (v * 256) now) ∧ Kp (isB B) w w' := by
 have HB : Hid (∀ l, _) := fun l => begin_ok h l now
 have c1 := h.c1
 rw [hh] at c1
 go_enter Tryz.func146, Tryz.ntmps146
 go_wp2_with fail
 refine Calls.mono (HB.out _) ?_; rintro e w1 ⟨rfl, h1, k1⟩
 go_wp2
 go_end0
 exact ⟨rfl, h1.beg (by omega), k1⟩
theorem write_3 (h : CAt w B o f i c) (v now : Int) (v0 : 0 ≤ v) (v1 : v < 256) (hf : 0 ≤ c.fst ∧ c.fst < 256) (hh : c.how = 3) (hw : c.wants = true) : Calls Tryz.prog 146 #[.pointer (some ⟨B, o, none⟩), .int .u8 v, .int .u64 now] w fun e w' => e = .returned (.tuple #[]) ∧ CAt w' B o f i ({ c with wants := false }.begin (v * 256 + c.fst) now) ∧ Kp (isB B) w w' := by
 have h' : CAt (w.setCell ⟨B, o + 6, none⟩ (.bool false)) B o f i { c with wants := false } := h.set (k := 6) (by decide) _ _ rfl
 have HB : Hid (∀ l, _) := fun l => begin_ok h' l now
 have hk : Kp (isB B) w (w.setCell ⟨B, o + 6, none⟩ (.bool false)) := kpB B w _ _
 have c1 := h.c1
 have c5 := h.c5
 have c6 := h.c6
 have z6 := h.fz (o + 6)
 rw [hh] at c1
 rw [hw] at c6
 obtain ⟨f0, f1⟩ := hf
 go_enter Tryz.func146, Tryz.ntmps146
 go_wp2_with fail
 refine Calls.mono (HB.out _) ?_; rintro e w1 ⟨rfl, h1, k1⟩
 go_wp2
 go_end0
 exact ⟨rfl, h1.beg (or_16 v0 v1 f0 f1), hk.trans k1⟩
theorem write_4 (h : CAt w B o f i c) (v now : Int) (hh : c.how = 3) (hw : c.wants = false) : Calls Tryz.prog 146 #[.pointer (some ⟨B, o, none⟩), .int .u8 v, .int .u64 now] w fun e w' => e = .returned (.tuple #[]) ∧ CAt w' B o f i { c with fst := v, wants := true } ∧ Kp (isB B) w w' := by
 have c1 := h.c1
 have c5 := h.c5
 have c6 := h.c6
 have z5 := h.fz (o + 5)
 have z6 := h.fz (o + 6)
 rw [hh] at c1
 rw [hw] at c6
 go_enter Tryz.func146, Tryz.ntmps146
 go_wp2
 go_end0
 exact ⟨rfl, (h.set (k := 5) (by decide) _ { c with fst := v } rfl).set (k := 6) (by decide) _ { c with fst := v, wants := true } rfl, (kpB B w _ _).trans (kpB B _ _ _)⟩
theorem write_ok (h : CAt w B o f i c) (k : c.Ok) (v now : Int) (v0 : 0 ≤ v) (v1 : v < 256) : Calls Tryz.prog 146 #[.pointer (some ⟨B, o, none⟩), .int .u8 v, .int .u64 now] w fun e w' => e = .returned (.tuple #[]) ∧ CAt w' B o f i (c.write v now) ∧ Kp (isB B) w w' := by
 have hh := k.how
 unfold Cn.write
 by_cases e1 : c.how = 1
 ·rw [if_pos e1]; exact write_1 h v now v0 v1 e1
 ·rw [if_neg e1]
  by_cases e2 : c.how = 2
  ·rw [if_pos e2]; exact write_2 h v now v0 v1 e2
  ·rw [if_neg e2]
   cases e : c.wants
   ·exact write_4 h v now (by omega) e
   ·exact write_3 h v now v0 v1 k.fst (by omega) e
theorem row10 (h : CAt w B o f i c) (c' : Cn) (W : World) (hW : W = ((((((((((w.setCell ⟨B, o, none⟩ (.int .u8 c'.mode)).setCell ⟨B, o + 1, none⟩ (.int .u8 c'.how)).setCell ⟨B, o + 2, none⟩ (.int .u16 c'.len)).setCell ⟨B, o + 3, none⟩ (.int .u64 c'.began)).setCell ⟨B, o + 4, none⟩ (.bool c'.st)).setCell ⟨B, o + 5, none⟩ (.int .u8 c'.fst)).setCell ⟨B, o + 6, none⟩ (.bool c'.wants)).setCell ⟨B, o + 7, none⟩ (.bool c'.upper)).setCell ⟨B, o + 8, none⟩ (.int .u16 c'.held)).setCell ⟨B, o + 9, none⟩ (.bool c'.holds))) : CAt W B o f i c' ∧ Kp (isB B) w W := by
 subst hW
 refine ⟨(((((((((h.set0 _ ⟨c'.mode, c.how, c.len, c.began, c.st, c.fst, c.wants, c.upper, c.held, c.holds⟩ rfl).set (k := 1) (by decide) _ ⟨c'.mode, c'.how, c.len, c.began, c.st, c.fst, c.wants, c.upper, c.held, c.holds⟩ rfl).set (k := 2) (by decide) _ ⟨c'.mode, c'.how, c'.len, c.began, c.st, c.fst, c.wants, c.upper, c.held, c.holds⟩ rfl).set (k := 3) (by decide) _ ⟨c'.mode, c'.how, c'.len, c'.began, c.st, c.fst, c.wants, c.upper, c.held, c.holds⟩ rfl).set (k := 4) (by decide) _ ⟨c'.mode, c'.how, c'.len, c'.began, c'.st, c.fst, c.wants, c.upper, c.held, c.holds⟩ rfl).set (k := 5) (by decide) _ ⟨c'.mode, c'.how, c'.len, c'.began, c'.st, c'.fst, c.wants, c.upper, c.held, c.holds⟩ rfl).set (k := 6) (by decide) _ ⟨c'.mode, c'.how, c'.len, c'.began, c'.st, c'.fst, c'.wants, c.upper, c.held, c.holds⟩ rfl).set (k := 7) (by decide) _ ⟨c'.mode, c'.how, c'.len, c'.began, c'.st, c'.fst, c'.wants, c'.upper, c.held, c.holds⟩ rfl).set (k := 8) (by decide) _ ⟨c'.mode, c'.how, c'.len, c'.began, c'.st, c'.fst, c'.wants, c'.upper, c'.held, c.holds⟩ rfl).set (k := 9) (by decide) _ c' rfl, ?_⟩
 exact (((((((((kpB B w _ _).trans (kpB B _ _ _)).trans (kpB B _ _ _)).trans (kpB B _ _ _)).trans (kpB B _ _ _)).trans (kpB B _ _ _)).trans (kpB B _ _ _)).trans (kpB B _ _ _)).trans (kpB B _ _ _)).trans (kpB B _ _ _)
set_option maxHeartbeats 1000000 in
theorem setUp_ok (h : CAt w B o f i c) (b n : Int) (n0 : 0 ≤ n) (n1 : n < 256) : Calls Tryz.prog 169 #[.pointer (some ⟨B, o, none⟩), .int .u8 b, .int .u8 n] w fun e w' => e = .returned (.tuple #[]) ∧ CAt w' B o f i (c.setUp b n) ∧ Kp (isB B) w w' := by
 have c0 := h.c0
 have c1 := h.c1
 have c2 := h.c2
 have c3 := h.c3
 have c4 := h.c4
 have c5 := h.c5
 have c6 := h.c6
 have c7 := h.c7
 have c8 := h.c8
 have c9 := h.c9
 have z0 := h.fz o
 have z1 := h.fz (o + 1)
 have z2 := h.fz (o + 2)
 have z3 := h.fz (o + 3)
 have z4 := h.fz (o + 4)
 have z5 := h.fz (o + 5)
 have z6 := h.fz (o + 6)
 have z7 := h.fz (o + 7)
 have z8 := h.fz (o + 8)
 have z9 := h.fz (o + 9)
 by_cases g : 5 < n
 ·have g' : decide (5 < n) = true := by simp [g]
  have hX : c.setUp b n = ⟨n - 4, b, c.len, 0, true, 0, false, b == 2, 0, false⟩ := by unfold Cn.setUp md; rw [if_pos g]
  rw [hX]
  have hm : (n - 4) % 256 = n - 4 := by omega
  have r := row10 h ⟨n - 4, b, c.len, 0, true, 0, false, b == 2, 0, false⟩ _ rfl
  dsimp only at r
  have HR : Hid _ := r
  clear h hX r
  go_enter Tryz.func169, Tryz.ntmps169
  go_wp2
  go_end0
  exact ⟨rfl, HR.out.1, HR.out.2⟩
 ·have g' : decide (5 < n) = false := by simp; omega
  have hX : c.setUp b n = ⟨n, b, c.len, 0, true, 0, false, b == 2, 0, false⟩ := by unfold Cn.setUp md; rw [if_neg g]
  rw [hX]
  have r := row10 h ⟨n, b, c.len, 0, true, 0, false, b == 2, 0, false⟩ _ rfl
  dsimp only at r
  have HR : Hid _ := r
  clear h hX r
  go_enter Tryz.func169, Tryz.ntmps169
  go_wp2
  go_end0
  exact ⟨rfl, HR.out.1, HR.out.2⟩
end
theorem line_any {w : World} {B : Nat} {f : Nat → Cn} (h : PAt w B f) (k : Oks f) (now : Int) : Calls Tryz.prog 71 #[.pointer (some ⟨B, 0, none⟩), .int .u64 now] w fun e w' => e = .returned (.bool ((f 0).line now)) ∧ Kp noB w w' := by
 have H : Hid (Calls _ _ #[.pointer (some ⟨B, 0, none⟩), .int .u64 now] w _) := line_ok (f := f) (i := 0) (c := f 0) ⟨by rw [upd_self]; exact h, by decide, rfl⟩ (k 0) now
 go_enter Tryz.func71, Tryz.ntmps71
 go_wp2_with fail
 refine Calls.mono H.out ?_; rintro e w1 ⟨rfl, k1⟩
 go_wp2
 go_ret
 exact ⟨rfl, k1⟩
def z0 : Cn := ⟨0, 0, 0, 0, false, 0, false, false, 0, false⟩
def laid (k : Nat) (j : Nat) : Cn := if j < k then cn0 else z0
theorem laid_upd (k : Nat) : upd (laid k) k cn0 = laid (k + 1) := by
 funext j
 unfold upd laid
 by_cases e : j = k
 ·subst e; simp
 ·rw [if_neg e]
  by_cases g : j < k
  ·rw [if_pos g, if_pos (by omega)]
  ·rw [if_neg g, if_neg (by omega)]
theorem laid_self (k : Nat) : laid k k = z0 := by unfold laid; rw [if_neg (by omega)]
def zrow : Array Value := cnC z0 ++ cnC z0 ++ cnC z0
theorem PAt.new (w : World) : PAt (w.alloc (.cells zrow 125)) w.heap.size (laid 0) := by
 refine ⟨zrow, heap_new _ _, rfl, ?_⟩
 intro i k hi hk
 have e : laid 0 i = z0 := by unfold laid; rw [if_neg (by omega)]
 rw [e]
 rcases (by omega : i = 0 ∨ i = 1 ∨ i = 2) with rfl | rfl | rfl <;>
  rcases (by omega : k = 0 ∨ k = 1 ∨ k = 2 ∨ k = 3 ∨ k = 4 ∨ k = 5 ∨ k = 6 ∨ k = 7 ∨ k = 8 ∨ k = 9) with rfl | rfl | rfl | rfl | rfl | rfl | rfl | rfl | rfl | rfl <;> rfl
theorem PAt.all {w : World} {B : Nat} (h : PAt w B (laid 3)) : PAt w B (fun _ => cn0) := by
 obtain ⟨cs, a, b, d⟩ := h.blk
 refine ⟨cs, a, b, fun i k hi hk => ?_⟩
 rw [d i k hi hk]
 unfold laid
 rw [if_pos hi]
set_option maxRecDepth 20000 in
set_option maxHeartbeats 1000000 in
theorem new_ok (w : World) : Calls Tryz.prog 25 #[] w fun e w' => ∃ B, e = .returned (.pointer (some ⟨B, 0, none⟩)) ∧ w.heap.size ≤ B ∧ PAt w' B (fun _ => cn0) ∧ Kp noB w w' := by
 have h0 : Hid (PAt (w.alloc (.cells zrow 125)) w.heap.size (laid 0)) := PAt.new w
 have k0 : Hid (Kp noB w (w.alloc (.cells zrow 125))) := Kp.alloc _ _ _
 unfold zrow cnC z0 at h0 k0
 simp only [List.append_toArray, List.cons_append, List.nil_append] at h0 k0
 go_enter Tryz.func25, Tryz.ntmps25
 go_wp2
 obtain ⟨B, hB⟩ : ∃ B, B = w.heap.size := ⟨_, rfl⟩
 rw [← hB] at h0 ⊢
 generalize w.alloc _ = w0 at h0 k0 ⊢
 have lB : w.heap.size ≤ B := by omega
 clear hB
 go_loopw [5] (fun s5 wr => ∃ k : Nat, s5 = .int .i64 k ∧ k ≤ 3 ∧ PAt wr B (laid k) ∧ Kp noB w wr) (fun s5 _ => (3 - intOf s5).toNat)
 case atStart => exact ⟨0, rfl, by omega, h0.out, k0.out⟩
 case round =>
  clear h0 k0
  obtain ⟨k, rfl, hk, hP, kr⟩ := hrel
  rcases (by omega : k = 0 ∨ k = 1 ∨ k = 2 ∨ k = 3) with rfl | rfl | rfl | rfl
  ·have h := (⟨by rw [← laid_self 0, upd_self]; exact hP, by decide, rfl⟩ : CAt wr B 0 (laid 0) 0 z0)
   have HR : Hid _ := row10 h cn0
   have c0 := h.c0
   have y0 := h.fz 0
   have c1 := h.c1
   have y1 := h.fz 1
   have c2 := h.c2
   have y2 := h.fz 2
   have c3 := h.c3
   have y3 := h.fz 3
   have c4 := h.c4
   have y4 := h.fz 4
   have c5 := h.c5
   have y5 := h.fz 5
   have c6 := h.c6
   have y6 := h.fz 6
   have c7 := h.c7
   have y7 := h.fz 7
   have c8 := h.c8
   have y8 := h.fz 8
   have c9 := h.c9
   have y9 := h.fz 9
   simp only [Nat.reduceAdd] at c1 c2 c3 c4 c5 c6 c7 c8 c9
   clear h hP
   go_wp2
   go_roundw
   case rel =>
    have r := HR.out _ rfl
    have hL : upd (laid 0) 0 cn0 = laid (0 + 1) := laid_upd 0
    refine ⟨1, rfl, by omega, hL ▸ r.1.pit, kr.over r.2 (fun j hj e => by unfold isB at e; omega)⟩
   case measure => simp [intOf]
  ·have h := (⟨by rw [← laid_self 1, upd_self]; exact hP, by decide, rfl⟩ : CAt wr B 10 (laid 1) 1 z0)
   have HR : Hid _ := row10 h cn0
   have c0 := h.c0
   have y0 := h.fz 10
   have c1 := h.c1
   have y1 := h.fz 11
   have c2 := h.c2
   have y2 := h.fz 12
   have c3 := h.c3
   have y3 := h.fz 13
   have c4 := h.c4
   have y4 := h.fz 14
   have c5 := h.c5
   have y5 := h.fz 15
   have c6 := h.c6
   have y6 := h.fz 16
   have c7 := h.c7
   have y7 := h.fz 17
   have c8 := h.c8
   have y8 := h.fz 18
   have c9 := h.c9
   have y9 := h.fz 19
   simp only [Nat.reduceAdd] at c1 c2 c3 c4 c5 c6 c7 c8 c9
   clear h hP
   go_wp2
   go_roundw
   case rel =>
    have r := HR.out _ rfl
    have hL : upd (laid 1) 1 cn0 = laid (1 + 1) := laid_upd 1
    refine ⟨2, rfl, by omega, hL ▸ r.1.pit, kr.over r.2 (fun j hj e => by unfold isB at e; omega)⟩
   case measure => simp [intOf]
  ·have h := (⟨by rw [← laid_self 2, upd_self]; exact hP, by decide, rfl⟩ : CAt wr B 20 (laid 2) 2 z0)
   have HR : Hid _ := row10 h cn0
   have c0 := h.c0
   have y0 := h.fz 20
   have c1 := h.c1
   have y1 := h.fz 21
   have c2 := h.c2
   have y2 := h.fz 22
   have c3 := h.c3
   have y3 := h.fz 23
   have c4 := h.c4
   have y4 := h.fz 24
   have c5 := h.c5
   have y5 := h.fz 25
   have c6 := h.c6
   have y6 := h.fz 26
   have c7 := h.c7
   have y7 := h.fz 27
   have c8 := h.c8
   have y8 := h.fz 28
   have c9 := h.c9
   have y9 := h.fz 29
   simp only [Nat.reduceAdd] at c1 c2 c3 c4 c5 c6 c7 c8 c9
   clear h hP
   go_wp2
   go_roundw
   case rel =>
    have r := HR.out _ rfl
    have hL : upd (laid 2) 2 cn0 = laid (2 + 1) := laid_upd 2
    refine ⟨3, rfl, by omega, hL ▸ r.1.pit, kr.over r.2 (fun j hj e => by unfold isB at e; omega)⟩
   case measure => simp [intOf]
  ·go_wp2
   go_ret
   exact ⟨B, rfl, lB, hP.all, kr⟩
end Go.Proofs.YtonfjhbfkichkaaGreat.Pt
