/- Contracts of the eight operations of package shift, as closures: for every value and count within their kinds they return result, CF and OF as named, and the world has at most new blocks. -/
import Derived.Test.YtnfbflbghlmdjaaShiftMoves
namespace Go.Proofs.Ytnfbflbghlmdjaa
open Go.ChangeShapes Go.WideShapes Go.ChangeAt Go.RowKit
set_option linter.unusedVariables false

def mvd (r : Int) (c v : Bool) : Value := .agg #[.int .u32 r, .int .u32 (flg c 1), .int .u32 (flg v 1)]

theorem Sw.isR {s H M : Int} {W : Nat} (h : Sw s H M W) : isR W ∧ Go.Proofs.Ytnfbflbghlmdjaa.isR (W + 1) := by
  rcases h with ⟨rfl, rfl, rfl, rfl⟩ | ⟨rfl, rfl, rfl, rfl⟩ | ⟨rfl, rfl, rfl, rfl⟩ <;> (unfold Go.Proofs.Ytnfbflbghlmdjaa.isR; decide)

theorem flg1_mod (b : Bool) : flg b 1 % 4294967296 = flg b 1 := by cases b <;> rfl

theorem shl_any {s H M : Int} {W : Nat} (hS : Sw s H M W) (x : Int) (k : Nat) (c : Bool) (b0 b1 b3 b4 b5 b6 : Nat) (w : World) (x0 : 0 ≤ x) (x1 : x < M) (k1 : 1 ≤ k) (k2 : k ≤ 31) (hh : Held w b0 b1 b3 b4 b5 b6 W c) :
    Calls Try.prog 35 #[.int .u32 x, .int .u32 (k : Int), .pointer (some ⟨b3, 0, none⟩), .pointer (some ⟨b0, 0, none⟩), .pointer (some ⟨b6, 0, none⟩)] w fun e w' =>
      e = .returned (mvd (mvR 4 H M W x k c) (mvC 4 H M W x k c) (mvV 4 H M W x k c)) ∧ Grown w w' := by
  show Calls Try.prog 35 #[.int .u32 x, .int .u32 (k : Int), .pointer (some ⟨b3, 0, none⟩), .pointer (some ⟨b0, 0, none⟩), .pointer (some ⟨b6, 0, none⟩)] w fun e w' =>
      e = .returned (.agg #[.int .u32 (x * ((2 ^ k : Nat) : Int) % M), .int .u32 (flg (tb (x * ((2 ^ k : Nat) : Int)) W) 1), .int .u32 (flg (tb (x * ((2 ^ k : Nat) : Int)) W != tb (x * ((2 ^ k : Nat) : Int) % M) (W - 1)) 1)]) ∧ Grown w w'
  have p := hS.pow
  have hn : 0 ≤ x * ((2 ^ k : Nat) : Int) ∧ x * ((2 ^ k : Nat) : Int) < 18446744073709551616 := by
    have h31 : (2 : Nat) ^ k ≤ 2 ^ 31 := Nat.pow_le_pow_right (by decide) k2
    have e31 : (2 : Nat) ^ 31 = 2147483648 := by decide
    have hp := Nat.two_pow_pos k
    refine ⟨Int.mul_nonneg x0 (by omega), ?_⟩
    have h1 : x * ((2 ^ k : Nat) : Int) ≤ x * 2147483648 := Int.mul_le_mul_of_nonneg_left (by omega) x0
    omega
  have hw : IntKind.u64.wrap (x * 2 ^ k) = x * ((2 ^ k : Nat) : Int) := by rw [pw_cast, wrap_u64']; omega
  have x2 : x < 4294967296 := by omega
  have hm := mod_bd (M := M) (by omega) (x * ((2 ^ k : Nat) : Int))
  have hl := size1 hh.l0
  have hA0 := cell1 hh.l0 hh.h0
  have hB0 := cell2 hh.l0 hh.h0
  have hA3 := cell1 hh.l3 hh.h3
  have hB3 := cell2 hh.l3 hh.h3
  have hA6 := cell1 hh.l6 hh.h6
  have hB6 := cell2 hh.l6 hh.h6
  clear p hh
  revert hn hw hm
  generalize x * ((2 ^ k : Nat) : Int) = n
  intro hn hw hm
  obtain ⟨n0, n1⟩ := hn
  obtain ⟨m0, m1⟩ := hm
  go_enter Try.func35, Try.ntmps35
  go_wp2
  go_region_held3 (fun w' => w'.cell? ⟨b0, 0, none⟩ = some (.int .u64 (W : Int)) ∧ w'.cell? ⟨b3, 0, none⟩ = some (.func (.func 29) #[] #[.pointer (some ⟨b0, 0, none⟩)]) ∧ w'.cell? ⟨b6, 0, none⟩ = some (.func (.func 34) #[] #[.pointer (some ⟨b0, 0, none⟩)]))
    (first | exact ⟨hA0 _, hA3 _, hA6 _⟩ | exact ⟨hB0 _ _, hB3 _ _, hB6 _ _⟩)
    ((first
    | (go_at_call 15; refine (cut_any hS _ _ n0 n1).mono ?_; rintro e w' ⟨rfl, hw⟩; replace hw := hw.symm; subst hw)
    | (go_at_call 34; refine (above_any hS _ _ _ n0 n1 (by exact hA0 _)).mono ?_; rintro e w' ⟨rfl, hw⟩; replace hw := hw.symm; subst hw)
    | (go_at_call 29; refine (toLeft_any hS _ _ _ _ m0 m1 (by exact hl _) (by exact hA0 _)).mono ?_; rintro e w' ⟨rfl, hw⟩; replace hw := hw.symm; subst hw)))
  go_wp2
  exact bodyPost_ret (v := .agg #[.int .u32 (n % M), .int .u32 (flg (tb n W) 1), .int .u32 (flg (tb n W != tb (n % M) (W - 1)) 1)]) (by simp [results, Try.results35, go_sem]) rfl ⟨rfl, Grown.drew (Grown.alloc (Grown.alloc (Grown.refl _) _ _) _ _)⟩

theorem rol_any {s H M : Int} {W : Nat} (hS : Sw s H M W) (x : Int) (k : Nat) (c : Bool) (b0 b1 b3 b4 b5 b6 : Nat) (w : World) (x0 : 0 ≤ x) (x1 : x < M) (k1 : 1 ≤ k) (k2 : k ≤ 31) (hh : Held w b0 b1 b3 b4 b5 b6 W c) :
    Calls Try.prog 36 #[.int .u32 x, .int .u32 (k : Int), .pointer (some ⟨b0, 0, none⟩), .pointer (some ⟨b3, 0, none⟩)] w fun e w' =>
      e = .returned (mvd (mvR 0 H M W x k c) (mvC 0 H M W x k c) (mvV 0 H M W x k c)) ∧ Grown w w' := by
  show Calls Try.prog 36 #[.int .u32 x, .int .u32 (k : Int), .pointer (some ⟨b0, 0, none⟩), .pointer (some ⟨b3, 0, none⟩)] w fun e w' =>
      e = .returned (.agg #[.int .u32 (turn W x k), .int .u32 (flg (tb (turn W x k) 0) 1), .int .u32 (flg (tb (turn W x k) 0 != tb (turn W x k) (W - 1)) 1)]) ∧ Grown w w'
  have p := hS.pow
  have hR := hS.isR.1
  have N1 : Hid (x < ((2 ^ W : Nat) : Int)) := (by rw [← p.1]; exact x1 : x < ((2 ^ W : Nat) : Int))
  have ht := turn_bd W x k
  rw [← p.1] at ht
  have hW : 8 ≤ W ∧ W ≤ 32 := ⟨p.2.2.1, p.2.2.2.1⟩
  have mt := p.2.2.2.2.1
  have x2 : x < 4294967296 := by omega
  have t2 : turn W x k < 4294967296 := by omega
  have ha : bits .and .u32 (turn W x k) 1 = flg (tb (turn W x k) 0) 1 := by have := flg_tb ht.1 0; rw [and_1 ht.1 t2, ← this]; simp
  obtain ⟨m0, m1⟩ := ht
  have hl := size1 hh.l0
  have hA0 := cell1 hh.l0 hh.h0
  have hB0 := cell2 hh.l0 hh.h0
  have hA3 := cell1 hh.l3 hh.h3
  have hB3 := cell2 hh.l3 hh.h3
  clear p hh
  go_enter Try.func36, Try.ntmps36
  go_wp2_with (first
    | (go_at_call 37; refine (turnLeft_any hR k _ _ x0 N1.out (by omega)).mono ?_; rintro e w' ⟨rfl, hw⟩; replace hw := hw.symm; subst hw)
    | (go_at_call 29; refine (toLeft_any hS _ _ _ _ m0 m1 (by exact hl _) (by exact hA0 _)).mono ?_; rintro e w' ⟨rfl, hw⟩; replace hw := hw.symm; subst hw))
  exact bodyPost_ret (v := .agg #[.int .u32 (turn W x k), .int .u32 (flg (tb (turn W x k) 0) 1), .int .u32 (flg (tb (turn W x k) 0 != tb (turn W x k) (W - 1)) 1)]) (by simp [results, Try.results36, go_sem]) rfl ⟨rfl, Grown.alloc (Grown.alloc (Grown.refl _) _ _) _ _⟩

theorem ror_any {s H M : Int} {W : Nat} (hS : Sw s H M W) (x : Int) (k : Nat) (c : Bool) (b0 b1 b3 b4 b5 b6 : Nat) (w : World) (x0 : 0 ≤ x) (x1 : x < M) (k1 : 1 ≤ k) (k2 : k ≤ 31) (hh : Held w b0 b1 b3 b4 b5 b6 W c) :
    Calls Try.prog 38 #[.int .u32 x, .int .u32 (k : Int), .pointer (some ⟨b0, 0, none⟩), .pointer (some ⟨b4, 0, none⟩)] w fun e w' =>
      e = .returned (mvd (mvR 1 H M W x k c) (mvC 1 H M W x k c) (mvV 1 H M W x k c)) ∧ Grown w w' := by
  show Calls Try.prog 38 #[.int .u32 x, .int .u32 (k : Int), .pointer (some ⟨b0, 0, none⟩), .pointer (some ⟨b4, 0, none⟩)] w fun e w' =>
      e = .returned (.agg #[.int .u32 (turn W x (4 * W - k)), .int .u32 (flg (tb (turn W x (4 * W - k)) (W - 1)) 1), .int .u32 (flg (tb (turn W x (4 * W - k)) (W - 1) != tb (turn W x (4 * W - k)) (W - 2)) 1)]) ∧ Grown w w'
  have p := hS.pow
  have hR := hS.isR.1
  have N1 : Hid (x < ((2 ^ W : Nat) : Int)) := (by rw [← p.1]; exact x1 : x < ((2 ^ W : Nat) : Int))
  have ht := turn_bd W x (4 * W - k)
  rw [← p.1] at ht
  have hW : 8 ≤ W ∧ W ≤ 32 := ⟨p.2.2.1, p.2.2.2.1⟩
  have mt := p.2.2.2.2.1
  have x2 : x < 4294967296 := by omega
  have t2 : turn W x (4 * W - k) < 4294967296 := by omega
  obtain ⟨m0, m1⟩ := ht
  have hl := size1 hh.l0
  have hA0 := cell1 hh.l0 hh.h0
  have hB0 := cell2 hh.l0 hh.h0
  have hA4 := cell1 hh.l4 hh.h4
  have hB4 := cell2 hh.l4 hh.h4
  clear p hh
  go_enter Try.func38, Try.ntmps38
  go_wp2_with (go_at_call 39; refine (turnRight_any hR k _ _ x0 N1.out k2).mono ?_; rintro e w' ⟨rfl, hw⟩; replace hw := hw.symm; subst hw)
  go_region_held3 (fun w' => w'.cell? ⟨b0, 0, none⟩ = some (.int .u64 (W : Int)) ∧ w'.cell? ⟨b4, 0, none⟩ = some (.func (.func 31) #[] #[.pointer (some ⟨b0, 0, none⟩)]))
    (first | exact ⟨hA0 _, hA4 _⟩ | exact ⟨hB0 _ _, hB4 _ _⟩)
    ((first
    | (go_at_call 30; refine (top_any hS _ _ m0 t2).mono ?_; rintro e w' ⟨rfl, hw⟩; replace hw := hw.symm; subst hw)
    | (go_at_call 31; refine (turnedRight_any hS _ _ _ _ m0 m1 (by exact hl _) (by exact hA0 _)).mono ?_; rintro e w' ⟨rfl, hw⟩; replace hw := hw.symm; subst hw)))
  go_wp2
  exact bodyPost_ret (v := .agg #[.int .u32 (turn W x (4 * W - k)), .int .u32 (flg (tb (turn W x (4 * W - k)) (W - 1)) 1), .int .u32 (flg (tb (turn W x (4 * W - k)) (W - 1) != tb (turn W x (4 * W - k)) (W - 2)) 1)]) (by simp [results, Try.results38, go_sem]) rfl ⟨rfl, Grown.drew (Grown.drew (Grown.alloc (Grown.alloc (Grown.refl _) _ _) _ _))⟩

theorem turnLeft1_any {R : Nat} (hR : isR (R + 1)) (k : Nat) (n : Int) (w : World) (n0 : 0 ≤ n) (n1 : n < ((2 ^ (R + 1) : Nat) : Int)) (hk : k ≤ 33) :
    Calls Try.prog 37 #[.int .u64 n, .int .u32 ((R : Int) + 1), .int .u32 (k : Int)] w fun e w' => e = .returned (.int .u64 (turn (R + 1) n k)) ∧ w' = w := by
  have h := turnLeft_any hR k n w n0 n1 hk
  rw [show ((R + 1 : Nat) : Int) = (R : Int) + 1 by omega] at h
  exact h

theorem turnRight1_any {R : Nat} (hR : isR (R + 1)) (k : Nat) (n : Int) (w : World) (n0 : 0 ≤ n) (n1 : n < ((2 ^ (R + 1) : Nat) : Int)) (hk : k ≤ 31) :
    Calls Try.prog 39 #[.int .u64 n, .int .u32 ((R : Int) + 1), .int .u32 (k : Int)] w fun e w' => e = .returned (.int .u64 (turn (R + 1) n (4 * (R + 1) - k))) ∧ w' = w := by
  have h := turnRight_any hR k n w n0 n1 hk
  rw [show ((R + 1 : Nat) : Int) = (R : Int) + 1 by omega] at h
  exact h

theorem wide_bd {s H M : Int} {W : Nat} (hS : Sw s H M W) {x : Int} (x0 : 0 ≤ x) (x1 : x < M) (c : Bool) : 0 ≤ x + flg c M ∧ x + flg c M < ((2 ^ (W + 1) : Nat) : Int) := by
  have p := hS.pow
  have e : ((2 ^ (W + 1) : Nat) : Int) = 2 * M := by rw [p.1, Nat.pow_succ]; omega
  rw [e]
  unfold flg
  split <;> omega

theorem turn1_bd {s H M : Int} {W : Nat} (hS : Sw s H M W) (x : Int) (k : Nat) : 0 ≤ turn (W + 1) x k ∧ turn (W + 1) x k < 18446744073709551616 := by
  have p := hS.pow
  have t := turn_bd (W + 1) x k
  have e : ((2 ^ (W + 1) : Nat) : Int) = 2 * M := by rw [p.1, Nat.pow_succ]; omega
  omega

theorem shr_any {s H M : Int} {W : Nat} (hS : Sw s H M W) (x : Int) (k : Nat) (c : Bool) (b0 b1 b3 b4 b5 b6 : Nat) (w : World) (x0 : 0 ≤ x) (x1 : x < M) (k1 : 1 ≤ k) (k2 : k ≤ 31) (hh : Held w b0 b1 b3 b4 b5 b6 W c) :
    Calls Try.prog 42 #[.int .u32 x, .int .u32 (k : Int), .pointer (some ⟨b0, 0, none⟩)] w fun e w' =>
      e = .returned (mvd (mvR 5 H M W x k c) (mvC 5 H M W x k c) (mvV 5 H M W x k c)) ∧ Grown w w' := by
  show Calls Try.prog 42 #[.int .u32 x, .int .u32 (k : Int), .pointer (some ⟨b0, 0, none⟩)] w fun e w' =>
      e = .returned (.agg #[.int .u32 (x / ((2 ^ k : Nat) : Int)), .int .u32 (flg (tb x (k - 1)) 1), .int .u32 (flg (tb x (W - 1)) 1)]) ∧ Grown w w'
  have p := hS.pow
  have hA0 := cell1 hh.l0 hh.h0
  have x2 : x < 4294967296 := by omega
  have ha : bits .and .u32 (x / 2 ^ (k - 1)) 1 = flg (tb x (k - 1)) 1 := by rw [pw_cast]; exact bit_ret x0 x2 (k - 1)
  have HP : Hid _ := pw_cast k
  clear p hh
  go_enter Try.func42, Try.ntmps42
  go_wp2_with (go_at_call 30; refine (top_any hS _ _ x0 x2).mono ?_; rintro e w' ⟨rfl, hw⟩; replace hw := hw.symm; subst hw)
  exact bodyPost_ret (v := .agg #[.int .u32 (x / 2 ^ k), .int .u32 (flg (tb x (k - 1)) 1), .int .u32 (flg (tb x (W - 1)) 1)]) (by simp [results, Try.results42, go_sem]) rfl ⟨by rw [← HP.out], Grown.alloc (Grown.refl _) _ _⟩

theorem sar_any {s H M : Int} {W : Nat} (hS : Sw s H M W) (x : Int) (k : Nat) (c : Bool) (b0 b1 b3 b4 b5 b6 : Nat) (w : World) (x0 : 0 ≤ x) (x1 : x < M) (k1 : 1 ≤ k) (k2 : k ≤ 31) (hh : Held w b0 b1 b3 b4 b5 b6 W c) :
    Calls Try.prog 43 #[.int .u32 x, .int .u32 (k : Int), .pointer (some ⟨b0, 0, none⟩)] w fun e w' =>
      e = .returned (mvd (mvR 7 H M W x k c) (mvC 7 H M W x k c) (mvV 7 H M W x k c)) ∧ Grown w w' := by
  show Calls Try.prog 43 #[.int .u32 x, .int .u32 (k : Int), .pointer (some ⟨b0, 0, none⟩)] w fun e w' =>
      e = .returned (.agg #[.int .u32 (sgv M H x / ((2 ^ k : Nat) : Int) % M), .int .u32 (flg (decide (sgv M H x / ((2 ^ (k - 1) : Nat) : Int) % 2 = 1)) 1), .int .u32 (flg false 1)]) ∧ Grown w w'
  have p := hS.pow
  have hA0 := cell1 hh.l0 hh.h0
  have x2 : x < 4294967296 := by omega
  have hg := sgv_bd hS x0 x1
  have HP : Hid _ := pw_cast k
  have ha : bits .and .i64 (sgv M H x / 2 ^ (k - 1)) 1 = flg (decide (sgv M H x / ((2 ^ (k - 1) : Nat) : Int) % 2 = 1)) 1 := by
    rw [i64_and1, pw_cast]
    have : ∀ q : Int, q % 2 = flg (decide (q % 2 = 1)) 1 := fun q => by
      unfold flg
      by_cases h : q % 2 = 1
      · simp [h]
      · rw [decide_eq_false h, if_neg (by decide)]; omega
    exact this _
  have HE : Hid (IntKind.u64.wrap (sgv M H x / 2 ^ k) % M = sgv M H x / ((2 ^ k : Nat) : Int) % M) := (by
    rw [pw_cast, wrap_u64']
    rcases hS with ⟨rfl, rfl, rfl, rfl⟩ | ⟨rfl, rfl, rfl, rfl⟩ | ⟨rfl, rfl, rfl, rfl⟩ <;> omega : IntKind.u64.wrap (sgv M H x / 2 ^ k) % M = sgv M H x / ((2 ^ k : Nat) : Int) % M)
  have hu : 0 ≤ IntKind.u64.wrap (sgv M H x / 2 ^ k) ∧ IntKind.u64.wrap (sgv M H x / 2 ^ k) < 18446744073709551616 := by rw [wrap_u64']; omega
  clear p hh
  go_enter Try.func43, Try.ntmps43
  go_wp2_with (first
    | (go_at_call 44; refine (signed_any hS _ _ x0 x1).mono ?_; rintro e w' ⟨rfl, hw⟩; replace hw := hw.symm; subst hw)
    | (go_at_call 15; refine (cut_any hS _ _ hu.1 hu.2).mono ?_; rintro e w' ⟨rfl, hw⟩; replace hw := hw.symm; subst hw))
  have HQ : Hid (flg (decide (sgv M H x / 2 ^ (k - 1) % 2 = 1)) 1 % 4294967296 = flg (decide (sgv M H x / ((2 ^ (k - 1) : Nat) : Int) % 2 = 1)) 1) := (by rw [pw_cast]; exact flg1_mod _ : flg (decide (sgv M H x / 2 ^ (k - 1) % 2 = 1)) 1 % 4294967296 = flg (decide (sgv M H x / ((2 ^ (k - 1) : Nat) : Int) % 2 = 1)) 1)
  exact bodyPost_ret (v := .agg #[.int .u32 (IntKind.u64.wrap (sgv M H x / 2 ^ k) % M), .int .u32 (flg (decide (sgv M H x / 2 ^ (k - 1) % 2 = 1)) 1 % 4294967296), .int .u32 0]) (by simp [results, Try.results43, go_sem]) rfl ⟨by rw [HE.out, HQ.out]; rfl, Grown.alloc (Grown.refl _) _ _⟩
end Go.Proofs.Ytnfbflbghlmdjaa
