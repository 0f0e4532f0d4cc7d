/- Contracts of the double shifts' parts: for every input within their kinds they return what is named, and the world has the blocks that are named. -/
import Derived.Test.YtnfbflbghlmdjaaShiftOps
namespace Go.Proofs.Ytnfbflbghlmdjaa
open Go.ChangeShapes Go.WideShapes Go.ChangeAt Go.RowKit
set_option linter.unusedVariables false

def Sd (s H M : Int) (W : Nat) : Prop := (s = 2 ∧ H = 32768 ∧ M = 65536 ∧ W = 16) ∨ (s = 4 ∧ H = 2147483648 ∧ M = 4294967296 ∧ W = 32)

theorem Sd.sw {s H M : Int} {W : Nat} (h : Sd s H M W) : Sw s H M W := Or.inr h

/-- the row of three values that a double shift moves -/
def dN (left : Bool) (W : Nat) (x y : Int) : Int := if left = true then x * ((2 ^ (2 * W) : Nat) : Int) + y * ((2 ^ W : Nat) : Int) + y else y * ((2 ^ (2 * W) : Nat) : Int) + y * ((2 ^ W : Nat) : Int) + x

def dR (left : Bool) (W : Nat) (x y : Int) (k : Nat) : Int := dN left W x y / ((2 ^ (if left = true then 2 * W - k else k) : Nat) : Int) % ((2 ^ W : Nat) : Int)

def dC (left : Bool) (W : Nat) (x y : Int) (k : Nat) : Bool := tb (dN left W x y) (if left = true then 3 * W - k else k - 1)

def dV (left : Bool) (W : Nat) (x y : Int) (k : Nat) : Bool := tb x (W - 1) != tb (dR left W x y k) (W - 1)

def dF (left : Bool) (H : Int) (W : Nat) (x y : Int) (k : Nat) (f : Int) : Int := byF H (dR left W x y k) (setF (setF (setF f 1 (dC left W x y k)) 2048 (dV left W x y k)) 16 false)

theorem or_add {x y : Int} (i : Nat) (x0 : 0 ≤ x) (x1 : x < 18446744073709551616) (y0 : 0 ≤ y) (y1 : y < 18446744073709551616) (hx : x % ((2 ^ i : Nat) : Int) = 0) (hy : y < ((2 ^ i : Nat) : Int)) : bits .or .u64 x y = x + y := by
  obtain ⟨m, rfl⟩ := Int.eq_ofNat_of_zero_le x0
  obtain ⟨n, rfl⟩ := Int.eq_ofNat_of_zero_le y0
  rw [← Int.natCast_emod] at hx
  rw [u64_or_nat _ _ (by omega) (by omega), nat_join i m n (by omega) (by omega)]
  omega

theorem or_add' {x y : Int} (i : Nat) (x0 : 0 ≤ x) (x1 : x < 18446744073709551616) (y0 : 0 ≤ y) (y1 : y < 18446744073709551616) (hy : y % ((2 ^ i : Nat) : Int) = 0) (hx : x < ((2 ^ i : Nat) : Int)) : bits .or .u64 x y = x + y := by
  obtain ⟨m, rfl⟩ := Int.eq_ofNat_of_zero_le x0
  obtain ⟨n, rfl⟩ := Int.eq_ofNat_of_zero_le y0
  rw [← Int.natCast_emod] at hy
  rw [u64_or_nat _ _ (by omega) (by omega), Nat.or_comm, nat_join i n m (by omega) (by omega)]
  omega

theorem tb_lo {x : Int} (x0 : 0 ≤ x) (y : Int) (y0 : 0 ≤ y) (j i : Nat) (hi : i < j) : tb (x + y * ((2 ^ j : Nat) : Int)) i = tb x i := by
  have h := tb_mod (x := x + y * ((2 ^ j : Nat) : Int)) (by have := Int.mul_nonneg y0 (Int.le_of_lt (pw_pos j)); omega) j i
  rw [Int.add_mul_emod_self_right, tb_mod x0] at h
  simpa [hi] using h.symm

theorem tb_up {x : Int} (x0 : 0 ≤ x) (y : Int) (y0 : 0 ≤ y) (j i : Nat) (hx : x < ((2 ^ j : Nat) : Int)) : tb (x + y * ((2 ^ j : Nat) : Int)) (j + i) = tb y i := by
  have h := tb_shr (x := x + y * ((2 ^ j : Nat) : Int)) (by have := Int.mul_nonneg y0 (Int.le_of_lt (pw_pos j)); omega) j i
  rw [Int.add_mul_ediv_right _ _ (by have := pw_pos j; omega), Int.ediv_eq_zero_of_lt x0 hx, Int.zero_add] at h
  exact h.symm

theorem marked_at (r f : Int) (c v : Bool) (w : World) (f0 : 0 ≤ f) (f1 : f < 4294967296) :
    Calls Try.prog 18 #[.agg #[.int .u32 r, .int .u32 (flg c 1), .int .u32 (flg v 1)], .int .u32 f] w fun e w' => e = .returned (.int .u32 (setF (setF f 1 c) 2048 v)) ∧ w' = w.alloc (.cells #[.int .u32 r, .int .u32 (flg c 1), .int .u32 (flg v 1)] 40) := by
  have HC : Hid _ := mark_bits f0 f1 c v
  have e1 : flg true 1 = 1 := rfl
  have e0 : flg false 1 = 0 := rfl
  cases c <;> cases v
  all_goals
    simp only [e1, e0]
    go_enter Try.func18, Try.ntmps18
    go_wp2
    go_ret
    exact ⟨ret_int HC.out, rfl⟩

theorem double_any {s H M : Int} {W : Nat} (hS : Sw s H M W) (x r : Int) (c : Bool) (w : World) (x0 : 0 ≤ x) (x1 : x < M) (r0 : 0 ≤ r) (r1 : r < M) :
    Calls Try.prog 47 #[.int .u64 (W : Int), .int .u32 x, .int .u32 r, .int .u32 (flg c 1)] w fun e w' =>
      e = .returned (.agg #[.int .u32 r, .int .u32 (flg c 1), .int .u32 (flg (tb x (W - 1) != tb r (W - 1)) 1)]) ∧ w' = w.alloc (.cells #[.int .u32 r, .int .u32 (flg c 1), .int .u32 (flg (tb x (W - 1) != tb r (W - 1)) 1)] 40) := by
  have mt := hS.pow.2.2.2.2.1
  have r2 : r < 4294967296 := by omega
  have x2 : x < 4294967296 := by omega
  have hx := xor_flg (tb x (W - 1)) (tb r (W - 1))
  go_enter Try.func47, Try.ntmps47
  go_wp2_with (go_at_call 30; refine (top_any hS _ _ (by assumption) (by assumption)).mono ?_; rintro e w' ⟨rfl, hw⟩; replace hw := hw.symm; subst hw)
  exact bodyPost_ret (v := .agg #[.int .u32 r, .int .u32 (flg c 1), .int .u32 (flg (tb x (W - 1) != tb r (W - 1)) 1)]) (by simp [results, Try.results47, go_sem]) rfl ⟨rfl, rfl⟩

theorem dR_bd (left : Bool) (W : Nat) (x y : Int) (k : Nat) : 0 ≤ dR left W x y k ∧ dR left W x y k < ((2 ^ W : Nat) : Int) := mod_bd (pw_pos W) _

theorem right16 {x y : Int} {k : Nat} (x0 : 0 ≤ x) (x1 : x < 65536) (y0 : 0 ≤ y) (y1 : y < 65536) (k1 : 1 ≤ k) (k2 : k ≤ 31) :
    (x + y * 65536 + y * 4294967296 + y * 281474976710656) / ((2 ^ k : Nat) : Int) % 65536 = dR false 16 x y k ∧ tb (x + y * 65536 + y * 4294967296 + y * 281474976710656) (k - 1) = dC false 16 x y k := by
  have e : x + y * 65536 + y * 4294967296 + y * 281474976710656 = dN false 16 x y + y * ((2 ^ 48 : Nat) : Int) := by
    show _ = y * 4294967296 + y * 65536 + x + y * 281474976710656
    omega
  have n0 : 0 ≤ dN false 16 x y := by show 0 ≤ y * 4294967296 + y * 65536 + x; omega
  have lo : ∀ i, i < 48 → tb (dN false 16 x y + y * ((2 ^ 48 : Nat) : Int)) i = tb (dN false 16 x y) i := fun i hi => tb_lo n0 y y0 48 i hi
  have m0 : 0 ≤ dN false 16 x y + y * ((2 ^ 48 : Nat) : Int) := by rw [← e]; omega
  rw [e]
  unfold dR dC
  generalize dN false 16 x y = N at *
  refine ⟨?_, lo _ (by omega)⟩
  refine tb_ext (mod_bd (by decide) _).1 (mod_bd (pw_pos 16) _).1 fun i => ?_
  have d0 := Int.ediv_nonneg m0 (Int.le_of_lt (pw_pos k))
  have d1 := Int.ediv_nonneg n0 (Int.le_of_lt (pw_pos k))
  have h := tb_mod d0 16 i
  have h2 : tb (N / ((2 ^ k : Nat) : Int) % ((2 ^ 16 : Nat) : Int)) i = _ := tb_mod d1 16 i
  rw [tb_shr m0] at h
  rw [tb_shr n0] at h2
  refine h.trans (Eq.trans ?_ h2.symm)
  by_cases hi : i < 16
  · rw [lo _ (by omega)]
  · simp [hi]

theorem right32 {x y : Int} {k : Nat} (x0 : 0 ≤ x) (x1 : x < 4294967296) (y0 : 0 ≤ y) (y1 : y < 4294967296) (k1 : 1 ≤ k) (k2 : k ≤ 31) :
    (x + y * 4294967296) / ((2 ^ k : Nat) : Int) % 4294967296 = dR false 32 x y k ∧ tb (x + y * 4294967296) (k - 1) = dC false 32 x y k := by
  have e : dN false 32 x y = x + y * 4294967296 + y * ((2 ^ 64 : Nat) : Int) := by
    show y * 18446744073709551616 + y * 4294967296 + x = x + y * 4294967296 + y * 18446744073709551616
    omega
  have n0 : 0 ≤ x + y * 4294967296 := by omega
  have lo : ∀ i, i < 64 → tb (x + y * 4294967296 + y * ((2 ^ 64 : Nat) : Int)) i = tb (x + y * 4294967296) i := fun i hi => tb_lo n0 y y0 64 i hi
  have m0 : 0 ≤ x + y * 4294967296 + y * ((2 ^ 64 : Nat) : Int) := by
    show 0 ≤ x + y * 4294967296 + y * 18446744073709551616
    omega
  unfold dR dC
  rw [e]
  generalize x + y * 4294967296 = N at *
  refine ⟨?_, (lo _ (by omega)).symm⟩
  refine tb_ext (mod_bd (by decide) _).1 (mod_bd (pw_pos 32) _).1 fun i => ?_
  have d0 := Int.ediv_nonneg m0 (Int.le_of_lt (pw_pos k))
  have d1 := Int.ediv_nonneg n0 (Int.le_of_lt (pw_pos k))
  have h := tb_mod d1 32 i
  have h2 : tb ((N + y * ((2 ^ 64 : Nat) : Int)) / ((2 ^ k : Nat) : Int) % ((2 ^ 32 : Nat) : Int)) i = _ := tb_mod d0 32 i
  rw [tb_shr n0] at h
  rw [tb_shr m0] at h2
  refine h.trans (Eq.trans ?_ h2.symm)
  by_cases hi : i < 32
  · rw [lo _ (by omega)]
  · simp [hi]

theorem shl_wrap {n : Int} (n0 : 0 ≤ n) (k j i : Nat) : tb (n * ((2 ^ k : Nat) : Int) % 18446744073709551616 / ((2 ^ j : Nat) : Int)) i = (decide (j + i < 64) && (decide (k ≤ j + i) && tb n (j + i - k))) := by
  have p := pw_pos k
  have h0 : 0 ≤ n * ((2 ^ k : Nat) : Int) := Int.mul_nonneg n0 (by omega)
  have h := tb_mod h0 64 (j + i)
  rw [tb_shl n0] at h
  rw [tb_shr (mod_bd (by decide) _).1]
  exact h

theorem left16 {x y : Int} {k : Nat} (x0 : 0 ≤ x) (x1 : x < 65536) (y0 : 0 ≤ y) (y1 : y < 65536) (k1 : 1 ≤ k) (k2 : k ≤ 31) :
    (x * 281474976710656 + y * 4294967296 + y * 65536 + y) * ((2 ^ k : Nat) : Int) % 18446744073709551616 / 281474976710656 = dR true 16 x y k ∧ tb (x * 281474976710656 + y * 4294967296 + y * 65536 + y) (64 - k) = dC true 16 x y k := by
  have e : x * 281474976710656 + y * 4294967296 + y * 65536 + y = y + dN true 16 x y * ((2 ^ 16 : Nat) : Int) := by
    show _ = y + (x * 4294967296 + y * 65536 + y) * 65536
    omega
  have n0 : 0 ≤ dN true 16 x y := by show 0 ≤ x * 4294967296 + y * 65536 + y; omega
  have up : ∀ i, tb (y + dN true 16 x y * ((2 ^ 16 : Nat) : Int)) (16 + i) = tb (dN true 16 x y) i := fun i => tb_up y0 _ n0 16 i y1
  have m0 : 0 ≤ y + dN true 16 x y * ((2 ^ 16 : Nat) : Int) := by rw [← e]; omega
  rw [e]
  unfold dR dC
  generalize dN true 16 x y = N at *
  refine ⟨?_, ?_⟩
  · refine tb_ext (Int.ediv_nonneg (mod_bd (by decide) _).1 (by decide)) (mod_bd (pw_pos 16) _).1 fun i => ?_
    have h := shl_wrap m0 k 48 i
    have d1 := Int.ediv_nonneg n0 (Int.le_of_lt (pw_pos (2 * 16 - k)))
    have h2 : tb (N / ((2 ^ (2 * 16 - k) : Nat) : Int) % ((2 ^ 16 : Nat) : Int)) i = _ := tb_mod d1 16 i
    rw [tb_shr n0] at h2
    refine h.trans (Eq.trans ?_ h2.symm)
    by_cases hi : i < 16
    · rw [show 48 + i - k = 16 + (2 * 16 - k + i) by omega, up, decide_eq_true (by omega : 48 + i < 64), decide_eq_true (by omega : k ≤ 48 + i), decide_eq_true hi]; rfl
    · rw [decide_eq_false (by omega : ¬ 48 + i < 64), decide_eq_false hi]; rfl
  · show tb (y + N * ((2 ^ 16 : Nat) : Int)) (64 - k) = tb N (3 * 16 - k)
    rw [show 64 - k = 16 + (3 * 16 - k) by omega, up]

theorem left32 {x y : Int} {k : Nat} (x0 : 0 ≤ x) (x1 : x < 4294967296) (y0 : 0 ≤ y) (y1 : y < 4294967296) (k1 : 1 ≤ k) (k2 : k ≤ 31) :
    (x * 4294967296 + y) * ((2 ^ k : Nat) : Int) % 18446744073709551616 / 4294967296 = dR true 32 x y k ∧ tb (x * 4294967296 + y) (64 - k) = dC true 32 x y k := by
  have e : dN true 32 x y = y + (x * 4294967296 + y) * ((2 ^ 32 : Nat) : Int) := by
    show x * 18446744073709551616 + y * 4294967296 + y = y + (x * 4294967296 + y) * 4294967296
    omega
  have n0 : 0 ≤ x * 4294967296 + y := by omega
  have up : ∀ i, tb (y + (x * 4294967296 + y) * ((2 ^ 32 : Nat) : Int)) (32 + i) = tb (x * 4294967296 + y) i := fun i => tb_up y0 _ n0 32 i y1
  have m0 : 0 ≤ y + (x * 4294967296 + y) * ((2 ^ 32 : Nat) : Int) := by
    show 0 ≤ y + (x * 4294967296 + y) * 4294967296
    omega
  unfold dR dC
  rw [e]
  generalize x * 4294967296 + y = N at *
  refine ⟨?_, ?_⟩
  · refine tb_ext (Int.ediv_nonneg (mod_bd (by decide) _).1 (by decide)) (mod_bd (pw_pos 32) _).1 fun i => ?_
    have h := shl_wrap n0 k 32 i
    have d1 := Int.ediv_nonneg m0 (Int.le_of_lt (pw_pos (2 * 32 - k)))
    have h2 : tb ((y + N * ((2 ^ 32 : Nat) : Int)) / ((2 ^ (2 * 32 - k) : Nat) : Int) % ((2 ^ 32 : Nat) : Int)) i = _ := tb_mod d1 32 i
    rw [tb_shr m0] at h2
    refine h.trans (Eq.trans ?_ h2.symm)
    by_cases hi : i < 32
    · rw [show 2 * 32 - k + i = 32 + (32 + i - k) by omega, up, decide_eq_true (by omega : 32 + i < 64), decide_eq_true (by omega : k ≤ 32 + i), decide_eq_true hi]; rfl
    · rw [decide_eq_false (by omega : ¬ 32 + i < 64), decide_eq_false hi]; rfl
  · show tb N (64 - k) = tb (y + N * ((2 ^ 32 : Nat) : Int)) (3 * 32 - k)
    rw [show 3 * 32 - k = 32 + (64 - k) by omega, up]

theorem low_of {n : Int} (n0 : 0 ≤ n) (n1 : n < 18446744073709551616) (j : Nat) : bits .and .u64 (n / 2 ^ j) 1 = flg (tb n j) 1 := by
  rw [pw_cast]
  have b := div_bd n0 n1 j
  rw [and64_1 b.1 b.2, flg_tb n0 j]

theorem doubleRight_16 (x y : Int) (k : Nat) (w : World) (x0 : 0 ≤ x) (x1 : x < 65536) (y0 : 0 ≤ y) (y1 : y < 65536) (k1 : 1 ≤ k) (k2 : k ≤ 31) :
    Calls Try.prog 24 #[.int .u64 16, .int .u32 x, .int .u32 y, .int .u32 (k : Int)] w fun e w' =>
      e = .returned (.agg #[.int .u32 (dR false 16 x y k), .int .u32 (flg (dC false 16 x y k) 1), .int .u32 (flg (dV false 16 x y k) 1)]) ∧
      w' = (w.alloc (.cells #[.int .u32 (dR false 16 x y k), .int .u32 (flg (dC false 16 x y k) 1), .int .u32 (flg (dV false 16 x y k) 1)] 40)).alloc (.cells #[.int .u32 (dR false 16 x y k), .int .u32 (flg (dC false 16 x y k) 1), .int .u32 (flg (dV false 16 x y k) 1)] 40) := by
  have q0 : bits .or .u64 (x) (y * 65536) = x + y * 65536 := or_add' 16 (by omega) (by omega) (by omega) (by omega) (by simp) (by simp; omega)
  have q1 : bits .or .u64 (x + y * 65536) (y * 4294967296) = x + y * 65536 + y * 4294967296 := or_add' 32 (by omega) (by omega) (by omega) (by omega) (by simp) (by simp; omega)
  have q2 : bits .or .u64 (x + y * 65536 + y * 4294967296) (y * 281474976710656) = x + y * 65536 + y * 4294967296 + y * 281474976710656 := or_add' 48 (by omega) (by omega) (by omega) (by omega) (by simp) (by simp; omega)
  have hE := right16 x0 x1 y0 y1 k1 k2
  have rb := dR_bd false 16 x y k
  have hn0 : 0 ≤ x + y * 65536 + y * 4294967296 + y * 281474976710656 := by omega
  have hn1 : x + y * 65536 + y * 4294967296 + y * 281474976710656 < 18446744073709551616 := by omega
  have HE : Hid _ := hE
  have HR : Hid (0 ≤ dR false 16 x y k ∧ dR false 16 x y k < 65536) := rb
  have HN : Hid _ := hn0
  have HM : Hid _ := hn1
  clear hE rb hn0 hn1
  have hS : Sw 2 32768 65536 16 := Or.inr (Or.inl ⟨rfl, rfl, rfl, rfl⟩)
  go_enter Try.func24, Try.ntmps24
  go_wp2
  go_loop [9, 10] (fun n l => (n = .int .u64 (x) ∧ l = .int .u64 16) ∨ (n = .int .u64 (x + y * 65536) ∧ l = .int .u64 32) ∨ (n = .int .u64 (x + y * 65536 + y * 4294967296) ∧ l = .int .u64 48) ∨ (n = .int .u64 (x + y * 65536 + y * 4294967296 + y * 281474976710656) ∧ l = .int .u64 64)) (fun _ l => 64 - (intOf l).toNat)
  case atStart => exact Or.inl ⟨rfl, rfl⟩
  case round =>
    rcases hrel with ⟨rfl, rfl⟩ | ⟨rfl, rfl⟩ | ⟨rfl, rfl⟩ | ⟨rfl, rfl⟩
    · go_wp2
      exact ⟨Or.inr (Or.inl ⟨rfl, rfl⟩), by decide⟩
    · go_wp2
      exact ⟨Or.inr (Or.inr (Or.inl ⟨rfl, rfl⟩)), by decide⟩
    · go_wp2
      exact ⟨Or.inr (Or.inr (Or.inr (⟨rfl, rfl⟩))), by decide⟩
    · clear q0 q1 q2
      have he := HE.out
      have n0 := HN.out
      have n1 := HM.out
      clear HE HN HM
      revert he n0 n1
      generalize x + y * 65536 + y * 4294967296 + y * 281474976710656 = n
      intro he n0 n1
      have r0 := HR.out.1
      have r1 := HR.out.2
      have e1 : n / 2 ^ k % 65536 = dR false 16 x y k := by rw [pw_cast]; exact he.1
      have e2 : bits .and .u64 (n / 2 ^ (k - 1)) 1 = flg (dC false 16 x y k) 1 := by rw [low_of n0 n1, he.2]
      have e3 := flg1_mod (dC false 16 x y k)
      have d := div_bd n0 n1 k
      have d0 : 0 ≤ n / 2 ^ k := by rw [pw_cast]; exact d.1
      have d1 : n / 2 ^ k < 18446744073709551616 := by rw [pw_cast]; exact d.2
      clear he d
      go_wp2_with (first
        | (go_at_call 15; refine (cut_any hS _ _ d0 d1).mono ?_; rintro e w' ⟨rfl, hw⟩; replace hw := hw.symm; subst hw)
        | (go_at_call 47; refine (double_any hS _ _ _ _ x0 x1 r0 r1).mono ?_; rintro e w' ⟨rfl, hw⟩; replace hw := hw.symm; subst hw))
      exact bodyPost_ret (v := .agg #[.int .u32 (dR false 16 x y k), .int .u32 (flg (dC false 16 x y k) 1), .int .u32 (flg (dV false 16 x y k) 1)]) (by simp [results, Try.results24, go_sem, dV]) rfl ⟨rfl, rfl⟩

theorem doubleRight_32 (x y : Int) (k : Nat) (w : World) (x0 : 0 ≤ x) (x1 : x < 4294967296) (y0 : 0 ≤ y) (y1 : y < 4294967296) (k1 : 1 ≤ k) (k2 : k ≤ 31) :
    Calls Try.prog 24 #[.int .u64 32, .int .u32 x, .int .u32 y, .int .u32 (k : Int)] w fun e w' =>
      e = .returned (.agg #[.int .u32 (dR false 32 x y k), .int .u32 (flg (dC false 32 x y k) 1), .int .u32 (flg (dV false 32 x y k) 1)]) ∧
      w' = (w.alloc (.cells #[.int .u32 (dR false 32 x y k), .int .u32 (flg (dC false 32 x y k) 1), .int .u32 (flg (dV false 32 x y k) 1)] 40)).alloc (.cells #[.int .u32 (dR false 32 x y k), .int .u32 (flg (dC false 32 x y k) 1), .int .u32 (flg (dV false 32 x y k) 1)] 40) := by
  have q0 : bits .or .u64 (x) (y * 4294967296) = x + y * 4294967296 := or_add' 32 (by omega) (by omega) (by omega) (by omega) (by simp) (by simp; omega)
  have hE := right32 x0 x1 y0 y1 k1 k2
  have rb := dR_bd false 32 x y k
  have hn0 : 0 ≤ x + y * 4294967296 := by omega
  have hn1 : x + y * 4294967296 < 18446744073709551616 := by omega
  have HE : Hid _ := hE
  have HR : Hid (0 ≤ dR false 32 x y k ∧ dR false 32 x y k < 4294967296) := rb
  have HN : Hid _ := hn0
  have HM : Hid _ := hn1
  clear hE rb hn0 hn1
  have hS : Sw 4 2147483648 4294967296 32 := Or.inr (Or.inr ⟨rfl, rfl, rfl, rfl⟩)
  go_enter Try.func24, Try.ntmps24
  go_wp2
  go_loop [9, 10] (fun n l => (n = .int .u64 (x) ∧ l = .int .u64 32) ∨ (n = .int .u64 (x + y * 4294967296) ∧ l = .int .u64 64)) (fun _ l => 64 - (intOf l).toNat)
  case atStart => exact Or.inl ⟨rfl, rfl⟩
  case round =>
    rcases hrel with ⟨rfl, rfl⟩ | ⟨rfl, rfl⟩
    · go_wp2
      exact ⟨Or.inr (⟨rfl, rfl⟩), by decide⟩
    · clear q0
      have he := HE.out
      have n0 := HN.out
      have n1 := HM.out
      clear HE HN HM
      revert he n0 n1
      generalize x + y * 4294967296 = n
      intro he n0 n1
      have r0 := HR.out.1
      have r1 := HR.out.2
      have e1 : n / 2 ^ k % 4294967296 = dR false 32 x y k := by rw [pw_cast]; exact he.1
      have e2 : bits .and .u64 (n / 2 ^ (k - 1)) 1 = flg (dC false 32 x y k) 1 := by rw [low_of n0 n1, he.2]
      have e3 := flg1_mod (dC false 32 x y k)
      have d := div_bd n0 n1 k
      have d0 : 0 ≤ n / 2 ^ k := by rw [pw_cast]; exact d.1
      have d1 : n / 2 ^ k < 18446744073709551616 := by rw [pw_cast]; exact d.2
      clear he d
      go_wp2_with (first
        | (go_at_call 15; refine (cut_any hS _ _ d0 d1).mono ?_; rintro e w' ⟨rfl, hw⟩; replace hw := hw.symm; subst hw)
        | (go_at_call 47; refine (double_any hS _ _ _ _ x0 x1 r0 r1).mono ?_; rintro e w' ⟨rfl, hw⟩; replace hw := hw.symm; subst hw))
      exact bodyPost_ret (v := .agg #[.int .u32 (dR false 32 x y k), .int .u32 (flg (dC false 32 x y k) 1), .int .u32 (flg (dV false 32 x y k) 1)]) (by simp [results, Try.results24, go_sem, dV]) rfl ⟨rfl, rfl⟩

theorem doubleLeft_16 (x y : Int) (k : Nat) (w : World) (x0 : 0 ≤ x) (x1 : x < 65536) (y0 : 0 ≤ y) (y1 : y < 65536) (k1 : 1 ≤ k) (k2 : k ≤ 31) :
    Calls Try.prog 25 #[.int .u64 16, .int .u32 x, .int .u32 y, .int .u32 (k : Int)] w fun e w' =>
      e = .returned (.agg #[.int .u32 (dR true 16 x y k), .int .u32 (flg (dC true 16 x y k) 1), .int .u32 (flg (dV true 16 x y k) 1)]) ∧
      w' = (w.alloc (.cells #[.int .u32 (dR true 16 x y k), .int .u32 (flg (dC true 16 x y k) 1), .int .u32 (flg (dV true 16 x y k) 1)] 40)).alloc (.cells #[.int .u32 (dR true 16 x y k), .int .u32 (flg (dC true 16 x y k) 1), .int .u32 (flg (dV true 16 x y k) 1)] 40) := by
  have q0 : bits .or .u64 (x * 281474976710656) (y * 4294967296) = x * 281474976710656 + y * 4294967296 := or_add 48 (by omega) (by omega) (by omega) (by omega) (by simp <;> omega) (by simp <;> omega)
  have q1 : bits .or .u64 (x * 281474976710656 + y * 4294967296) (y * 65536) = x * 281474976710656 + y * 4294967296 + y * 65536 := or_add 32 (by omega) (by omega) (by omega) (by omega) (by simp <;> omega) (by simp <;> omega)
  have q2 : bits .or .u64 (x * 281474976710656 + y * 4294967296 + y * 65536) (y) = x * 281474976710656 + y * 4294967296 + y * 65536 + y := or_add 16 (by omega) (by omega) (by omega) (by omega) (by simp <;> omega) (by simp <;> omega)
  have hE := left16 x0 x1 y0 y1 k1 k2
  have rb := dR_bd true 16 x y k
  have hn0 : 0 ≤ x * 281474976710656 + y * 4294967296 + y * 65536 + y := by omega
  have hn1 : x * 281474976710656 + y * 4294967296 + y * 65536 + y < 18446744073709551616 := by omega
  have HE : Hid _ := hE
  have HR : Hid (0 ≤ dR true 16 x y k ∧ dR true 16 x y k < 65536) := rb
  have HN : Hid _ := hn0
  have HM : Hid _ := hn1
  clear hE rb hn0 hn1
  have hS : Sw 2 32768 65536 16 := Or.inr (Or.inl ⟨rfl, rfl, rfl, rfl⟩)
  go_enter Try.func25, Try.ntmps25
  go_wp2
  go_loop [9, 10] (fun n l => (n = .int .u64 (x * 281474976710656) ∧ l = .int .u64 48) ∨ (n = .int .u64 (x * 281474976710656 + y * 4294967296) ∧ l = .int .u64 32) ∨ (n = .int .u64 (x * 281474976710656 + y * 4294967296 + y * 65536) ∧ l = .int .u64 16) ∨ (n = .int .u64 (x * 281474976710656 + y * 4294967296 + y * 65536 + y) ∧ l = .int .u64 0)) (fun _ l => (intOf l).toNat)
  case atStart => exact Or.inl ⟨rfl, rfl⟩
  case round =>
    rcases hrel with ⟨rfl, rfl⟩ | ⟨rfl, rfl⟩ | ⟨rfl, rfl⟩ | ⟨rfl, rfl⟩
    · go_wp2
      exact ⟨Or.inr (Or.inl ⟨rfl, rfl⟩), by decide⟩
    · go_wp2
      exact ⟨Or.inr (Or.inr (Or.inl ⟨rfl, rfl⟩)), by decide⟩
    · go_wp2
      exact ⟨Or.inr (Or.inr (Or.inr (⟨rfl, rfl⟩))), by decide⟩
    · clear q0 q1 q2
      have he := HE.out
      have n0 := HN.out
      have n1 := HM.out
      clear HE HN HM
      revert he n0 n1
      generalize x * 281474976710656 + y * 4294967296 + y * 65536 + y = n
      intro he n0 n1
      have r0 := HR.out.1
      have r1 := HR.out.2
      have e1 : IntKind.u64.wrap (n * 2 ^ k) / 281474976710656 = dR true 16 x y k := by rw [pw_cast, wrap_u64']; exact he.1
      have e2 : bits .and .u64 (n / 2 ^ (64 - k)) 1 = flg (dC true 16 x y k) 1 := by rw [low_of n0 n1, he.2]
      have e3 := flg1_mod (dC true 16 x y k)
      clear he
      go_wp2_with (go_at_call 47; refine (double_any hS _ _ _ _ x0 x1 r0 r1).mono ?_; rintro e w' ⟨rfl, hw⟩; replace hw := hw.symm; subst hw)
      exact bodyPost_ret (v := .agg #[.int .u32 (dR true 16 x y k), .int .u32 (flg (dC true 16 x y k) 1), .int .u32 (flg (dV true 16 x y k) 1)]) (by simp [results, Try.results25, go_sem, dV]) rfl ⟨rfl, rfl⟩

theorem doubleLeft_32 (x y : Int) (k : Nat) (w : World) (x0 : 0 ≤ x) (x1 : x < 4294967296) (y0 : 0 ≤ y) (y1 : y < 4294967296) (k1 : 1 ≤ k) (k2 : k ≤ 31) :
    Calls Try.prog 25 #[.int .u64 32, .int .u32 x, .int .u32 y, .int .u32 (k : Int)] w fun e w' =>
      e = .returned (.agg #[.int .u32 (dR true 32 x y k), .int .u32 (flg (dC true 32 x y k) 1), .int .u32 (flg (dV true 32 x y k) 1)]) ∧
      w' = (w.alloc (.cells #[.int .u32 (dR true 32 x y k), .int .u32 (flg (dC true 32 x y k) 1), .int .u32 (flg (dV true 32 x y k) 1)] 40)).alloc (.cells #[.int .u32 (dR true 32 x y k), .int .u32 (flg (dC true 32 x y k) 1), .int .u32 (flg (dV true 32 x y k) 1)] 40) := by
  have q0 : bits .or .u64 (x * 4294967296) (y) = x * 4294967296 + y := or_add 32 (by omega) (by omega) (by omega) (by omega) (by simp <;> omega) (by simp <;> omega)
  have hE := left32 x0 x1 y0 y1 k1 k2
  have rb := dR_bd true 32 x y k
  have hn0 : 0 ≤ x * 4294967296 + y := by omega
  have hn1 : x * 4294967296 + y < 18446744073709551616 := by omega
  have HE : Hid _ := hE
  have HR : Hid (0 ≤ dR true 32 x y k ∧ dR true 32 x y k < 4294967296) := rb
  have HN : Hid _ := hn0
  have HM : Hid _ := hn1
  clear hE rb hn0 hn1
  have hS : Sw 4 2147483648 4294967296 32 := Or.inr (Or.inr ⟨rfl, rfl, rfl, rfl⟩)
  go_enter Try.func25, Try.ntmps25
  go_wp2
  go_loop [9, 10] (fun n l => (n = .int .u64 (x * 4294967296) ∧ l = .int .u64 32) ∨ (n = .int .u64 (x * 4294967296 + y) ∧ l = .int .u64 0)) (fun _ l => (intOf l).toNat)
  case atStart => exact Or.inl ⟨rfl, rfl⟩
  case round =>
    rcases hrel with ⟨rfl, rfl⟩ | ⟨rfl, rfl⟩
    · go_wp2
      exact ⟨Or.inr (⟨rfl, rfl⟩), by decide⟩
    · clear q0
      have he := HE.out
      have n0 := HN.out
      have n1 := HM.out
      clear HE HN HM
      revert he n0 n1
      generalize x * 4294967296 + y = n
      intro he n0 n1
      have r0 := HR.out.1
      have r1 := HR.out.2
      have e1 : IntKind.u64.wrap (n * 2 ^ k) / 4294967296 = dR true 32 x y k := by rw [pw_cast, wrap_u64']; exact he.1
      have e2 : bits .and .u64 (n / 2 ^ (64 - k)) 1 = flg (dC true 32 x y k) 1 := by rw [low_of n0 n1, he.2]
      have e3 := flg1_mod (dC true 32 x y k)
      clear he
      go_wp2_with (go_at_call 47; refine (double_any hS _ _ _ _ x0 x1 r0 r1).mono ?_; rintro e w' ⟨rfl, hw⟩; replace hw := hw.symm; subst hw)
      exact bodyPost_ret (v := .agg #[.int .u32 (dR true 32 x y k), .int .u32 (flg (dC true 32 x y k) 1), .int .u32 (flg (dV true 32 x y k) 1)]) (by simp [results, Try.results25, go_sem, dV]) rfl ⟨rfl, rfl⟩

end Go.Proofs.Ytnfbflbghlmdjaa
