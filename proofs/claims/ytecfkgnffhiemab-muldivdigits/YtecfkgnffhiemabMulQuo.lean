/- Contracts of package muldiv's divisions: for every input within their kinds they return what is named, and the world has at most new blocks. -/
import Derived.Test.YtecfkgnffhiemabMulHalf
namespace Go.Proofs.Ytecfkgnffhiemab
open Go.ChangeShapes Go.WideShapes Go.ChangeAt Go.RowKit
set_option linter.unusedVariables false

theorem join64 {x y : Int} (i : Nat) (x0 : 0 ≤ x) (x1 : x < 18446744073709551616) (y0 : 0 ≤ y) (y1 : y < 18446744073709551616) (hx : x % ((2 ^ i : Nat) : Int) = 0) (hy : y < ((2 ^ i : Nat) : Int)) : bits .or .u64 x y = x + y := by
  obtain ⟨m, rfl⟩ := Int.eq_ofNat_of_zero_le x0
  obtain ⟨n, rfl⟩ := Int.eq_ofNat_of_zero_le y0
  rw [← Int.natCast_emod] at hx
  have h1 : m = 2 ^ i * (m / 2 ^ i) := by
    have := Nat.div_add_mod m (2 ^ i)
    omega
  have h2 : n < 2 ^ i := by omega
  rw [u64_or_nat _ _ (by omega) (by omega), h1, ← Nat.two_pow_add_eq_or_of_lt h2]
  omega

theorem whole_is {s H M : Int} {W : Nat} (hS : Sw s H M W) (lo hi : Int) : bits .or .u64 (hi % M * M) (lo % M) = divN M lo hi := by
  have p := hS.pow
  have h1 := mod_bd p.2.2.2.2.2.1 lo
  have h2 := mod_bd p.2.2.2.2.2.1 hi
  have b := mul_nn (A := 4294967295) (B := 4294967296) h2.1 (by omega) (Int.le_of_lt p.2.2.2.2.2.1) p.2.2.2.2.1
  unfold divN
  refine join64 W b.1 (by omega) h1.1 (by omega) ?_ (by rw [← p.1]; exact h1.2)
  rw [← p.1]
  exact Int.mul_emod_left _ _

theorem mdWhole_any {s H M : Int} {W : Nat} (hS : Sw s H M W) (lo hi : Int) (w : World) (l0 : 0 ≤ lo) (l1 : lo < 4294967296) (h0 : 0 ≤ hi) (h1 : hi < 4294967296) :
    Calls Try.prog 20 #[.agg #[.int .i64 s, .int .u64 (W : Int)], .int .u32 lo, .int .u32 hi] w fun e w' => e = .returned (.int .u64 (divN M lo hi)) ∧ Grown w w' := by
  have HE : Hid _ := whole_is hS lo hi
  have wl : IntKind.u64.wrap lo = lo := by rw [wrap_u64']; omega
  have wh : IntKind.u64.wrap hi = hi := by rw [wrap_u64']; omega
  have hS' := hS
  rcases hS with ⟨rfl, rfl, rfl, rfl⟩ | ⟨rfl, rfl, rfl, rfl⟩ | ⟨rfl, rfl, rfl, rfl⟩
  · have d0 : 0 ≤ hi % 256 := by omega
    have d1 : hi % 256 < 256 := by omega
    have d2 : 0 ≤ lo % 256 := by omega
    have d3 : lo % 256 < 256 := by omega
    have e1 : IntKind.u64.wrap (hi % 256) = hi % 256 := by rw [wrap_u64']; omega
    have e2 : IntKind.u64.wrap (hi % 256 * 256) = hi % 256 * 256 := by rw [wrap_u64']; omega
    have e3 : IntKind.u64.wrap (lo % 256) = lo % 256 := by rw [wrap_u64']; omega
    go_enter Try.func20, Try.ntmps20
    go_wp2
    go_region_held3 (fun w' => w'.cell? ⟨w.heap.size, 0, none⟩ = some (.int .i64 1) ∧ w'.cell? ⟨w.heap.size, 1, none⟩ = some (.int .u64 8))
      (simp [go_sem])
      ((go_at_call 17; refine (mdCut_any hS' _ _ (by omega) (by omega)).mono ?_; rintro e w1 ⟨rfl, hw⟩; replace hw := hw.symm; subst hw))
    go_wp2
    go_ret
    refine ⟨ret_int HE.out, ?_⟩
    repeat (first | exact Grown.refl _ | apply Grown.drew | apply Grown.alloc)
  · have d0 : 0 ≤ hi % 65536 := by omega
    have d1 : hi % 65536 < 65536 := by omega
    have d2 : 0 ≤ lo % 65536 := by omega
    have d3 : lo % 65536 < 65536 := by omega
    have e1 : IntKind.u64.wrap (hi % 65536) = hi % 65536 := by rw [wrap_u64']; omega
    have e2 : IntKind.u64.wrap (hi % 65536 * 65536) = hi % 65536 * 65536 := by rw [wrap_u64']; omega
    have e3 : IntKind.u64.wrap (lo % 65536) = lo % 65536 := by rw [wrap_u64']; omega
    go_enter Try.func20, Try.ntmps20
    go_wp2
    go_region_held3 (fun w' => w'.cell? ⟨w.heap.size, 0, none⟩ = some (.int .i64 2) ∧ w'.cell? ⟨w.heap.size, 1, none⟩ = some (.int .u64 16))
      (simp [go_sem])
      ((go_at_call 17; refine (mdCut_any hS' _ _ (by omega) (by omega)).mono ?_; rintro e w1 ⟨rfl, hw⟩; replace hw := hw.symm; subst hw))
    go_wp2
    go_ret
    refine ⟨ret_int HE.out, ?_⟩
    repeat (first | exact Grown.refl _ | apply Grown.drew | apply Grown.alloc)
  · have d0 : 0 ≤ hi % 4294967296 := by omega
    have d1 : hi % 4294967296 < 4294967296 := by omega
    have d2 : 0 ≤ lo % 4294967296 := by omega
    have d3 : lo % 4294967296 < 4294967296 := by omega
    have e1 : IntKind.u64.wrap (hi % 4294967296) = hi % 4294967296 := by rw [wrap_u64']; omega
    have e2 : IntKind.u64.wrap (hi % 4294967296 * 4294967296) = hi % 4294967296 * 4294967296 := by rw [wrap_u64']; omega
    have e3 : IntKind.u64.wrap (lo % 4294967296) = lo % 4294967296 := by rw [wrap_u64']; omega
    go_enter Try.func20, Try.ntmps20
    go_wp2
    go_region_held3 (fun w' => w'.cell? ⟨w.heap.size, 0, none⟩ = some (.int .i64 4) ∧ w'.cell? ⟨w.heap.size, 1, none⟩ = some (.int .u64 32))
      (simp [go_sem])
      ((go_at_call 17; refine (mdCut_any hS' _ _ (by omega) (by omega)).mono ?_; rintro e w1 ⟨rfl, hw⟩; replace hw := hw.symm; subst hw))
    go_wp2
    go_ret
    refine ⟨ret_int HE.out, ?_⟩
    repeat (first | exact Grown.refl _ | apply Grown.drew | apply Grown.alloc)

theorem ret_iib {k l : IntKind} {a b c d : Int} {p q : Bool} (h : a = b) (g : c = d) (j : p = q) : Ending.returned (.tuple #[.int k a, .int l c, .bool p]) = .returned (.tuple #[.int k b, .int l d, .bool q]) := by rw [h, g, j]

theorem mdDivide_any {s H M : Int} {W : Nat} (hS : Sw s H M W) (n d : Int) (w : World) (n0 : 0 ≤ n) (n1 : n < 18446744073709551616) (d0 : 0 < d) (d1 : d < 4294967296) :
    Calls Try.prog 18 #[.agg #[.int .i64 s, .int .u64 (W : Int)], .int .u64 n, .int .u64 d] w fun e w' => e = .returned (.tuple #[.int .u64 (n / d), .int .u64 (n % d), .bool (decide (n / d < M))]) ∧ Grown w w' := by
  have p := hS.pow
  have q0 : 0 ≤ n / d := Int.ediv_nonneg n0 (by omega)
  have q1 : n / d < 18446744073709551616 := Int.lt_of_le_of_lt (Int.ediv_le_self _ n0) n1
  have r0 := (mod_bd d0 n).1
  have r1 := (mod_bd d0 n).2
  have c0 := (mod_bd p.2.2.2.2.2.1 (n / d)).1
  have c1 := (mod_bd p.2.2.2.2.2.1 (n / d)).2
  have wc : IntKind.u64.wrap (n / d % M) = n / d % M := by rw [wrap_u64']; omega
  have hd : d ≠ 0 := by omega
  have hd' : (d == 0) = false := by simp; omega
  have HE : Hid ((n / d == n / d % M) = decide (n / d < M)) := (by
    rw [Bool.eq_iff_iff]; simp only [beq_iff_eq, decide_eq_true_eq]
    constructor
    · intro h; omega
    · intro h; exact (Int.emod_eq_of_lt q0 h).symm : (n / d == n / d % M) = decide (n / d < M))
  clear p
  go_enter Try.func18, Try.ntmps18
  go_wp2
  go_region_held3 (fun w' => w'.cell? ⟨w.heap.size, 0, none⟩ = some (.int .i64 s) ∧ w'.cell? ⟨w.heap.size, 1, none⟩ = some (.int .u64 (W : Int)))
    (simp [go_sem])
    ((go_at_call 17; refine (mdCut_any hS _ _ q0 q1).mono ?_; rintro e w1 ⟨rfl, hw⟩; replace hw := hw.symm; subst hw))
  go_wp2
  exact bodyPost_ret (v := .tuple #[.int .u64 (n / d), .int .u64 (n.tmod d), .bool (n / d == n / d % M)]) (by simp [results, Try.results18, go_sem]) rfl
    ⟨ret_iib rfl (Int.tmod_eq_emod_of_nonneg n0) HE.out, by repeat (first | exact Grown.refl _ | apply Grown.drew | apply Grown.alloc)⟩
theorem tdiv_bd {a b : Int} (h0 : -9223372036854775808 ≤ a) (h1 : a < 9223372036854775808) : -9223372036854775808 ≤ a.tdiv b ∧ a.tdiv b ≤ 9223372036854775808 := by
  have h : (a.tdiv b).natAbs ≤ a.natAbs := by rw [Int.natAbs_tdiv]; exact Nat.div_le_self _ _
  omega

theorem fits_is {s H M : Int} {W : Nat} (hS : Sw s H M W) {T : Int} (h0 : -9223372036854775808 ≤ T) (h1 : T ≤ 9223372036854775808) :
    (wrap64 T == sgv M H (wrap64 T % 18446744073709551616 % M)) = (decide (-H ≤ T) && decide (T < H)) := by
  rw [Bool.eq_iff_iff]
  simp only [beq_iff_eq, Bool.and_eq_true, decide_eq_true_eq]
  rw [half_lo hS]
  unfold sgv wrap64
  have e : (T = 9223372036854775808 ∧ (T + 9223372036854775808) % 18446744073709551616 - 9223372036854775808 = -9223372036854775808) ∨ (T < 9223372036854775808 ∧ (T + 9223372036854775808) % 18446744073709551616 - 9223372036854775808 = T) := by omega
  generalize (T + 9223372036854775808) % 18446744073709551616 - 9223372036854775808 = Q at e ⊢
  rcases hS with ⟨rfl, rfl, rfl, rfl⟩ | ⟨rfl, rfl, rfl, rfl⟩ | ⟨rfl, rfl, rfl, rfl⟩
  all_goals
    rcases e with ⟨h, rfl⟩ | ⟨h, rfl⟩
    · simp; omega
    · split <;> omega

/-- the quotient and what is left, as the code has them -/
def sqQ (M H n d : Int) : Int := IntKind.u64.wrap (wrap64 ((sgv (M * M) (H * M) n).tdiv (sgv M H d)))
def sqR (M H n d : Int) : Int := IntKind.u64.wrap ((sgv (M * M) (H * M) n).tmod (sgv M H d))
def sqO (M H n d : Int) : Bool := decide (-H ≤ (sgv (M * M) (H * M) n).tdiv (sgv M H d)) && decide ((sgv (M * M) (H * M) n).tdiv (sgv M H d) < H)

def isZ (z : Int) : Prop := z = 1 ∨ z = 2 ∨ z = 4 ∨ z = 8

/-- a value of so many bytes, signed -/
def sOf (z m : Int) : Int := if z = 1 then sgv 256 128 (m % 256) else if z = 2 then sgv 65536 32768 (m % 65536) else if z = 4 then sgv 4294967296 2147483648 (m % 4294967296) else sgv 18446744073709551616 9223372036854775808 m

theorem mdSignedG_any (z m : Int) (w : World) (hz : isZ z) (m0 : 0 ≤ m) (m1 : m < 18446744073709551616) :
    Calls Try.prog 33 #[.int .i64 z, .int .u64 m] w fun e w' => e = .returned (.int .i64 (sOf z m)) ∧ w' = w := by
  rcases hz with rfl | rfl | rfl | rfl
  · exact mdSigned_any (Or.inl ⟨rfl, rfl, rfl, rfl⟩) m w m0 m1
  · exact mdSigned_any (Or.inr (Or.inl ⟨rfl, rfl, rfl, rfl⟩)) m w m0 m1
  · exact mdSigned_any (Or.inr (Or.inr ⟨rfl, rfl, rfl, rfl⟩)) m w m0 m1
  · exact mdSigned8_any m w m0 m1

set_option maxHeartbeats 1000000 in
theorem divS_core {s n d : Int} {W : Nat} (w : World) (s2 : IntKind.i64.wrap (2 * s) = 2 * s) (hz : sOf s d ≠ 0) (z1 : isZ s) (z2 : isZ (2 * s)) (n0 : 0 ≤ n) (n1 : n < 18446744073709551616) (d0 : 0 ≤ d) (d1 : d < 18446744073709551616) :
    Calls Try.prog 19 #[.agg #[.int .i64 s, .int .u64 (W : Int)], .int .u64 n, .int .u64 d] w fun e w' => e = .returned (.tuple #[.int .u64 (IntKind.u64.wrap (wrap64 ((sOf (2 * s) n).tdiv (sOf s d)))), .int .u64 (IntKind.u64.wrap ((sOf (2 * s) n).tmod (sOf s d))), .bool (wrap64 ((sOf (2 * s) n).tdiv (sOf s d)) == sOf s (IntKind.u64.wrap (wrap64 ((sOf (2 * s) n).tdiv (sOf s d)))))]) ∧ Grown w w' := by
  have q0 : 0 ≤ IntKind.u64.wrap (wrap64 ((sOf (2 * s) n).tdiv (sOf s d))) := (mod_bd (by decide) _).1
  have q1 : IntKind.u64.wrap (wrap64 ((sOf (2 * s) n).tdiv (sOf s d))) < 18446744073709551616 := (mod_bd (by decide) _).2
  go_enter Try.func19, Try.ntmps19
  go_wp2
  go_region_held3 (fun w' => w'.cell? ⟨w.heap.size, 0, none⟩ = some (.int .i64 s) ∧ w'.cell? ⟨w.heap.size, 1, none⟩ = some (.int .u64 (W : Int)))
    (simp [go_sem])
    ((go_at_call 33; refine (mdSignedG_any _ _ _ (by assumption) (by assumption) (by assumption)).mono ?_; rintro e w1 ⟨rfl, hw⟩; replace hw := hw.symm; subst hw))
  go_wp2
  go_region_held3 (fun w' => w'.cell? ⟨w.heap.size, 0, none⟩ = some (.int .i64 s) ∧ w'.cell? ⟨w.heap.size, 1, none⟩ = some (.int .u64 (W : Int)))
    (simp [go_sem])
    ((go_at_call 33; refine (mdSignedG_any _ _ _ (by assumption) (by assumption) (by assumption)).mono ?_; rintro e w1 ⟨rfl, hw⟩; replace hw := hw.symm; subst hw))
  go_wp2
  exact bodyPost_ret (v := .tuple #[.int .u64 (IntKind.u64.wrap (wrap64 ((sOf (2 * s) n).tdiv (sOf s d)))), .int .u64 (IntKind.u64.wrap ((sOf (2 * s) n).tmod (sOf s d))), .bool (wrap64 ((sOf (2 * s) n).tdiv (sOf s d)) == sOf s (IntKind.u64.wrap (wrap64 ((sOf (2 * s) n).tdiv (sOf s d)))))]) (by simp [results, Try.results19, go_sem]) rfl
    ⟨rfl, by repeat (first | exact Grown.refl _ | apply Grown.drew | apply Grown.alloc)⟩

theorem sOf_one {s H M : Int} {W : Nat} (hS : Sw s H M W) (m : Int) : sOf s m = sgv M H (m % M) := by
  rcases hS with ⟨rfl, rfl, rfl, rfl⟩ | ⟨rfl, rfl, rfl, rfl⟩ | ⟨rfl, rfl, rfl, rfl⟩ <;> rfl

theorem sOf_two {s H M : Int} {W : Nat} (hS : Sw s H M W) (m : Int) (m0 : 0 ≤ m) (m1 : m < M * M) : sOf (2 * s) m = sgv (M * M) (H * M) m := by
  rcases hS with ⟨rfl, rfl, rfl, rfl⟩ | ⟨rfl, rfl, rfl, rfl⟩ | ⟨rfl, rfl, rfl, rfl⟩
  · show sgv 65536 32768 (m % 65536) = sgv 65536 32768 m
    rw [Int.emod_eq_of_lt m0 (by omega)]
  · show sgv 4294967296 2147483648 (m % 4294967296) = sgv 4294967296 2147483648 m
    rw [Int.emod_eq_of_lt m0 (by omega)]
  · rfl

theorem sgv_two_bd {s H M : Int} {W : Nat} (hS : Sw s H M W) {n : Int} (n0 : 0 ≤ n) (n1 : n < M * M) : -9223372036854775808 ≤ sgv (M * M) (H * M) n ∧ sgv (M * M) (H * M) n < 9223372036854775808 := by
  rcases hS with ⟨rfl, rfl, rfl, rfl⟩ | ⟨rfl, rfl, rfl, rfl⟩ | ⟨rfl, rfl, rfl, rfl⟩
  · have h := sgv_bds (M := 256 * 256) (H := 128 * 256) (by decide) n0 n1
    omega
  · have h := sgv_bds (M := 65536 * 65536) (H := 32768 * 65536) (by decide) n0 n1
    omega
  · have h := sgv_bds (M := 4294967296 * 4294967296) (H := 2147483648 * 4294967296) (by decide) n0 n1
    omega

theorem mdDivideS_any {s H M : Int} {W : Nat} (hS : Sw s H M W) (n d : Int) (w : World) (n0 : 0 ≤ n) (n1 : n < M * M) (n2 : n < 18446744073709551616) (d0 : 0 < d) (d1 : d < M) :
    Calls Try.prog 19 #[.agg #[.int .i64 s, .int .u64 (W : Int)], .int .u64 n, .int .u64 d] w fun e w' => e = .returned (.tuple #[.int .u64 (sqQ M H n d), .int .u64 (sqR M H n d), .bool (sqO M H n d)]) ∧ Grown w w' := by
  have mt := hS.pow.2.2.2.2.1
  have e1 : sOf s d = sgv M H d := by rw [sOf_one hS, Int.emod_eq_of_lt (by omega) d1]
  have e2 := sOf_two hS n n0 n1
  have hz : sOf s d ≠ 0 := by rw [e1]; exact sgv_zero hS (by omega) d1 (by omega)
  have s2 : IntKind.i64.wrap (2 * s) = 2 * s := by rw [wrap_i64']; rcases hS with ⟨rfl, rfl, rfl, rfl⟩ | ⟨rfl, rfl, rfl, rfl⟩ | ⟨rfl, rfl, rfl, rfl⟩ <;> decide
  have z1 : isZ s := by unfold isZ; rcases hS with ⟨rfl, rfl, rfl, rfl⟩ | ⟨rfl, rfl, rfl, rfl⟩ | ⟨rfl, rfl, rfl, rfl⟩ <;> decide
  have z2 : isZ (2 * s) := by unfold isZ; rcases hS with ⟨rfl, rfl, rfl, rfl⟩ | ⟨rfl, rfl, rfl, rfl⟩ | ⟨rfl, rfl, rfl, rfl⟩ <;> decide
  refine (divS_core (W := W) w s2 hz z1 z2 n0 n2 (by omega) (by omega)).mono ?_
  rintro e w1 ⟨rfl, hg⟩
  refine ⟨?_, hg⟩
  have hB := sgv_two_bd hS n0 n1
  have hT := tdiv_bd (b := sgv M H d) hB.1 hB.2
  have hF := fits_is hS hT.1 hT.2
  rw [e1, e2, sOf_one hS]
  exact ret_iib rfl rfl hF
end Go.Proofs.Ytecfkgnffhiemab
