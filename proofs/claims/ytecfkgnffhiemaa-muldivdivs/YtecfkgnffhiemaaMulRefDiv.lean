/- The contract of the document's answer to quotients (drawloomref03.Div): for every input within its kinds it returns what is named, and the world stays. -/
import Derived.Test.YtecfkgnffhiemaaMulRefLeaf
import Derived.Test.YtecfkgnffhiemaaMulDivs
namespace Go.Proofs.Ytecfkgnffhiemaa
open Go.ChangeShapes Go.WideShapes Go.ChangeAt Go.RowKit
set_option linter.unusedVariables false

theorem rDiv_no (s : Int) (sg : Bool) (lo hi b : Int) (w : World) (hk : okSize s = false) :
    Calls Try.prog 13 #[.bool sg, .int .i64 s, .int .u32 lo, .int .u32 hi, .int .u32 b] w fun e w' => e = .returned (.tuple #[.int .u32 0, .int .u32 0, .bool false, .int .i64 2]) ∧ Grown w w' := by
  go_enter Try.func13, Try.ntmps13
  go_wp2_with fail
  refine (Bits_no _ _ hk).mono ?_; rintro e w1 ⟨rfl, hw⟩; replace hw := hw.symm; subst hw
  go_wp2
  exact bodyPost_ret (v := .tuple #[.int .u32 0, .int .u32 0, .bool false, .int .i64 2]) (by simp [results, Try.results13, go_sem]) rfl ⟨rfl, Grown.refl _⟩

theorem rDiv_zero {s H M : Int} {W : Nat} (hS : Sw s H M W) (sg : Bool) (lo hi b : Int) (w : World) (l0 : 0 ≤ lo) (l1 : lo < 4294967296) (h0 : 0 ≤ hi) (h1 : hi < 4294967296) (b0 : 0 ≤ b) (b1 : b < 4294967296) (hz : b % M = 0) :
    Calls Try.prog 13 #[.bool sg, .int .i64 s, .int .u32 lo, .int .u32 hi, .int .u32 b] w fun e w' => e = .returned (.tuple #[.int .u32 0, .int .u32 0, .bool false, .int .i64 0]) ∧ Grown w w' := by
  have hk := hS.ok
  obtain ⟨sp, hZ⟩ := hS.sz
  have mt := hS.pow.2.2.2.2.1
  have mp := hS.pow.2.2.2.2.2.1
  have w8 : ((W : Int) == 0) = false := by have := hS.pow.2.2.1; simp; omega
  have ww : IntKind.u64.wrap (W : Int) = (W : Int) := by have := hS.pow.2.2.2.1; rw [wrap_u64']; omega
  have mw : min W 64 = W := by have := hS.pow.2.2.2.1; omega
  have wh : IntKind.u64.wrap hi = hi := by rw [wrap_u64']; omega
  have wl : IntKind.u64.wrap lo = lo := by rw [wrap_u64']; omega
  have wb : IntKind.u64.wrap b = b := by rw [wrap_u64']; omega
  have l2 : lo < 18446744073709551616 := by omega
  have h2 : hi < 18446744073709551616 := by omega
  have b2 : b < 18446744073709551616 := by omega
  have hn := divN_bd hS lo hi
  have wn : IntKind.u64.wrap (hi % M * M + lo % M) = divN M lo hi := by rw [wrap_u64']; exact Int.emod_eq_of_lt hn.1 hn.2.2
  have c1 := mod_bd mp hi
  have c2 := mod_bd mp lo
  have c3 := mod_bd mp b
  have ws : IntKind.u64.wrap (hi % M * 2 ^ W) = hi % M * M := by
    rw [pw_cast, ← hS.pow.1, wrap_u64']
    have hm := mul_nn (A := 4294967295) (B := 4294967296) c1.1 (by omega) (Int.le_of_lt mp) mt
    omega
  have d0 := c3.1
  have d1 := c3.2
  clear c1 c2 c3 hn
  go_enter Try.func13, Try.ntmps13
  go_wp2_with fail
  refine (Bits_ok hZ _).mono ?_; rintro e w1 ⟨rfl, hw⟩; replace hw := hw.symm; subst hw
  go_wp2_with fail
  refine (Cut_any hZ _ _ h0 h2).mono ?_; rintro e w1 ⟨rfl, hw⟩; replace hw := hw.symm; subst hw
  go_wp2_with fail
  refine (Cut_any hZ _ _ l0 l2).mono ?_; rintro e w1 ⟨rfl, hw⟩; replace hw := hw.symm; subst hw
  go_wp2_with fail
  refine (Cut_any hZ _ _ b0 b2).mono ?_; rintro e w1 ⟨rfl, hw⟩; replace hw := hw.symm; subst hw
  go_wp2
  exact bodyPost_ret (v := .tuple #[.int .u32 0, .int .u32 0, .bool false, .int .i64 0]) (by simp [results, Try.results13, go_sem]) rfl ⟨rfl, Grown.refl _⟩

theorem rDiv_un {s H M : Int} {W : Nat} (hS : Sw s H M W) (lo hi b : Int) (w : World) (l0 : 0 ≤ lo) (l1 : lo < 4294967296) (h0 : 0 ≤ hi) (h1 : hi < 4294967296) (b0 : 0 ≤ b) (b1 : b < 4294967296) (hz : b % M ≠ 0) (hq : ¬ divN M lo hi / (b % M) < M) :
    Calls Try.prog 13 #[.bool false, .int .i64 s, .int .u32 lo, .int .u32 hi, .int .u32 b] w fun e w' => e = .returned (.tuple #[.int .u32 0, .int .u32 0, .bool false, .int .i64 0]) ∧ Grown w w' := by
  have hk := hS.ok
  obtain ⟨sp, hZ⟩ := hS.sz
  have mt := hS.pow.2.2.2.2.1
  have mp := hS.pow.2.2.2.2.2.1
  have w8 : ((W : Int) == 0) = false := by have := hS.pow.2.2.1; simp; omega
  have ww : IntKind.u64.wrap (W : Int) = (W : Int) := by have := hS.pow.2.2.2.1; rw [wrap_u64']; omega
  have mw : min W 64 = W := by have := hS.pow.2.2.2.1; omega
  have wh : IntKind.u64.wrap hi = hi := by rw [wrap_u64']; omega
  have wl : IntKind.u64.wrap lo = lo := by rw [wrap_u64']; omega
  have wb : IntKind.u64.wrap b = b := by rw [wrap_u64']; omega
  have l2 : lo < 18446744073709551616 := by omega
  have h2 : hi < 18446744073709551616 := by omega
  have b2 : b < 18446744073709551616 := by omega
  have hn := divN_bd hS lo hi
  have wn : IntKind.u64.wrap (hi % M * M + lo % M) = divN M lo hi := by rw [wrap_u64']; exact Int.emod_eq_of_lt hn.1 hn.2.2
  have c1 := mod_bd mp hi
  have c2 := mod_bd mp lo
  have c3 := mod_bd mp b
  have ws : IntKind.u64.wrap (hi % M * 2 ^ W) = hi % M * M := by
    rw [pw_cast, ← hS.pow.1, wrap_u64']
    have hm := mul_nn (A := 4294967295) (B := 4294967296) c1.1 (by omega) (Int.le_of_lt mp) mt
    omega
  have d0 := c3.1
  have d1 := c3.2
  have wm : IntKind.u64.wrap (2 ^ W) = M := by rw [pw_cast, ← hS.pow.1, wrap_u64']; omega
  have wm' : IntKind.u64.wrap (M - 1) = M - 1 := by rw [wrap_u64']; omega
  have hz' : (b % M == 0) = false := by simp; omega
  have gq : M - 1 < divN M lo hi / (b % M) := by omega
  have n0 := hn.1
  have n1 := hn.2.2
  clear c1 c2 c3 hn hq
  go_enter Try.func13, Try.ntmps13
  go_wp2_with fail
  refine (Bits_ok hZ _).mono ?_; rintro e w1 ⟨rfl, hw⟩; replace hw := hw.symm; subst hw
  go_wp2_with fail
  refine (Cut_any hZ _ _ h0 h2).mono ?_; rintro e w1 ⟨rfl, hw⟩; replace hw := hw.symm; subst hw
  go_wp2_with fail
  refine (Cut_any hZ _ _ l0 l2).mono ?_; rintro e w1 ⟨rfl, hw⟩; replace hw := hw.symm; subst hw
  go_wp2_with fail
  refine (Cut_any hZ _ _ b0 b2).mono ?_; rintro e w1 ⟨rfl, hw⟩; replace hw := hw.symm; subst hw
  go_wp2
  exact bodyPost_ret (v := .tuple #[.int .u32 0, .int .u32 0, .bool false, .int .i64 0]) (by simp [results, Try.results13, go_sem]) rfl ⟨rfl, Grown.refl _⟩

theorem rDiv_uy {s H M : Int} {W : Nat} (hS : Sw s H M W) (lo hi b : Int) (w : World) (l0 : 0 ≤ lo) (l1 : lo < 4294967296) (h0 : 0 ≤ hi) (h1 : hi < 4294967296) (b0 : 0 ≤ b) (b1 : b < 4294967296) (hz : b % M ≠ 0) (hq : divN M lo hi / (b % M) < M) :
    Calls Try.prog 13 #[.bool false, .int .i64 s, .int .u32 lo, .int .u32 hi, .int .u32 b] w fun e w' => e = .returned (.tuple #[.int .u32 (divN M lo hi / (b % M)), .int .u32 (divN M lo hi % (b % M)), .bool true, .int .i64 0]) ∧ Grown w w' := by
  have hk := hS.ok
  obtain ⟨sp, hZ⟩ := hS.sz
  have mt := hS.pow.2.2.2.2.1
  have mp := hS.pow.2.2.2.2.2.1
  have w8 : ((W : Int) == 0) = false := by have := hS.pow.2.2.1; simp; omega
  have ww : IntKind.u64.wrap (W : Int) = (W : Int) := by have := hS.pow.2.2.2.1; rw [wrap_u64']; omega
  have mw : min W 64 = W := by have := hS.pow.2.2.2.1; omega
  have wh : IntKind.u64.wrap hi = hi := by rw [wrap_u64']; omega
  have wl : IntKind.u64.wrap lo = lo := by rw [wrap_u64']; omega
  have wb : IntKind.u64.wrap b = b := by rw [wrap_u64']; omega
  have l2 : lo < 18446744073709551616 := by omega
  have h2 : hi < 18446744073709551616 := by omega
  have b2 : b < 18446744073709551616 := by omega
  have hn := divN_bd hS lo hi
  have wn : IntKind.u64.wrap (hi % M * M + lo % M) = divN M lo hi := by rw [wrap_u64']; exact Int.emod_eq_of_lt hn.1 hn.2.2
  have c1 := mod_bd mp hi
  have c2 := mod_bd mp lo
  have c3 := mod_bd mp b
  have ws : IntKind.u64.wrap (hi % M * 2 ^ W) = hi % M * M := by
    rw [pw_cast, ← hS.pow.1, wrap_u64']
    have hm := mul_nn (A := 4294967295) (B := 4294967296) c1.1 (by omega) (Int.le_of_lt mp) mt
    omega
  have d0 := c3.1
  have d1 := c3.2
  have wm : IntKind.u64.wrap (2 ^ W) = M := by rw [pw_cast, ← hS.pow.1, wrap_u64']; omega
  have wm' : IntKind.u64.wrap (M - 1) = M - 1 := by rw [wrap_u64']; omega
  have hz' : (b % M == 0) = false := by simp; omega
  have gq : ¬ M - 1 < divN M lo hi / (b % M) := by omega
  have n0 := hn.1
  have n1 := hn.2.2
  have q0 : 0 ≤ divN M lo hi / (b % M) := Int.ediv_nonneg n0 d0
  have r0 := (mod_bd (M := b % M) (by omega) (divN M lo hi)).1
  have r1 := (mod_bd (M := b % M) (by omega) (divN M lo hi)).2
  have wq : IntKind.u32.wrap (divN M lo hi / (b % M)) = divN M lo hi / (b % M) := Int.emod_eq_of_lt q0 (Int.lt_of_lt_of_le hq mt)
  have wr : IntKind.u32.wrap (divN M lo hi % (b % M)) = divN M lo hi % (b % M) := Int.emod_eq_of_lt r0 (Int.lt_of_lt_of_le (Int.lt_trans r1 d1) mt)
  clear c1 c2 c3 hn hq
  go_enter Try.func13, Try.ntmps13
  go_wp2_with fail
  refine (Bits_ok hZ _).mono ?_; rintro e w1 ⟨rfl, hw⟩; replace hw := hw.symm; subst hw
  go_wp2_with fail
  refine (Cut_any hZ _ _ h0 h2).mono ?_; rintro e w1 ⟨rfl, hw⟩; replace hw := hw.symm; subst hw
  go_wp2_with fail
  refine (Cut_any hZ _ _ l0 l2).mono ?_; rintro e w1 ⟨rfl, hw⟩; replace hw := hw.symm; subst hw
  go_wp2_with fail
  refine (Cut_any hZ _ _ b0 b2).mono ?_; rintro e w1 ⟨rfl, hw⟩; replace hw := hw.symm; subst hw
  go_wp2
  go_quiet (fail)
  go_wp2
  exact bodyPost_ret (v := .tuple #[.int .u32 (divN M lo hi / (b % M)), .int .u32 (divN M lo hi % (b % M)), .bool true, .int .i64 0]) (by simp [results, Try.results13, go_sem]) rfl
    ⟨rfl, by first | exact Grown.refl _ | exact Grown.drew (Grown.refl _) | exact Grown.drewN (Grown.refl _) _⟩
end Go.Proofs.Ytecfkgnffhiemaa
