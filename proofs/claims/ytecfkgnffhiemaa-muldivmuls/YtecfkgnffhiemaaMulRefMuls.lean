/- The contract of the document's answer to signed products (drawloomref03.Mul): for every input within its kinds it returns what is named, and the world stays. -/
import Derived.Test.YtecfkgnffhiemaaMulRefMul
namespace Go.Proofs.Ytecfkgnffhiemaa
open Go.ChangeShapes Go.WideShapes Go.ChangeAt Go.RowKit
set_option linter.unusedVariables false

/-- that a signed product's pieces are what they are, for the walks -/
theorem magP_lo {s H M : Int} {W : Nat} (hS : Sw s H M W) (a b : Int) : magP M H (a % M) (b % M) % M = mulL true M H a b ∧ magP M H (a % M) (b % M) / M % M = mulU true M H a b := magP_is hS (a % M) (b % M)

set_option maxHeartbeats 1000000 in
theorem rMul_fff {s H M : Int} {W : Nat} (hS : Sw s H M W) (a b f : Int) (w : World) (a0 : 0 ≤ a) (a1 : a < 4294967296) (b0 : 0 ≤ b) (b1 : b < 4294967296) (f0 : 0 ≤ f) (f1 : f < 4294967296)
    (hs1 : sgn H (a % M) = false) (hs2 : sgn H (b % M) = false) (hs : sgn H (mulL true M H a b) = false) :
    Calls Try.prog 11 #[.bool true, .int .i64 s, .int .u32 a, .int .u32 b, .int .u32 f] w fun e w' => e = .returned (.tuple #[.int .u32 (mulL true M H a b), .int .u32 (mulU true M H a b), .int .u32 (mulF true M H a b f), .int .i64 0]) ∧ Grown w w' := by
  have hk := hS.ok
  obtain ⟨sp, hZ⟩ := hS.sz
  have mt := hS.pow.2.2.2.2.1
  have mp := hS.pow.2.2.2.2.2.1
  have w8 : ((W : Int) == 0) = false := by have := hS.pow.2.2.1; simp; omega
  have ww : IntKind.u64.wrap (W : Int) = (W : Int) := by have := hS.pow.2.2.2.1; rw [wrap_u64']; omega
  have w2 : IntKind.i64.wrap (2 * (W : Int)) = 2 * (W : Int) := by have := hS.pow.2.2.2.1; rw [wrap_i64']; omega
  have wm : IntKind.u64.wrap (2 ^ W) = M := by rw [pw_cast, ← hS.pow.1, wrap_u64']; omega
  have wm' : IntKind.u64.wrap (M - 1) = M - 1 := by rw [wrap_u64']; omega
  have mw : min W 64 = W := by have := hS.pow.2.2.2.1; omega
  have wa : IntKind.u64.wrap a = a := by rw [wrap_u64']; omega
  have wb : IntKind.u64.wrap b = b := by rw [wrap_u64']; omega
  have a2 : a < 18446744073709551616 := by omega
  have b2 : b < 18446744073709551616 := by omega
  have hx := mod_bd mp a
  have hy := mod_bd mp b
  have hP := mulP_bd hS false a b
  have wp : IntKind.u64.wrap (a % M * (b % M)) = a % M * (b % M) := by rw [wrap_u64']; exact Int.emod_eq_of_lt (hP.2.2.2 rfl) (Int.lt_of_le_of_lt hP.2.1 (by decide))
  have hm := magM_bd hS hx.1 hx.2 hy.1 hy.2
  have wq : IntKind.u64.wrap (mag M H (a % M) * mag M H (b % M)) = mag M H (a % M) * mag M H (b % M) := by rw [wrap_u64']; exact Int.emod_eq_of_lt hm.1 hm.2.2
  have e1 : magP M H (a % M) (b % M) = mag M H (a % M) * mag M H (b % M) := by unfold magP; rw [hs1, hs2]; rfl
  have hb := magP_bd hS hx.1 hx.2 hy.1 hy.2
  have hl := magP_lo hS a b
  rw [e1] at hb hl
  have HL : Hid (0 ≤ mulL true M H a b ∧ mulL true M H a b < M) := mulL_bd hS true a b
  have HU : Hid (0 ≤ mulU true M H a b ∧ mulU true M H a b < M) := mulU_bd hS true a b
  have HH : Hid (∀ w : World, Calls Try.prog 27 #[.int .u64 (mag M H (a % M) * mag M H (b % M)), .int .i64 (W : Int)] w fun e w' => e = .returned (.tuple #[.int .u64 (mulL true M H a b), .int .u64 (mulU true M H a b)]) ∧ w' = w) := fun w => by
    have h := rhalves_any hS _ w hb.1 hb.2
    rw [hl.1, hl.2] at h
    exact h
  have HX : Hid (∀ w : World, Calls Try.prog 25 #[.int .u64 (a % M), .int .i64 (W : Int)] w fun e w' => e = .returned (.tuple #[.int .u64 (mag M H (a % M)), .bool false]) ∧ w' = w) := fun w => magnitude_is hS.sb _ _ hs1 w hx.1 hx.2
  have HY : Hid (∀ w : World, Calls Try.prog 25 #[.int .u64 (b % M), .int .i64 (W : Int)] w fun e w' => e = .returned (.tuple #[.int .u64 (mag M H (b % M)), .bool false]) ∧ w' = w) := fun w => magnitude_is hS.sb _ _ hs2 w hy.1 hy.2
  have HSG : Hid (∀ w : World, Calls Try.prog 28 #[.int .u64 (mulL true M H a b), .int .i64 (W : Int)] w fun e w' => e = .returned (.bool false) ∧ w' = w) := fun w => SignB_is hS.sb _ _ hs w HL.out.1 HL.out.2
  have wl : IntKind.u32.wrap (mulL true M H a b) = mulL true M H a b := Int.emod_eq_of_lt HL.out.1 (Int.lt_of_lt_of_le HL.out.2 mt)
  have wu : IntKind.u32.wrap (mulU true M H a b) = mulU true M H a b := Int.emod_eq_of_lt HU.out.1 (Int.lt_of_lt_of_le HU.out.2 mt)
  have HF : Hid (byF H (mulL true M H a b) (setF (setF (setF f 1 (mulU true M H a b != 0)) 2048 (mulU true M H a b != 0)) 16 false) = mulF true M H a b f) := (by unfold mulF mulC mulX; rw [hs]; rfl : byF H (mulL true M H a b) (setF (setF (setF f 1 (mulU true M H a b != 0)) 2048 (mulU true M H a b != 0)) 16 false) = mulF true M H a b f)
  have B1 : Hid _ := bd1 f0 f1 1 fl1 (mulU true M H a b != 0)
  have B2 : Hid _ := bd2 f0 f1 1 2048 fl1 fl2048 (mulU true M H a b != 0) (mulU true M H a b != 0)
  have B3 : Hid _ := bd3 f0 f1 1 2048 16 fl1 fl2048 fl16 (mulU true M H a b != 0) (mulU true M H a b != 0) false
  clear hs hs1 hs2 hl hb e1 hm hP hx hy
  go_enter Try.func11, Try.ntmps11
  go_wp2_with fail
  refine (Bits_ok hZ _).mono ?_; rintro e w1 ⟨rfl, hw⟩; replace hw := hw.symm; subst hw
  go_wp2_with fail
  refine (Cut_any hZ _ _ a0 a2).mono ?_; rintro e w1 ⟨rfl, hw⟩; replace hw := hw.symm; subst hw
  go_wp2_with fail
  refine (Cut_any hZ _ _ b0 b2).mono ?_; rintro e w1 ⟨rfl, hw⟩; replace hw := hw.symm; subst hw
  go_wp2_with fail
  refine (HX.out _).mono ?_; rintro e w1 ⟨rfl, hw⟩; replace hw := hw.symm; subst hw
  go_wp2_with fail
  refine (HY.out _).mono ?_; rintro e w1 ⟨rfl, hw⟩; replace hw := hw.symm; subst hw
  go_wp2_with fail
  refine (HH.out _).mono ?_; rintro e w1 ⟨rfl, hw⟩; replace hw := hw.symm; subst hw
  go_wp2_with fail
  refine (HSG.out _).mono ?_; rintro e w1 ⟨rfl, hw⟩; replace hw := hw.symm; subst hw
  go_wp2_with fail
  refine (Set_any _ _ (mulU true M H a b != 0) _ f0 f1 fl1).mono ?_; rintro e w1 ⟨rfl, hw⟩; replace hw := hw.symm; subst hw
  go_wp2_with fail
  refine (Set_any _ _ (mulU true M H a b != 0) _ B1.out.1 B1.out.2 fl2048).mono ?_; rintro e w1 ⟨rfl, hw⟩; replace hw := hw.symm; subst hw
  go_wp2_with fail
  refine (Set_any _ _ _ _ B2.out.1 B2.out.2 fl16).mono ?_; rintro e w1 ⟨rfl, hw⟩; replace hw := hw.symm; subst hw
  go_wp2_with fail
  refine (By_any hZ _ _ _ HL.out.1 HL.out.2 B3.out.1 B3.out.2).mono ?_; rintro e w1 ⟨rfl, hw⟩; replace hw := hw.symm; subst hw
  go_wp2
  exact bodyPost_ret (v := .tuple #[.int .u32 (mulL true M H a b), .int .u32 (mulU true M H a b), .int .u32 (byF H (mulL true M H a b) (setF (setF (setF f 1 (mulU true M H a b != 0)) 2048 (mulU true M H a b != 0)) 16 false)), .int .i64 0]) (by simp [results, Try.results11, go_sem]) rfl
    ⟨ret_four rfl rfl HF.out rfl, Grown.refl _⟩

set_option maxHeartbeats 1000000 in
theorem rMul_fft {s H M : Int} {W : Nat} (hS : Sw s H M W) (a b f : Int) (w : World) (a0 : 0 ≤ a) (a1 : a < 4294967296) (b0 : 0 ≤ b) (b1 : b < 4294967296) (f0 : 0 ≤ f) (f1 : f < 4294967296)
    (hs1 : sgn H (a % M) = false) (hs2 : sgn H (b % M) = false) (hs : sgn H (mulL true M H a b) = true) :
    Calls Try.prog 11 #[.bool true, .int .i64 s, .int .u32 a, .int .u32 b, .int .u32 f] w fun e w' => e = .returned (.tuple #[.int .u32 (mulL true M H a b), .int .u32 (mulU true M H a b), .int .u32 (mulF true M H a b f), .int .i64 0]) ∧ Grown w w' := by
  have hk := hS.ok
  obtain ⟨sp, hZ⟩ := hS.sz
  have mt := hS.pow.2.2.2.2.1
  have mp := hS.pow.2.2.2.2.2.1
  have w8 : ((W : Int) == 0) = false := by have := hS.pow.2.2.1; simp; omega
  have ww : IntKind.u64.wrap (W : Int) = (W : Int) := by have := hS.pow.2.2.2.1; rw [wrap_u64']; omega
  have w2 : IntKind.i64.wrap (2 * (W : Int)) = 2 * (W : Int) := by have := hS.pow.2.2.2.1; rw [wrap_i64']; omega
  have wm : IntKind.u64.wrap (2 ^ W) = M := by rw [pw_cast, ← hS.pow.1, wrap_u64']; omega
  have wm' : IntKind.u64.wrap (M - 1) = M - 1 := by rw [wrap_u64']; omega
  have mw : min W 64 = W := by have := hS.pow.2.2.2.1; omega
  have wa : IntKind.u64.wrap a = a := by rw [wrap_u64']; omega
  have wb : IntKind.u64.wrap b = b := by rw [wrap_u64']; omega
  have a2 : a < 18446744073709551616 := by omega
  have b2 : b < 18446744073709551616 := by omega
  have hx := mod_bd mp a
  have hy := mod_bd mp b
  have hP := mulP_bd hS false a b
  have wp : IntKind.u64.wrap (a % M * (b % M)) = a % M * (b % M) := by rw [wrap_u64']; exact Int.emod_eq_of_lt (hP.2.2.2 rfl) (Int.lt_of_le_of_lt hP.2.1 (by decide))
  have hm := magM_bd hS hx.1 hx.2 hy.1 hy.2
  have wq : IntKind.u64.wrap (mag M H (a % M) * mag M H (b % M)) = mag M H (a % M) * mag M H (b % M) := by rw [wrap_u64']; exact Int.emod_eq_of_lt hm.1 hm.2.2
  have e1 : magP M H (a % M) (b % M) = mag M H (a % M) * mag M H (b % M) := by unfold magP; rw [hs1, hs2]; rfl
  have hb := magP_bd hS hx.1 hx.2 hy.1 hy.2
  have hl := magP_lo hS a b
  rw [e1] at hb hl
  have HL : Hid (0 ≤ mulL true M H a b ∧ mulL true M H a b < M) := mulL_bd hS true a b
  have HU : Hid (0 ≤ mulU true M H a b ∧ mulU true M H a b < M) := mulU_bd hS true a b
  have HH : Hid (∀ w : World, Calls Try.prog 27 #[.int .u64 (mag M H (a % M) * mag M H (b % M)), .int .i64 (W : Int)] w fun e w' => e = .returned (.tuple #[.int .u64 (mulL true M H a b), .int .u64 (mulU true M H a b)]) ∧ w' = w) := fun w => by
    have h := rhalves_any hS _ w hb.1 hb.2
    rw [hl.1, hl.2] at h
    exact h
  have HX : Hid (∀ w : World, Calls Try.prog 25 #[.int .u64 (a % M), .int .i64 (W : Int)] w fun e w' => e = .returned (.tuple #[.int .u64 (mag M H (a % M)), .bool false]) ∧ w' = w) := fun w => magnitude_is hS.sb _ _ hs1 w hx.1 hx.2
  have HY : Hid (∀ w : World, Calls Try.prog 25 #[.int .u64 (b % M), .int .i64 (W : Int)] w fun e w' => e = .returned (.tuple #[.int .u64 (mag M H (b % M)), .bool false]) ∧ w' = w) := fun w => magnitude_is hS.sb _ _ hs2 w hy.1 hy.2
  have HSG : Hid (∀ w : World, Calls Try.prog 28 #[.int .u64 (mulL true M H a b), .int .i64 (W : Int)] w fun e w' => e = .returned (.bool true) ∧ w' = w) := fun w => SignB_is hS.sb _ _ hs w HL.out.1 HL.out.2
  have wl : IntKind.u32.wrap (mulL true M H a b) = mulL true M H a b := Int.emod_eq_of_lt HL.out.1 (Int.lt_of_lt_of_le HL.out.2 mt)
  have wu : IntKind.u32.wrap (mulU true M H a b) = mulU true M H a b := Int.emod_eq_of_lt HU.out.1 (Int.lt_of_lt_of_le HU.out.2 mt)
  have HF : Hid (byF H (mulL true M H a b) (setF (setF (setF f 1 (mulU true M H a b != (M - 1))) 2048 (mulU true M H a b != (M - 1))) 16 false) = mulF true M H a b f) := (by unfold mulF mulC mulX; rw [hs]; rfl : byF H (mulL true M H a b) (setF (setF (setF f 1 (mulU true M H a b != (M - 1))) 2048 (mulU true M H a b != (M - 1))) 16 false) = mulF true M H a b f)
  have B1 : Hid _ := bd1 f0 f1 1 fl1 (mulU true M H a b != (M - 1))
  have B2 : Hid _ := bd2 f0 f1 1 2048 fl1 fl2048 (mulU true M H a b != (M - 1)) (mulU true M H a b != (M - 1))
  have B3 : Hid _ := bd3 f0 f1 1 2048 16 fl1 fl2048 fl16 (mulU true M H a b != (M - 1)) (mulU true M H a b != (M - 1)) false
  clear hs hs1 hs2 hl hb e1 hm hP hx hy
  go_enter Try.func11, Try.ntmps11
  go_wp2_with fail
  refine (Bits_ok hZ _).mono ?_; rintro e w1 ⟨rfl, hw⟩; replace hw := hw.symm; subst hw
  go_wp2_with fail
  refine (Cut_any hZ _ _ a0 a2).mono ?_; rintro e w1 ⟨rfl, hw⟩; replace hw := hw.symm; subst hw
  go_wp2_with fail
  refine (Cut_any hZ _ _ b0 b2).mono ?_; rintro e w1 ⟨rfl, hw⟩; replace hw := hw.symm; subst hw
  go_wp2_with fail
  refine (HX.out _).mono ?_; rintro e w1 ⟨rfl, hw⟩; replace hw := hw.symm; subst hw
  go_wp2_with fail
  refine (HY.out _).mono ?_; rintro e w1 ⟨rfl, hw⟩; replace hw := hw.symm; subst hw
  go_wp2_with fail
  refine (HH.out _).mono ?_; rintro e w1 ⟨rfl, hw⟩; replace hw := hw.symm; subst hw
  go_wp2_with fail
  refine (HSG.out _).mono ?_; rintro e w1 ⟨rfl, hw⟩; replace hw := hw.symm; subst hw
  go_wp2_with fail
  refine (Set_any _ _ (mulU true M H a b != (M - 1)) _ f0 f1 fl1).mono ?_; rintro e w1 ⟨rfl, hw⟩; replace hw := hw.symm; subst hw
  go_wp2_with fail
  refine (Set_any _ _ (mulU true M H a b != (M - 1)) _ B1.out.1 B1.out.2 fl2048).mono ?_; rintro e w1 ⟨rfl, hw⟩; replace hw := hw.symm; subst hw
  go_wp2_with fail
  refine (Set_any _ _ _ _ B2.out.1 B2.out.2 fl16).mono ?_; rintro e w1 ⟨rfl, hw⟩; replace hw := hw.symm; subst hw
  go_wp2_with fail
  refine (By_any hZ _ _ _ HL.out.1 HL.out.2 B3.out.1 B3.out.2).mono ?_; rintro e w1 ⟨rfl, hw⟩; replace hw := hw.symm; subst hw
  go_wp2
  exact bodyPost_ret (v := .tuple #[.int .u32 (mulL true M H a b), .int .u32 (mulU true M H a b), .int .u32 (byF H (mulL true M H a b) (setF (setF (setF f 1 (mulU true M H a b != (M - 1))) 2048 (mulU true M H a b != (M - 1))) 16 false)), .int .i64 0]) (by simp [results, Try.results11, go_sem]) rfl
    ⟨ret_four rfl rfl HF.out rfl, Grown.refl _⟩

set_option maxHeartbeats 1000000 in
theorem rMul_ftf {s H M : Int} {W : Nat} (hS : Sw s H M W) (a b f : Int) (w : World) (a0 : 0 ≤ a) (a1 : a < 4294967296) (b0 : 0 ≤ b) (b1 : b < 4294967296) (f0 : 0 ≤ f) (f1 : f < 4294967296)
    (hs1 : sgn H (a % M) = false) (hs2 : sgn H (b % M) = true) (hs : sgn H (mulL true M H a b) = false) :
    Calls Try.prog 11 #[.bool true, .int .i64 s, .int .u32 a, .int .u32 b, .int .u32 f] w fun e w' => e = .returned (.tuple #[.int .u32 (mulL true M H a b), .int .u32 (mulU true M H a b), .int .u32 (mulF true M H a b f), .int .i64 0]) ∧ Grown w w' := by
  have hk := hS.ok
  obtain ⟨sp, hZ⟩ := hS.sz
  have mt := hS.pow.2.2.2.2.1
  have mp := hS.pow.2.2.2.2.2.1
  have w8 : ((W : Int) == 0) = false := by have := hS.pow.2.2.1; simp; omega
  have ww : IntKind.u64.wrap (W : Int) = (W : Int) := by have := hS.pow.2.2.2.1; rw [wrap_u64']; omega
  have w2 : IntKind.i64.wrap (2 * (W : Int)) = 2 * (W : Int) := by have := hS.pow.2.2.2.1; rw [wrap_i64']; omega
  have wm : IntKind.u64.wrap (2 ^ W) = M := by rw [pw_cast, ← hS.pow.1, wrap_u64']; omega
  have wm' : IntKind.u64.wrap (M - 1) = M - 1 := by rw [wrap_u64']; omega
  have mw : min W 64 = W := by have := hS.pow.2.2.2.1; omega
  have wa : IntKind.u64.wrap a = a := by rw [wrap_u64']; omega
  have wb : IntKind.u64.wrap b = b := by rw [wrap_u64']; omega
  have a2 : a < 18446744073709551616 := by omega
  have b2 : b < 18446744073709551616 := by omega
  have hx := mod_bd mp a
  have hy := mod_bd mp b
  have hP := mulP_bd hS false a b
  have wp : IntKind.u64.wrap (a % M * (b % M)) = a % M * (b % M) := by rw [wrap_u64']; exact Int.emod_eq_of_lt (hP.2.2.2 rfl) (Int.lt_of_le_of_lt hP.2.1 (by decide))
  have hm := magM_bd hS hx.1 hx.2 hy.1 hy.2
  have wq : IntKind.u64.wrap (mag M H (a % M) * mag M H (b % M)) = mag M H (a % M) * mag M H (b % M) := by rw [wrap_u64']; exact Int.emod_eq_of_lt hm.1 hm.2.2
  have e1 : magP M H (a % M) (b % M) = (M * M - mag M H (a % M) * mag M H (b % M)) % (M * M) := by unfold magP; rw [hs1, hs2]; rfl
  have hb := magP_bd hS hx.1 hx.2 hy.1 hy.2
  have hl := magP_lo hS a b
  have HL : Hid (0 ≤ mulL true M H a b ∧ mulL true M H a b < M) := mulL_bd hS true a b
  have HU : Hid (0 ≤ mulU true M H a b ∧ mulU true M H a b < M) := mulU_bd hS true a b
  have HH : Hid (∀ w : World, Calls Try.prog 27 #[.int .u64 (magP M H (a % M) (b % M)), .int .i64 (W : Int)] w fun e w' => e = .returned (.tuple #[.int .u64 (mulL true M H a b), .int .u64 (mulU true M H a b)]) ∧ w' = w) := fun w => by
    have h := rhalves_any hS _ w hb.1 hb.2
    rw [hl.1, hl.2] at h
    exact h
  have HN : Hid (∀ w : World, Calls Try.prog 26 #[.int .u64 (mag M H (a % M) * mag M H (b % M)), .int .i64 (2 * (W : Int))] w fun e w' => e = .returned (.int .u64 (magP M H (a % M) (b % M))) ∧ w' = w) := fun w => by
    rw [e1]; exact negated_any hS.sb2 _ w hm.1 hm.2.1
  have HX : Hid (∀ w : World, Calls Try.prog 25 #[.int .u64 (a % M), .int .i64 (W : Int)] w fun e w' => e = .returned (.tuple #[.int .u64 (mag M H (a % M)), .bool false]) ∧ w' = w) := fun w => magnitude_is hS.sb _ _ hs1 w hx.1 hx.2
  have HY : Hid (∀ w : World, Calls Try.prog 25 #[.int .u64 (b % M), .int .i64 (W : Int)] w fun e w' => e = .returned (.tuple #[.int .u64 (mag M H (b % M)), .bool true]) ∧ w' = w) := fun w => magnitude_is hS.sb _ _ hs2 w hy.1 hy.2
  have HSG : Hid (∀ w : World, Calls Try.prog 28 #[.int .u64 (mulL true M H a b), .int .i64 (W : Int)] w fun e w' => e = .returned (.bool false) ∧ w' = w) := fun w => SignB_is hS.sb _ _ hs w HL.out.1 HL.out.2
  have wl : IntKind.u32.wrap (mulL true M H a b) = mulL true M H a b := Int.emod_eq_of_lt HL.out.1 (Int.lt_of_lt_of_le HL.out.2 mt)
  have wu : IntKind.u32.wrap (mulU true M H a b) = mulU true M H a b := Int.emod_eq_of_lt HU.out.1 (Int.lt_of_lt_of_le HU.out.2 mt)
  have HF : Hid (byF H (mulL true M H a b) (setF (setF (setF f 1 (mulU true M H a b != 0)) 2048 (mulU true M H a b != 0)) 16 false) = mulF true M H a b f) := (by unfold mulF mulC mulX; rw [hs]; rfl : byF H (mulL true M H a b) (setF (setF (setF f 1 (mulU true M H a b != 0)) 2048 (mulU true M H a b != 0)) 16 false) = mulF true M H a b f)
  have B1 : Hid _ := bd1 f0 f1 1 fl1 (mulU true M H a b != 0)
  have B2 : Hid _ := bd2 f0 f1 1 2048 fl1 fl2048 (mulU true M H a b != 0) (mulU true M H a b != 0)
  have B3 : Hid _ := bd3 f0 f1 1 2048 16 fl1 fl2048 fl16 (mulU true M H a b != 0) (mulU true M H a b != 0) false
  clear hs hs1 hs2 hl hb e1 hm hP hx hy
  go_enter Try.func11, Try.ntmps11
  go_wp2_with fail
  refine (Bits_ok hZ _).mono ?_; rintro e w1 ⟨rfl, hw⟩; replace hw := hw.symm; subst hw
  go_wp2_with fail
  refine (Cut_any hZ _ _ a0 a2).mono ?_; rintro e w1 ⟨rfl, hw⟩; replace hw := hw.symm; subst hw
  go_wp2_with fail
  refine (Cut_any hZ _ _ b0 b2).mono ?_; rintro e w1 ⟨rfl, hw⟩; replace hw := hw.symm; subst hw
  go_wp2_with fail
  refine (HX.out _).mono ?_; rintro e w1 ⟨rfl, hw⟩; replace hw := hw.symm; subst hw
  go_wp2_with fail
  refine (HY.out _).mono ?_; rintro e w1 ⟨rfl, hw⟩; replace hw := hw.symm; subst hw
  go_wp2_with fail
  refine (HN.out _).mono ?_; rintro e w1 ⟨rfl, hw⟩; replace hw := hw.symm; subst hw
  go_wp2_with fail
  refine (HH.out _).mono ?_; rintro e w1 ⟨rfl, hw⟩; replace hw := hw.symm; subst hw
  go_wp2_with fail
  refine (HSG.out _).mono ?_; rintro e w1 ⟨rfl, hw⟩; replace hw := hw.symm; subst hw
  go_wp2_with fail
  refine (Set_any _ _ (mulU true M H a b != 0) _ f0 f1 fl1).mono ?_; rintro e w1 ⟨rfl, hw⟩; replace hw := hw.symm; subst hw
  go_wp2_with fail
  refine (Set_any _ _ (mulU true M H a b != 0) _ B1.out.1 B1.out.2 fl2048).mono ?_; rintro e w1 ⟨rfl, hw⟩; replace hw := hw.symm; subst hw
  go_wp2_with fail
  refine (Set_any _ _ _ _ B2.out.1 B2.out.2 fl16).mono ?_; rintro e w1 ⟨rfl, hw⟩; replace hw := hw.symm; subst hw
  go_wp2_with fail
  refine (By_any hZ _ _ _ HL.out.1 HL.out.2 B3.out.1 B3.out.2).mono ?_; rintro e w1 ⟨rfl, hw⟩; replace hw := hw.symm; subst hw
  go_wp2
  exact bodyPost_ret (v := .tuple #[.int .u32 (mulL true M H a b), .int .u32 (mulU true M H a b), .int .u32 (byF H (mulL true M H a b) (setF (setF (setF f 1 (mulU true M H a b != 0)) 2048 (mulU true M H a b != 0)) 16 false)), .int .i64 0]) (by simp [results, Try.results11, go_sem]) rfl
    ⟨ret_four rfl rfl HF.out rfl, Grown.refl _⟩

set_option maxHeartbeats 1000000 in
theorem rMul_ftt {s H M : Int} {W : Nat} (hS : Sw s H M W) (a b f : Int) (w : World) (a0 : 0 ≤ a) (a1 : a < 4294967296) (b0 : 0 ≤ b) (b1 : b < 4294967296) (f0 : 0 ≤ f) (f1 : f < 4294967296)
    (hs1 : sgn H (a % M) = false) (hs2 : sgn H (b % M) = true) (hs : sgn H (mulL true M H a b) = true) :
    Calls Try.prog 11 #[.bool true, .int .i64 s, .int .u32 a, .int .u32 b, .int .u32 f] w fun e w' => e = .returned (.tuple #[.int .u32 (mulL true M H a b), .int .u32 (mulU true M H a b), .int .u32 (mulF true M H a b f), .int .i64 0]) ∧ Grown w w' := by
  have hk := hS.ok
  obtain ⟨sp, hZ⟩ := hS.sz
  have mt := hS.pow.2.2.2.2.1
  have mp := hS.pow.2.2.2.2.2.1
  have w8 : ((W : Int) == 0) = false := by have := hS.pow.2.2.1; simp; omega
  have ww : IntKind.u64.wrap (W : Int) = (W : Int) := by have := hS.pow.2.2.2.1; rw [wrap_u64']; omega
  have w2 : IntKind.i64.wrap (2 * (W : Int)) = 2 * (W : Int) := by have := hS.pow.2.2.2.1; rw [wrap_i64']; omega
  have wm : IntKind.u64.wrap (2 ^ W) = M := by rw [pw_cast, ← hS.pow.1, wrap_u64']; omega
  have wm' : IntKind.u64.wrap (M - 1) = M - 1 := by rw [wrap_u64']; omega
  have mw : min W 64 = W := by have := hS.pow.2.2.2.1; omega
  have wa : IntKind.u64.wrap a = a := by rw [wrap_u64']; omega
  have wb : IntKind.u64.wrap b = b := by rw [wrap_u64']; omega
  have a2 : a < 18446744073709551616 := by omega
  have b2 : b < 18446744073709551616 := by omega
  have hx := mod_bd mp a
  have hy := mod_bd mp b
  have hP := mulP_bd hS false a b
  have wp : IntKind.u64.wrap (a % M * (b % M)) = a % M * (b % M) := by rw [wrap_u64']; exact Int.emod_eq_of_lt (hP.2.2.2 rfl) (Int.lt_of_le_of_lt hP.2.1 (by decide))
  have hm := magM_bd hS hx.1 hx.2 hy.1 hy.2
  have wq : IntKind.u64.wrap (mag M H (a % M) * mag M H (b % M)) = mag M H (a % M) * mag M H (b % M) := by rw [wrap_u64']; exact Int.emod_eq_of_lt hm.1 hm.2.2
  have e1 : magP M H (a % M) (b % M) = (M * M - mag M H (a % M) * mag M H (b % M)) % (M * M) := by unfold magP; rw [hs1, hs2]; rfl
  have hb := magP_bd hS hx.1 hx.2 hy.1 hy.2
  have hl := magP_lo hS a b
  have HL : Hid (0 ≤ mulL true M H a b ∧ mulL true M H a b < M) := mulL_bd hS true a b
  have HU : Hid (0 ≤ mulU true M H a b ∧ mulU true M H a b < M) := mulU_bd hS true a b
  have HH : Hid (∀ w : World, Calls Try.prog 27 #[.int .u64 (magP M H (a % M) (b % M)), .int .i64 (W : Int)] w fun e w' => e = .returned (.tuple #[.int .u64 (mulL true M H a b), .int .u64 (mulU true M H a b)]) ∧ w' = w) := fun w => by
    have h := rhalves_any hS _ w hb.1 hb.2
    rw [hl.1, hl.2] at h
    exact h
  have HN : Hid (∀ w : World, Calls Try.prog 26 #[.int .u64 (mag M H (a % M) * mag M H (b % M)), .int .i64 (2 * (W : Int))] w fun e w' => e = .returned (.int .u64 (magP M H (a % M) (b % M))) ∧ w' = w) := fun w => by
    rw [e1]; exact negated_any hS.sb2 _ w hm.1 hm.2.1
  have HX : Hid (∀ w : World, Calls Try.prog 25 #[.int .u64 (a % M), .int .i64 (W : Int)] w fun e w' => e = .returned (.tuple #[.int .u64 (mag M H (a % M)), .bool false]) ∧ w' = w) := fun w => magnitude_is hS.sb _ _ hs1 w hx.1 hx.2
  have HY : Hid (∀ w : World, Calls Try.prog 25 #[.int .u64 (b % M), .int .i64 (W : Int)] w fun e w' => e = .returned (.tuple #[.int .u64 (mag M H (b % M)), .bool true]) ∧ w' = w) := fun w => magnitude_is hS.sb _ _ hs2 w hy.1 hy.2
  have HSG : Hid (∀ w : World, Calls Try.prog 28 #[.int .u64 (mulL true M H a b), .int .i64 (W : Int)] w fun e w' => e = .returned (.bool true) ∧ w' = w) := fun w => SignB_is hS.sb _ _ hs w HL.out.1 HL.out.2
  have wl : IntKind.u32.wrap (mulL true M H a b) = mulL true M H a b := Int.emod_eq_of_lt HL.out.1 (Int.lt_of_lt_of_le HL.out.2 mt)
  have wu : IntKind.u32.wrap (mulU true M H a b) = mulU true M H a b := Int.emod_eq_of_lt HU.out.1 (Int.lt_of_lt_of_le HU.out.2 mt)
  have HF : Hid (byF H (mulL true M H a b) (setF (setF (setF f 1 (mulU true M H a b != (M - 1))) 2048 (mulU true M H a b != (M - 1))) 16 false) = mulF true M H a b f) := (by unfold mulF mulC mulX; rw [hs]; rfl : byF H (mulL true M H a b) (setF (setF (setF f 1 (mulU true M H a b != (M - 1))) 2048 (mulU true M H a b != (M - 1))) 16 false) = mulF true M H a b f)
  have B1 : Hid _ := bd1 f0 f1 1 fl1 (mulU true M H a b != (M - 1))
  have B2 : Hid _ := bd2 f0 f1 1 2048 fl1 fl2048 (mulU true M H a b != (M - 1)) (mulU true M H a b != (M - 1))
  have B3 : Hid _ := bd3 f0 f1 1 2048 16 fl1 fl2048 fl16 (mulU true M H a b != (M - 1)) (mulU true M H a b != (M - 1)) false
  clear hs hs1 hs2 hl hb e1 hm hP hx hy
  go_enter Try.func11, Try.ntmps11
  go_wp2_with fail
  refine (Bits_ok hZ _).mono ?_; rintro e w1 ⟨rfl, hw⟩; replace hw := hw.symm; subst hw
  go_wp2_with fail
  refine (Cut_any hZ _ _ a0 a2).mono ?_; rintro e w1 ⟨rfl, hw⟩; replace hw := hw.symm; subst hw
  go_wp2_with fail
  refine (Cut_any hZ _ _ b0 b2).mono ?_; rintro e w1 ⟨rfl, hw⟩; replace hw := hw.symm; subst hw
  go_wp2_with fail
  refine (HX.out _).mono ?_; rintro e w1 ⟨rfl, hw⟩; replace hw := hw.symm; subst hw
  go_wp2_with fail
  refine (HY.out _).mono ?_; rintro e w1 ⟨rfl, hw⟩; replace hw := hw.symm; subst hw
  go_wp2_with fail
  refine (HN.out _).mono ?_; rintro e w1 ⟨rfl, hw⟩; replace hw := hw.symm; subst hw
  go_wp2_with fail
  refine (HH.out _).mono ?_; rintro e w1 ⟨rfl, hw⟩; replace hw := hw.symm; subst hw
  go_wp2_with fail
  refine (HSG.out _).mono ?_; rintro e w1 ⟨rfl, hw⟩; replace hw := hw.symm; subst hw
  go_wp2_with fail
  refine (Set_any _ _ (mulU true M H a b != (M - 1)) _ f0 f1 fl1).mono ?_; rintro e w1 ⟨rfl, hw⟩; replace hw := hw.symm; subst hw
  go_wp2_with fail
  refine (Set_any _ _ (mulU true M H a b != (M - 1)) _ B1.out.1 B1.out.2 fl2048).mono ?_; rintro e w1 ⟨rfl, hw⟩; replace hw := hw.symm; subst hw
  go_wp2_with fail
  refine (Set_any _ _ _ _ B2.out.1 B2.out.2 fl16).mono ?_; rintro e w1 ⟨rfl, hw⟩; replace hw := hw.symm; subst hw
  go_wp2_with fail
  refine (By_any hZ _ _ _ HL.out.1 HL.out.2 B3.out.1 B3.out.2).mono ?_; rintro e w1 ⟨rfl, hw⟩; replace hw := hw.symm; subst hw
  go_wp2
  exact bodyPost_ret (v := .tuple #[.int .u32 (mulL true M H a b), .int .u32 (mulU true M H a b), .int .u32 (byF H (mulL true M H a b) (setF (setF (setF f 1 (mulU true M H a b != (M - 1))) 2048 (mulU true M H a b != (M - 1))) 16 false)), .int .i64 0]) (by simp [results, Try.results11, go_sem]) rfl
    ⟨ret_four rfl rfl HF.out rfl, Grown.refl _⟩

set_option maxHeartbeats 1000000 in
theorem rMul_tff {s H M : Int} {W : Nat} (hS : Sw s H M W) (a b f : Int) (w : World) (a0 : 0 ≤ a) (a1 : a < 4294967296) (b0 : 0 ≤ b) (b1 : b < 4294967296) (f0 : 0 ≤ f) (f1 : f < 4294967296)
    (hs1 : sgn H (a % M) = true) (hs2 : sgn H (b % M) = false) (hs : sgn H (mulL true M H a b) = false) :
    Calls Try.prog 11 #[.bool true, .int .i64 s, .int .u32 a, .int .u32 b, .int .u32 f] w fun e w' => e = .returned (.tuple #[.int .u32 (mulL true M H a b), .int .u32 (mulU true M H a b), .int .u32 (mulF true M H a b f), .int .i64 0]) ∧ Grown w w' := by
  have hk := hS.ok
  obtain ⟨sp, hZ⟩ := hS.sz
  have mt := hS.pow.2.2.2.2.1
  have mp := hS.pow.2.2.2.2.2.1
  have w8 : ((W : Int) == 0) = false := by have := hS.pow.2.2.1; simp; omega
  have ww : IntKind.u64.wrap (W : Int) = (W : Int) := by have := hS.pow.2.2.2.1; rw [wrap_u64']; omega
  have w2 : IntKind.i64.wrap (2 * (W : Int)) = 2 * (W : Int) := by have := hS.pow.2.2.2.1; rw [wrap_i64']; omega
  have wm : IntKind.u64.wrap (2 ^ W) = M := by rw [pw_cast, ← hS.pow.1, wrap_u64']; omega
  have wm' : IntKind.u64.wrap (M - 1) = M - 1 := by rw [wrap_u64']; omega
  have mw : min W 64 = W := by have := hS.pow.2.2.2.1; omega
  have wa : IntKind.u64.wrap a = a := by rw [wrap_u64']; omega
  have wb : IntKind.u64.wrap b = b := by rw [wrap_u64']; omega
  have a2 : a < 18446744073709551616 := by omega
  have b2 : b < 18446744073709551616 := by omega
  have hx := mod_bd mp a
  have hy := mod_bd mp b
  have hP := mulP_bd hS false a b
  have wp : IntKind.u64.wrap (a % M * (b % M)) = a % M * (b % M) := by rw [wrap_u64']; exact Int.emod_eq_of_lt (hP.2.2.2 rfl) (Int.lt_of_le_of_lt hP.2.1 (by decide))
  have hm := magM_bd hS hx.1 hx.2 hy.1 hy.2
  have wq : IntKind.u64.wrap (mag M H (a % M) * mag M H (b % M)) = mag M H (a % M) * mag M H (b % M) := by rw [wrap_u64']; exact Int.emod_eq_of_lt hm.1 hm.2.2
  have e1 : magP M H (a % M) (b % M) = (M * M - mag M H (a % M) * mag M H (b % M)) % (M * M) := by unfold magP; rw [hs1, hs2]; rfl
  have hb := magP_bd hS hx.1 hx.2 hy.1 hy.2
  have hl := magP_lo hS a b
  have HL : Hid (0 ≤ mulL true M H a b ∧ mulL true M H a b < M) := mulL_bd hS true a b
  have HU : Hid (0 ≤ mulU true M H a b ∧ mulU true M H a b < M) := mulU_bd hS true a b
  have HH : Hid (∀ w : World, Calls Try.prog 27 #[.int .u64 (magP M H (a % M) (b % M)), .int .i64 (W : Int)] w fun e w' => e = .returned (.tuple #[.int .u64 (mulL true M H a b), .int .u64 (mulU true M H a b)]) ∧ w' = w) := fun w => by
    have h := rhalves_any hS _ w hb.1 hb.2
    rw [hl.1, hl.2] at h
    exact h
  have HN : Hid (∀ w : World, Calls Try.prog 26 #[.int .u64 (mag M H (a % M) * mag M H (b % M)), .int .i64 (2 * (W : Int))] w fun e w' => e = .returned (.int .u64 (magP M H (a % M) (b % M))) ∧ w' = w) := fun w => by
    rw [e1]; exact negated_any hS.sb2 _ w hm.1 hm.2.1
  have HX : Hid (∀ w : World, Calls Try.prog 25 #[.int .u64 (a % M), .int .i64 (W : Int)] w fun e w' => e = .returned (.tuple #[.int .u64 (mag M H (a % M)), .bool true]) ∧ w' = w) := fun w => magnitude_is hS.sb _ _ hs1 w hx.1 hx.2
  have HY : Hid (∀ w : World, Calls Try.prog 25 #[.int .u64 (b % M), .int .i64 (W : Int)] w fun e w' => e = .returned (.tuple #[.int .u64 (mag M H (b % M)), .bool false]) ∧ w' = w) := fun w => magnitude_is hS.sb _ _ hs2 w hy.1 hy.2
  have HSG : Hid (∀ w : World, Calls Try.prog 28 #[.int .u64 (mulL true M H a b), .int .i64 (W : Int)] w fun e w' => e = .returned (.bool false) ∧ w' = w) := fun w => SignB_is hS.sb _ _ hs w HL.out.1 HL.out.2
  have wl : IntKind.u32.wrap (mulL true M H a b) = mulL true M H a b := Int.emod_eq_of_lt HL.out.1 (Int.lt_of_lt_of_le HL.out.2 mt)
  have wu : IntKind.u32.wrap (mulU true M H a b) = mulU true M H a b := Int.emod_eq_of_lt HU.out.1 (Int.lt_of_lt_of_le HU.out.2 mt)
  have HF : Hid (byF H (mulL true M H a b) (setF (setF (setF f 1 (mulU true M H a b != 0)) 2048 (mulU true M H a b != 0)) 16 false) = mulF true M H a b f) := (by unfold mulF mulC mulX; rw [hs]; rfl : byF H (mulL true M H a b) (setF (setF (setF f 1 (mulU true M H a b != 0)) 2048 (mulU true M H a b != 0)) 16 false) = mulF true M H a b f)
  have B1 : Hid _ := bd1 f0 f1 1 fl1 (mulU true M H a b != 0)
  have B2 : Hid _ := bd2 f0 f1 1 2048 fl1 fl2048 (mulU true M H a b != 0) (mulU true M H a b != 0)
  have B3 : Hid _ := bd3 f0 f1 1 2048 16 fl1 fl2048 fl16 (mulU true M H a b != 0) (mulU true M H a b != 0) false
  clear hs hs1 hs2 hl hb e1 hm hP hx hy
  go_enter Try.func11, Try.ntmps11
  go_wp2_with fail
  refine (Bits_ok hZ _).mono ?_; rintro e w1 ⟨rfl, hw⟩; replace hw := hw.symm; subst hw
  go_wp2_with fail
  refine (Cut_any hZ _ _ a0 a2).mono ?_; rintro e w1 ⟨rfl, hw⟩; replace hw := hw.symm; subst hw
  go_wp2_with fail
  refine (Cut_any hZ _ _ b0 b2).mono ?_; rintro e w1 ⟨rfl, hw⟩; replace hw := hw.symm; subst hw
  go_wp2_with fail
  refine (HX.out _).mono ?_; rintro e w1 ⟨rfl, hw⟩; replace hw := hw.symm; subst hw
  go_wp2_with fail
  refine (HY.out _).mono ?_; rintro e w1 ⟨rfl, hw⟩; replace hw := hw.symm; subst hw
  go_wp2_with fail
  refine (HN.out _).mono ?_; rintro e w1 ⟨rfl, hw⟩; replace hw := hw.symm; subst hw
  go_wp2_with fail
  refine (HH.out _).mono ?_; rintro e w1 ⟨rfl, hw⟩; replace hw := hw.symm; subst hw
  go_wp2_with fail
  refine (HSG.out _).mono ?_; rintro e w1 ⟨rfl, hw⟩; replace hw := hw.symm; subst hw
  go_wp2_with fail
  refine (Set_any _ _ (mulU true M H a b != 0) _ f0 f1 fl1).mono ?_; rintro e w1 ⟨rfl, hw⟩; replace hw := hw.symm; subst hw
  go_wp2_with fail
  refine (Set_any _ _ (mulU true M H a b != 0) _ B1.out.1 B1.out.2 fl2048).mono ?_; rintro e w1 ⟨rfl, hw⟩; replace hw := hw.symm; subst hw
  go_wp2_with fail
  refine (Set_any _ _ _ _ B2.out.1 B2.out.2 fl16).mono ?_; rintro e w1 ⟨rfl, hw⟩; replace hw := hw.symm; subst hw
  go_wp2_with fail
  refine (By_any hZ _ _ _ HL.out.1 HL.out.2 B3.out.1 B3.out.2).mono ?_; rintro e w1 ⟨rfl, hw⟩; replace hw := hw.symm; subst hw
  go_wp2
  exact bodyPost_ret (v := .tuple #[.int .u32 (mulL true M H a b), .int .u32 (mulU true M H a b), .int .u32 (byF H (mulL true M H a b) (setF (setF (setF f 1 (mulU true M H a b != 0)) 2048 (mulU true M H a b != 0)) 16 false)), .int .i64 0]) (by simp [results, Try.results11, go_sem]) rfl
    ⟨ret_four rfl rfl HF.out rfl, Grown.refl _⟩

set_option maxHeartbeats 1000000 in
theorem rMul_tft {s H M : Int} {W : Nat} (hS : Sw s H M W) (a b f : Int) (w : World) (a0 : 0 ≤ a) (a1 : a < 4294967296) (b0 : 0 ≤ b) (b1 : b < 4294967296) (f0 : 0 ≤ f) (f1 : f < 4294967296)
    (hs1 : sgn H (a % M) = true) (hs2 : sgn H (b % M) = false) (hs : sgn H (mulL true M H a b) = true) :
    Calls Try.prog 11 #[.bool true, .int .i64 s, .int .u32 a, .int .u32 b, .int .u32 f] w fun e w' => e = .returned (.tuple #[.int .u32 (mulL true M H a b), .int .u32 (mulU true M H a b), .int .u32 (mulF true M H a b f), .int .i64 0]) ∧ Grown w w' := by
  have hk := hS.ok
  obtain ⟨sp, hZ⟩ := hS.sz
  have mt := hS.pow.2.2.2.2.1
  have mp := hS.pow.2.2.2.2.2.1
  have w8 : ((W : Int) == 0) = false := by have := hS.pow.2.2.1; simp; omega
  have ww : IntKind.u64.wrap (W : Int) = (W : Int) := by have := hS.pow.2.2.2.1; rw [wrap_u64']; omega
  have w2 : IntKind.i64.wrap (2 * (W : Int)) = 2 * (W : Int) := by have := hS.pow.2.2.2.1; rw [wrap_i64']; omega
  have wm : IntKind.u64.wrap (2 ^ W) = M := by rw [pw_cast, ← hS.pow.1, wrap_u64']; omega
  have wm' : IntKind.u64.wrap (M - 1) = M - 1 := by rw [wrap_u64']; omega
  have mw : min W 64 = W := by have := hS.pow.2.2.2.1; omega
  have wa : IntKind.u64.wrap a = a := by rw [wrap_u64']; omega
  have wb : IntKind.u64.wrap b = b := by rw [wrap_u64']; omega
  have a2 : a < 18446744073709551616 := by omega
  have b2 : b < 18446744073709551616 := by omega
  have hx := mod_bd mp a
  have hy := mod_bd mp b
  have hP := mulP_bd hS false a b
  have wp : IntKind.u64.wrap (a % M * (b % M)) = a % M * (b % M) := by rw [wrap_u64']; exact Int.emod_eq_of_lt (hP.2.2.2 rfl) (Int.lt_of_le_of_lt hP.2.1 (by decide))
  have hm := magM_bd hS hx.1 hx.2 hy.1 hy.2
  have wq : IntKind.u64.wrap (mag M H (a % M) * mag M H (b % M)) = mag M H (a % M) * mag M H (b % M) := by rw [wrap_u64']; exact Int.emod_eq_of_lt hm.1 hm.2.2
  have e1 : magP M H (a % M) (b % M) = (M * M - mag M H (a % M) * mag M H (b % M)) % (M * M) := by unfold magP; rw [hs1, hs2]; rfl
  have hb := magP_bd hS hx.1 hx.2 hy.1 hy.2
  have hl := magP_lo hS a b
  have HL : Hid (0 ≤ mulL true M H a b ∧ mulL true M H a b < M) := mulL_bd hS true a b
  have HU : Hid (0 ≤ mulU true M H a b ∧ mulU true M H a b < M) := mulU_bd hS true a b
  have HH : Hid (∀ w : World, Calls Try.prog 27 #[.int .u64 (magP M H (a % M) (b % M)), .int .i64 (W : Int)] w fun e w' => e = .returned (.tuple #[.int .u64 (mulL true M H a b), .int .u64 (mulU true M H a b)]) ∧ w' = w) := fun w => by
    have h := rhalves_any hS _ w hb.1 hb.2
    rw [hl.1, hl.2] at h
    exact h
  have HN : Hid (∀ w : World, Calls Try.prog 26 #[.int .u64 (mag M H (a % M) * mag M H (b % M)), .int .i64 (2 * (W : Int))] w fun e w' => e = .returned (.int .u64 (magP M H (a % M) (b % M))) ∧ w' = w) := fun w => by
    rw [e1]; exact negated_any hS.sb2 _ w hm.1 hm.2.1
  have HX : Hid (∀ w : World, Calls Try.prog 25 #[.int .u64 (a % M), .int .i64 (W : Int)] w fun e w' => e = .returned (.tuple #[.int .u64 (mag M H (a % M)), .bool true]) ∧ w' = w) := fun w => magnitude_is hS.sb _ _ hs1 w hx.1 hx.2
  have HY : Hid (∀ w : World, Calls Try.prog 25 #[.int .u64 (b % M), .int .i64 (W : Int)] w fun e w' => e = .returned (.tuple #[.int .u64 (mag M H (b % M)), .bool false]) ∧ w' = w) := fun w => magnitude_is hS.sb _ _ hs2 w hy.1 hy.2
  have HSG : Hid (∀ w : World, Calls Try.prog 28 #[.int .u64 (mulL true M H a b), .int .i64 (W : Int)] w fun e w' => e = .returned (.bool true) ∧ w' = w) := fun w => SignB_is hS.sb _ _ hs w HL.out.1 HL.out.2
  have wl : IntKind.u32.wrap (mulL true M H a b) = mulL true M H a b := Int.emod_eq_of_lt HL.out.1 (Int.lt_of_lt_of_le HL.out.2 mt)
  have wu : IntKind.u32.wrap (mulU true M H a b) = mulU true M H a b := Int.emod_eq_of_lt HU.out.1 (Int.lt_of_lt_of_le HU.out.2 mt)
  have HF : Hid (byF H (mulL true M H a b) (setF (setF (setF f 1 (mulU true M H a b != (M - 1))) 2048 (mulU true M H a b != (M - 1))) 16 false) = mulF true M H a b f) := (by unfold mulF mulC mulX; rw [hs]; rfl : byF H (mulL true M H a b) (setF (setF (setF f 1 (mulU true M H a b != (M - 1))) 2048 (mulU true M H a b != (M - 1))) 16 false) = mulF true M H a b f)
  have B1 : Hid _ := bd1 f0 f1 1 fl1 (mulU true M H a b != (M - 1))
  have B2 : Hid _ := bd2 f0 f1 1 2048 fl1 fl2048 (mulU true M H a b != (M - 1)) (mulU true M H a b != (M - 1))
  have B3 : Hid _ := bd3 f0 f1 1 2048 16 fl1 fl2048 fl16 (mulU true M H a b != (M - 1)) (mulU true M H a b != (M - 1)) false
  clear hs hs1 hs2 hl hb e1 hm hP hx hy
  go_enter Try.func11, Try.ntmps11
  go_wp2_with fail
  refine (Bits_ok hZ _).mono ?_; rintro e w1 ⟨rfl, hw⟩; replace hw := hw.symm; subst hw
  go_wp2_with fail
  refine (Cut_any hZ _ _ a0 a2).mono ?_; rintro e w1 ⟨rfl, hw⟩; replace hw := hw.symm; subst hw
  go_wp2_with fail
  refine (Cut_any hZ _ _ b0 b2).mono ?_; rintro e w1 ⟨rfl, hw⟩; replace hw := hw.symm; subst hw
  go_wp2_with fail
  refine (HX.out _).mono ?_; rintro e w1 ⟨rfl, hw⟩; replace hw := hw.symm; subst hw
  go_wp2_with fail
  refine (HY.out _).mono ?_; rintro e w1 ⟨rfl, hw⟩; replace hw := hw.symm; subst hw
  go_wp2_with fail
  refine (HN.out _).mono ?_; rintro e w1 ⟨rfl, hw⟩; replace hw := hw.symm; subst hw
  go_wp2_with fail
  refine (HH.out _).mono ?_; rintro e w1 ⟨rfl, hw⟩; replace hw := hw.symm; subst hw
  go_wp2_with fail
  refine (HSG.out _).mono ?_; rintro e w1 ⟨rfl, hw⟩; replace hw := hw.symm; subst hw
  go_wp2_with fail
  refine (Set_any _ _ (mulU true M H a b != (M - 1)) _ f0 f1 fl1).mono ?_; rintro e w1 ⟨rfl, hw⟩; replace hw := hw.symm; subst hw
  go_wp2_with fail
  refine (Set_any _ _ (mulU true M H a b != (M - 1)) _ B1.out.1 B1.out.2 fl2048).mono ?_; rintro e w1 ⟨rfl, hw⟩; replace hw := hw.symm; subst hw
  go_wp2_with fail
  refine (Set_any _ _ _ _ B2.out.1 B2.out.2 fl16).mono ?_; rintro e w1 ⟨rfl, hw⟩; replace hw := hw.symm; subst hw
  go_wp2_with fail
  refine (By_any hZ _ _ _ HL.out.1 HL.out.2 B3.out.1 B3.out.2).mono ?_; rintro e w1 ⟨rfl, hw⟩; replace hw := hw.symm; subst hw
  go_wp2
  exact bodyPost_ret (v := .tuple #[.int .u32 (mulL true M H a b), .int .u32 (mulU true M H a b), .int .u32 (byF H (mulL true M H a b) (setF (setF (setF f 1 (mulU true M H a b != (M - 1))) 2048 (mulU true M H a b != (M - 1))) 16 false)), .int .i64 0]) (by simp [results, Try.results11, go_sem]) rfl
    ⟨ret_four rfl rfl HF.out rfl, Grown.refl _⟩

set_option maxHeartbeats 1000000 in
theorem rMul_ttf {s H M : Int} {W : Nat} (hS : Sw s H M W) (a b f : Int) (w : World) (a0 : 0 ≤ a) (a1 : a < 4294967296) (b0 : 0 ≤ b) (b1 : b < 4294967296) (f0 : 0 ≤ f) (f1 : f < 4294967296)
    (hs1 : sgn H (a % M) = true) (hs2 : sgn H (b % M) = true) (hs : sgn H (mulL true M H a b) = false) :
    Calls Try.prog 11 #[.bool true, .int .i64 s, .int .u32 a, .int .u32 b, .int .u32 f] w fun e w' => e = .returned (.tuple #[.int .u32 (mulL true M H a b), .int .u32 (mulU true M H a b), .int .u32 (mulF true M H a b f), .int .i64 0]) ∧ Grown w w' := by
  have hk := hS.ok
  obtain ⟨sp, hZ⟩ := hS.sz
  have mt := hS.pow.2.2.2.2.1
  have mp := hS.pow.2.2.2.2.2.1
  have w8 : ((W : Int) == 0) = false := by have := hS.pow.2.2.1; simp; omega
  have ww : IntKind.u64.wrap (W : Int) = (W : Int) := by have := hS.pow.2.2.2.1; rw [wrap_u64']; omega
  have w2 : IntKind.i64.wrap (2 * (W : Int)) = 2 * (W : Int) := by have := hS.pow.2.2.2.1; rw [wrap_i64']; omega
  have wm : IntKind.u64.wrap (2 ^ W) = M := by rw [pw_cast, ← hS.pow.1, wrap_u64']; omega
  have wm' : IntKind.u64.wrap (M - 1) = M - 1 := by rw [wrap_u64']; omega
  have mw : min W 64 = W := by have := hS.pow.2.2.2.1; omega
  have wa : IntKind.u64.wrap a = a := by rw [wrap_u64']; omega
  have wb : IntKind.u64.wrap b = b := by rw [wrap_u64']; omega
  have a2 : a < 18446744073709551616 := by omega
  have b2 : b < 18446744073709551616 := by omega
  have hx := mod_bd mp a
  have hy := mod_bd mp b
  have hP := mulP_bd hS false a b
  have wp : IntKind.u64.wrap (a % M * (b % M)) = a % M * (b % M) := by rw [wrap_u64']; exact Int.emod_eq_of_lt (hP.2.2.2 rfl) (Int.lt_of_le_of_lt hP.2.1 (by decide))
  have hm := magM_bd hS hx.1 hx.2 hy.1 hy.2
  have wq : IntKind.u64.wrap (mag M H (a % M) * mag M H (b % M)) = mag M H (a % M) * mag M H (b % M) := by rw [wrap_u64']; exact Int.emod_eq_of_lt hm.1 hm.2.2
  have e1 : magP M H (a % M) (b % M) = mag M H (a % M) * mag M H (b % M) := by unfold magP; rw [hs1, hs2]; rfl
  have hb := magP_bd hS hx.1 hx.2 hy.1 hy.2
  have hl := magP_lo hS a b
  rw [e1] at hb hl
  have HL : Hid (0 ≤ mulL true M H a b ∧ mulL true M H a b < M) := mulL_bd hS true a b
  have HU : Hid (0 ≤ mulU true M H a b ∧ mulU true M H a b < M) := mulU_bd hS true a b
  have HH : Hid (∀ w : World, Calls Try.prog 27 #[.int .u64 (mag M H (a % M) * mag M H (b % M)), .int .i64 (W : Int)] w fun e w' => e = .returned (.tuple #[.int .u64 (mulL true M H a b), .int .u64 (mulU true M H a b)]) ∧ w' = w) := fun w => by
    have h := rhalves_any hS _ w hb.1 hb.2
    rw [hl.1, hl.2] at h
    exact h
  have HX : Hid (∀ w : World, Calls Try.prog 25 #[.int .u64 (a % M), .int .i64 (W : Int)] w fun e w' => e = .returned (.tuple #[.int .u64 (mag M H (a % M)), .bool true]) ∧ w' = w) := fun w => magnitude_is hS.sb _ _ hs1 w hx.1 hx.2
  have HY : Hid (∀ w : World, Calls Try.prog 25 #[.int .u64 (b % M), .int .i64 (W : Int)] w fun e w' => e = .returned (.tuple #[.int .u64 (mag M H (b % M)), .bool true]) ∧ w' = w) := fun w => magnitude_is hS.sb _ _ hs2 w hy.1 hy.2
  have HSG : Hid (∀ w : World, Calls Try.prog 28 #[.int .u64 (mulL true M H a b), .int .i64 (W : Int)] w fun e w' => e = .returned (.bool false) ∧ w' = w) := fun w => SignB_is hS.sb _ _ hs w HL.out.1 HL.out.2
  have wl : IntKind.u32.wrap (mulL true M H a b) = mulL true M H a b := Int.emod_eq_of_lt HL.out.1 (Int.lt_of_lt_of_le HL.out.2 mt)
  have wu : IntKind.u32.wrap (mulU true M H a b) = mulU true M H a b := Int.emod_eq_of_lt HU.out.1 (Int.lt_of_lt_of_le HU.out.2 mt)
  have HF : Hid (byF H (mulL true M H a b) (setF (setF (setF f 1 (mulU true M H a b != 0)) 2048 (mulU true M H a b != 0)) 16 false) = mulF true M H a b f) := (by unfold mulF mulC mulX; rw [hs]; rfl : byF H (mulL true M H a b) (setF (setF (setF f 1 (mulU true M H a b != 0)) 2048 (mulU true M H a b != 0)) 16 false) = mulF true M H a b f)
  have B1 : Hid _ := bd1 f0 f1 1 fl1 (mulU true M H a b != 0)
  have B2 : Hid _ := bd2 f0 f1 1 2048 fl1 fl2048 (mulU true M H a b != 0) (mulU true M H a b != 0)
  have B3 : Hid _ := bd3 f0 f1 1 2048 16 fl1 fl2048 fl16 (mulU true M H a b != 0) (mulU true M H a b != 0) false
  clear hs hs1 hs2 hl hb e1 hm hP hx hy
  go_enter Try.func11, Try.ntmps11
  go_wp2_with fail
  refine (Bits_ok hZ _).mono ?_; rintro e w1 ⟨rfl, hw⟩; replace hw := hw.symm; subst hw
  go_wp2_with fail
  refine (Cut_any hZ _ _ a0 a2).mono ?_; rintro e w1 ⟨rfl, hw⟩; replace hw := hw.symm; subst hw
  go_wp2_with fail
  refine (Cut_any hZ _ _ b0 b2).mono ?_; rintro e w1 ⟨rfl, hw⟩; replace hw := hw.symm; subst hw
  go_wp2_with fail
  refine (HX.out _).mono ?_; rintro e w1 ⟨rfl, hw⟩; replace hw := hw.symm; subst hw
  go_wp2_with fail
  refine (HY.out _).mono ?_; rintro e w1 ⟨rfl, hw⟩; replace hw := hw.symm; subst hw
  go_wp2_with fail
  refine (HH.out _).mono ?_; rintro e w1 ⟨rfl, hw⟩; replace hw := hw.symm; subst hw
  go_wp2_with fail
  refine (HSG.out _).mono ?_; rintro e w1 ⟨rfl, hw⟩; replace hw := hw.symm; subst hw
  go_wp2_with fail
  refine (Set_any _ _ (mulU true M H a b != 0) _ f0 f1 fl1).mono ?_; rintro e w1 ⟨rfl, hw⟩; replace hw := hw.symm; subst hw
  go_wp2_with fail
  refine (Set_any _ _ (mulU true M H a b != 0) _ B1.out.1 B1.out.2 fl2048).mono ?_; rintro e w1 ⟨rfl, hw⟩; replace hw := hw.symm; subst hw
  go_wp2_with fail
  refine (Set_any _ _ _ _ B2.out.1 B2.out.2 fl16).mono ?_; rintro e w1 ⟨rfl, hw⟩; replace hw := hw.symm; subst hw
  go_wp2_with fail
  refine (By_any hZ _ _ _ HL.out.1 HL.out.2 B3.out.1 B3.out.2).mono ?_; rintro e w1 ⟨rfl, hw⟩; replace hw := hw.symm; subst hw
  go_wp2
  exact bodyPost_ret (v := .tuple #[.int .u32 (mulL true M H a b), .int .u32 (mulU true M H a b), .int .u32 (byF H (mulL true M H a b) (setF (setF (setF f 1 (mulU true M H a b != 0)) 2048 (mulU true M H a b != 0)) 16 false)), .int .i64 0]) (by simp [results, Try.results11, go_sem]) rfl
    ⟨ret_four rfl rfl HF.out rfl, Grown.refl _⟩

set_option maxHeartbeats 1000000 in
theorem rMul_ttt {s H M : Int} {W : Nat} (hS : Sw s H M W) (a b f : Int) (w : World) (a0 : 0 ≤ a) (a1 : a < 4294967296) (b0 : 0 ≤ b) (b1 : b < 4294967296) (f0 : 0 ≤ f) (f1 : f < 4294967296)
    (hs1 : sgn H (a % M) = true) (hs2 : sgn H (b % M) = true) (hs : sgn H (mulL true M H a b) = true) :
    Calls Try.prog 11 #[.bool true, .int .i64 s, .int .u32 a, .int .u32 b, .int .u32 f] w fun e w' => e = .returned (.tuple #[.int .u32 (mulL true M H a b), .int .u32 (mulU true M H a b), .int .u32 (mulF true M H a b f), .int .i64 0]) ∧ Grown w w' := by
  have hk := hS.ok
  obtain ⟨sp, hZ⟩ := hS.sz
  have mt := hS.pow.2.2.2.2.1
  have mp := hS.pow.2.2.2.2.2.1
  have w8 : ((W : Int) == 0) = false := by have := hS.pow.2.2.1; simp; omega
  have ww : IntKind.u64.wrap (W : Int) = (W : Int) := by have := hS.pow.2.2.2.1; rw [wrap_u64']; omega
  have w2 : IntKind.i64.wrap (2 * (W : Int)) = 2 * (W : Int) := by have := hS.pow.2.2.2.1; rw [wrap_i64']; omega
  have wm : IntKind.u64.wrap (2 ^ W) = M := by rw [pw_cast, ← hS.pow.1, wrap_u64']; omega
  have wm' : IntKind.u64.wrap (M - 1) = M - 1 := by rw [wrap_u64']; omega
  have mw : min W 64 = W := by have := hS.pow.2.2.2.1; omega
  have wa : IntKind.u64.wrap a = a := by rw [wrap_u64']; omega
  have wb : IntKind.u64.wrap b = b := by rw [wrap_u64']; omega
  have a2 : a < 18446744073709551616 := by omega
  have b2 : b < 18446744073709551616 := by omega
  have hx := mod_bd mp a
  have hy := mod_bd mp b
  have hP := mulP_bd hS false a b
  have wp : IntKind.u64.wrap (a % M * (b % M)) = a % M * (b % M) := by rw [wrap_u64']; exact Int.emod_eq_of_lt (hP.2.2.2 rfl) (Int.lt_of_le_of_lt hP.2.1 (by decide))
  have hm := magM_bd hS hx.1 hx.2 hy.1 hy.2
  have wq : IntKind.u64.wrap (mag M H (a % M) * mag M H (b % M)) = mag M H (a % M) * mag M H (b % M) := by rw [wrap_u64']; exact Int.emod_eq_of_lt hm.1 hm.2.2
  have e1 : magP M H (a % M) (b % M) = mag M H (a % M) * mag M H (b % M) := by unfold magP; rw [hs1, hs2]; rfl
  have hb := magP_bd hS hx.1 hx.2 hy.1 hy.2
  have hl := magP_lo hS a b
  rw [e1] at hb hl
  have HL : Hid (0 ≤ mulL true M H a b ∧ mulL true M H a b < M) := mulL_bd hS true a b
  have HU : Hid (0 ≤ mulU true M H a b ∧ mulU true M H a b < M) := mulU_bd hS true a b
  have HH : Hid (∀ w : World, Calls Try.prog 27 #[.int .u64 (mag M H (a % M) * mag M H (b % M)), .int .i64 (W : Int)] w fun e w' => e = .returned (.tuple #[.int .u64 (mulL true M H a b), .int .u64 (mulU true M H a b)]) ∧ w' = w) := fun w => by
    have h := rhalves_any hS _ w hb.1 hb.2
    rw [hl.1, hl.2] at h
    exact h
  have HX : Hid (∀ w : World, Calls Try.prog 25 #[.int .u64 (a % M), .int .i64 (W : Int)] w fun e w' => e = .returned (.tuple #[.int .u64 (mag M H (a % M)), .bool true]) ∧ w' = w) := fun w => magnitude_is hS.sb _ _ hs1 w hx.1 hx.2
  have HY : Hid (∀ w : World, Calls Try.prog 25 #[.int .u64 (b % M), .int .i64 (W : Int)] w fun e w' => e = .returned (.tuple #[.int .u64 (mag M H (b % M)), .bool true]) ∧ w' = w) := fun w => magnitude_is hS.sb _ _ hs2 w hy.1 hy.2
  have HSG : Hid (∀ w : World, Calls Try.prog 28 #[.int .u64 (mulL true M H a b), .int .i64 (W : Int)] w fun e w' => e = .returned (.bool true) ∧ w' = w) := fun w => SignB_is hS.sb _ _ hs w HL.out.1 HL.out.2
  have wl : IntKind.u32.wrap (mulL true M H a b) = mulL true M H a b := Int.emod_eq_of_lt HL.out.1 (Int.lt_of_lt_of_le HL.out.2 mt)
  have wu : IntKind.u32.wrap (mulU true M H a b) = mulU true M H a b := Int.emod_eq_of_lt HU.out.1 (Int.lt_of_lt_of_le HU.out.2 mt)
  have HF : Hid (byF H (mulL true M H a b) (setF (setF (setF f 1 (mulU true M H a b != (M - 1))) 2048 (mulU true M H a b != (M - 1))) 16 false) = mulF true M H a b f) := (by unfold mulF mulC mulX; rw [hs]; rfl : byF H (mulL true M H a b) (setF (setF (setF f 1 (mulU true M H a b != (M - 1))) 2048 (mulU true M H a b != (M - 1))) 16 false) = mulF true M H a b f)
  have B1 : Hid _ := bd1 f0 f1 1 fl1 (mulU true M H a b != (M - 1))
  have B2 : Hid _ := bd2 f0 f1 1 2048 fl1 fl2048 (mulU true M H a b != (M - 1)) (mulU true M H a b != (M - 1))
  have B3 : Hid _ := bd3 f0 f1 1 2048 16 fl1 fl2048 fl16 (mulU true M H a b != (M - 1)) (mulU true M H a b != (M - 1)) false
  clear hs hs1 hs2 hl hb e1 hm hP hx hy
  go_enter Try.func11, Try.ntmps11
  go_wp2_with fail
  refine (Bits_ok hZ _).mono ?_; rintro e w1 ⟨rfl, hw⟩; replace hw := hw.symm; subst hw
  go_wp2_with fail
  refine (Cut_any hZ _ _ a0 a2).mono ?_; rintro e w1 ⟨rfl, hw⟩; replace hw := hw.symm; subst hw
  go_wp2_with fail
  refine (Cut_any hZ _ _ b0 b2).mono ?_; rintro e w1 ⟨rfl, hw⟩; replace hw := hw.symm; subst hw
  go_wp2_with fail
  refine (HX.out _).mono ?_; rintro e w1 ⟨rfl, hw⟩; replace hw := hw.symm; subst hw
  go_wp2_with fail
  refine (HY.out _).mono ?_; rintro e w1 ⟨rfl, hw⟩; replace hw := hw.symm; subst hw
  go_wp2_with fail
  refine (HH.out _).mono ?_; rintro e w1 ⟨rfl, hw⟩; replace hw := hw.symm; subst hw
  go_wp2_with fail
  refine (HSG.out _).mono ?_; rintro e w1 ⟨rfl, hw⟩; replace hw := hw.symm; subst hw
  go_wp2_with fail
  refine (Set_any _ _ (mulU true M H a b != (M - 1)) _ f0 f1 fl1).mono ?_; rintro e w1 ⟨rfl, hw⟩; replace hw := hw.symm; subst hw
  go_wp2_with fail
  refine (Set_any _ _ (mulU true M H a b != (M - 1)) _ B1.out.1 B1.out.2 fl2048).mono ?_; rintro e w1 ⟨rfl, hw⟩; replace hw := hw.symm; subst hw
  go_wp2_with fail
  refine (Set_any _ _ _ _ B2.out.1 B2.out.2 fl16).mono ?_; rintro e w1 ⟨rfl, hw⟩; replace hw := hw.symm; subst hw
  go_wp2_with fail
  refine (By_any hZ _ _ _ HL.out.1 HL.out.2 B3.out.1 B3.out.2).mono ?_; rintro e w1 ⟨rfl, hw⟩; replace hw := hw.symm; subst hw
  go_wp2
  exact bodyPost_ret (v := .tuple #[.int .u32 (mulL true M H a b), .int .u32 (mulU true M H a b), .int .u32 (byF H (mulL true M H a b) (setF (setF (setF f 1 (mulU true M H a b != (M - 1))) 2048 (mulU true M H a b != (M - 1))) 16 false)), .int .i64 0]) (by simp [results, Try.results11, go_sem]) rfl
    ⟨ret_four rfl rfl HF.out rfl, Grown.refl _⟩

theorem rMul_ok {s H M : Int} {W : Nat} (hS : Sw s H M W) (sg : Bool) (a b f : Int) (w : World) (a0 : 0 ≤ a) (a1 : a < 4294967296) (b0 : 0 ≤ b) (b1 : b < 4294967296) (f0 : 0 ≤ f) (f1 : f < 4294967296) :
    Calls Try.prog 11 #[.bool sg, .int .i64 s, .int .u32 a, .int .u32 b, .int .u32 f] w fun e w' => e = .returned (.tuple #[.int .u32 (mulL sg M H a b), .int .u32 (mulU sg M H a b), .int .u32 (mulF sg M H a b f), .int .i64 0]) ∧ Grown w w' := by
  cases sg
  · exact rMul_core hS a b f w a0 a1 b0 b1 f0 f1
  · cases h1 : sgn H (a % M) <;> cases h2 : sgn H (b % M) <;> cases hs : sgn H (mulL true M H a b)
    · exact rMul_fff hS a b f w a0 a1 b0 b1 f0 f1 h1 h2 hs
    · exact rMul_fft hS a b f w a0 a1 b0 b1 f0 f1 h1 h2 hs
    · exact rMul_ftf hS a b f w a0 a1 b0 b1 f0 f1 h1 h2 hs
    · exact rMul_ftt hS a b f w a0 a1 b0 b1 f0 f1 h1 h2 hs
    · exact rMul_tff hS a b f w a0 a1 b0 b1 f0 f1 h1 h2 hs
    · exact rMul_tft hS a b f w a0 a1 b0 b1 f0 f1 h1 h2 hs
    · exact rMul_ttf hS a b f w a0 a1 b0 b1 f0 f1 h1 h2 hs
    · exact rMul_ttt hS a b f w a0 a1 b0 b1 f0 f1 h1 h2 hs
end Go.Proofs.Ytecfkgnffhiemaa
