/- The contract of the document's answer to products (drawloomref03.Mul): for every input within its kinds it returns what is named, and the world stays. -/
import Derived.Test.YtecfkgnffhiemaaMulRefLeaf
import Derived.Test.YtecfkgnffhiemaaMulMul
namespace Go.Proofs.Ytecfkgnffhiemaa
open Go.ChangeShapes Go.WideShapes Go.ChangeAt Go.RowKit
set_option linter.unusedVariables false

/-- the product by magnitudes, cut to two sizes -/
def magP (M H x y : Int) : Int := if (sgn H x != sgn H y) = true then (M * M - mag M H x * mag M H y) % (M * M) else mag M H x * mag M H y

theorem magP_is {s H M : Int} {W : Nat} (hS : Sw s H M W) (x y : Int) : magP M H x y % M = sgv M H x * sgv M H y % M ∧ magP M H x y / M % M = sgv M H x * sgv M H y / M % M := by
  have e : sgv M H x * sgv M H y = if (sgn H x != sgn H y) = true then -(mag M H x * mag M H y) else mag M H x * mag M H y := by
    rw [sgv_mag, sgv_mag]
    cases sgn H x <;> cases sgn H y <;> simp [Int.neg_mul, Int.mul_neg]
  rw [e]
  unfold magP
  cases sgn H x != sgn H y
  · exact ⟨rfl, rfl⟩
  · simp only [if_true]
    generalize mag M H x * mag M H y = P
    rcases hS with ⟨rfl, rfl, rfl, rfl⟩ | ⟨rfl, rfl, rfl, rfl⟩ | ⟨rfl, rfl, rfl, rfl⟩ <;> omega

theorem magM_bd {s H M : Int} {W : Nat} (hS : Sw s H M W) {x y : Int} (x0 : 0 ≤ x) (x1 : x < M) (y0 : 0 ≤ y) (y1 : y < M) : 0 ≤ mag M H x * mag M H y ∧ mag M H x * mag M H y < M * M ∧ mag M H x * mag M H y < 18446744073709551616 := by
  have p := hS.pow
  have a := mag_bd p.2.2.2.2.2.2 x0 x1
  have b := mag_bd p.2.2.2.2.2.2 y0 y1
  have h := mul_nn a.1 a.2 b.1 b.2
  rcases hS with ⟨rfl, rfl, rfl, rfl⟩ | ⟨rfl, rfl, rfl, rfl⟩ | ⟨rfl, rfl, rfl, rfl⟩ <;> omega

theorem magP_bd {s H M : Int} {W : Nat} (hS : Sw s H M W) {x y : Int} (x0 : 0 ≤ x) (x1 : x < M) (y0 : 0 ≤ y) (y1 : y < M) : 0 ≤ magP M H x y ∧ magP M H x y < 18446744073709551616 := by
  have h := magM_bd hS x0 x1 y0 y1
  unfold magP
  split
  · rcases hS with ⟨rfl, rfl, rfl, rfl⟩ | ⟨rfl, rfl, rfl, rfl⟩ | ⟨rfl, rfl, rfl, rfl⟩ <;> omega
  · exact ⟨h.1, h.2.2⟩

theorem rMul_no (s : Int) (sg : Bool) (a b f : Int) (w : World) (hk : okSize s = false) :
    Calls Try.prog 11 #[.bool sg, .int .i64 s, .int .u32 a, .int .u32 b, .int .u32 f] w fun e w' => e = .returned (.tuple #[.int .u32 0, .int .u32 0, .int .u32 0, .int .i64 2]) ∧ Grown w w' := by
  go_enter Try.func11, Try.ntmps11
  go_wp2_with fail
  refine (Bits_no _ _ hk).mono ?_; rintro e w1 ⟨rfl, hw⟩; replace hw := hw.symm; subst hw
  go_wp2
  exact bodyPost_ret (v := .tuple #[.int .u32 0, .int .u32 0, .int .u32 0, .int .i64 2]) (by simp [results, Try.results11, go_sem]) rfl ⟨rfl, Grown.refl _⟩
theorem mulX_f (M H l : Int) : mulX false M H l = 0 := rfl

/-- what stands behind the choice of the product -/
theorem rMul_core {s H M : Int} {W : Nat} (hS : Sw s H M W) (a b f : Int) (w : World) (a0 : 0 ≤ a) (a1 : a < 4294967296) (b0 : 0 ≤ b) (b1 : b < 4294967296) (f0 : 0 ≤ f) (f1 : f < 4294967296) :
    Calls Try.prog 11 #[.bool false, .int .i64 s, .int .u32 a, .int .u32 b, .int .u32 f] w fun e w' => e = .returned (.tuple #[.int .u32 (mulL false M H a b), .int .u32 (mulU false M H a b), .int .u32 (mulF false M H a b f), .int .i64 0]) ∧ Grown w w' := by
  have hk := hS.ok
  obtain ⟨sp, hZ⟩ := hS.sz
  have mt := hS.pow.2.2.2.2.1
  have mp := hS.pow.2.2.2.2.2.1
  have w8 : ((W : Int) == 0) = false := by have := hS.pow.2.2.1; simp; omega
  have wa : IntKind.u64.wrap a = a := by rw [wrap_u64']; omega
  have wb : IntKind.u64.wrap b = b := by rw [wrap_u64']; omega
  have a2 : a < 18446744073709551616 := by omega
  have b2 : b < 18446744073709551616 := by omega
  have hP := mulP_bd hS false a b
  have HP : Hid (0 ≤ a % M * (b % M) ∧ a % M * (b % M) < 18446744073709551616) := (by have h1 := hP.2.2.2 rfl; have h2 := hP.2.1; exact ⟨h1, Int.lt_of_le_of_lt h2 (by decide)⟩ : 0 ≤ a % M * (b % M) ∧ a % M * (b % M) < 18446744073709551616)
  clear hP
  have wp : IntKind.u64.wrap (a % M * (b % M)) = a % M * (b % M) := by rw [wrap_u64']; exact Int.emod_eq_of_lt HP.out.1 HP.out.2
  have HL : Hid (0 ≤ mulL false M H a b ∧ mulL false M H a b < M) := mulL_bd hS false a b
  have HU : Hid (0 ≤ mulU false M H a b ∧ mulU false M H a b < M) := mulU_bd hS false a b
  have HH : Hid (∀ w : World, Calls Try.prog 27 #[.int .u64 (a % M * (b % M)), .int .i64 (W : Int)] w fun e w' => e = .returned (.tuple #[.int .u64 (mulL false M H a b), .int .u64 (mulU false M H a b)]) ∧ w' = w) := fun w => rhalves_any hS _ w HP.out.1 HP.out.2
  have wl : IntKind.u32.wrap (mulL false M H a b) = mulL false M H a b := Int.emod_eq_of_lt HL.out.1 (Int.lt_of_lt_of_le HL.out.2 mt)
  have wu : IntKind.u32.wrap (mulU false M H a b) = mulU false M H a b := Int.emod_eq_of_lt HU.out.1 (Int.lt_of_lt_of_le HU.out.2 mt)
  have B1 : Hid _ := bd1 f0 f1 1 fl1 (mulU false M H a b != 0)
  have B2 : Hid _ := bd2 f0 f1 1 2048 fl1 fl2048 (mulU false M H a b != 0) (mulU false M H a b != 0)
  have B3 : Hid _ := bd3 f0 f1 1 2048 16 fl1 fl2048 fl16 (mulU false M H a b != 0) (mulU false M H a b != 0) false
  go_enter Try.func11, Try.ntmps11
  go_wp2_with fail
  refine (Bits_ok hZ _).mono ?_; rintro e w1 ⟨rfl, hw⟩; replace hw := hw.symm; subst hw
  go_wp2_with fail
  refine (Cut_any hZ _ _ a0 a2).mono ?_; rintro e w1 ⟨rfl, hw⟩; replace hw := hw.symm; subst hw
  go_wp2_with fail
  refine (Cut_any hZ _ _ b0 b2).mono ?_; rintro e w1 ⟨rfl, hw⟩; replace hw := hw.symm; subst hw
  go_wp2_with fail
  refine (HH.out _).mono ?_; rintro e w1 ⟨rfl, hw⟩; replace hw := hw.symm; subst hw
  go_wp2_with fail
  refine (Set_any _ _ (mulU false M H a b != 0) _ f0 f1 fl1).mono ?_; rintro e w1 ⟨rfl, hw⟩; replace hw := hw.symm; subst hw
  go_wp2_with fail
  refine (Set_any _ _ (mulU false M H a b != 0) _ B1.out.1 B1.out.2 fl2048).mono ?_; rintro e w1 ⟨rfl, hw⟩; replace hw := hw.symm; subst hw
  go_wp2_with fail
  refine (Set_any _ _ _ _ B2.out.1 B2.out.2 fl16).mono ?_; rintro e w1 ⟨rfl, hw⟩; replace hw := hw.symm; subst hw
  go_wp2_with fail
  refine (By_any hZ _ _ _ HL.out.1 HL.out.2 B3.out.1 B3.out.2).mono ?_; rintro e w1 ⟨rfl, hw⟩; replace hw := hw.symm; subst hw
  go_wp2
  exact bodyPost_ret (v := .tuple #[.int .u32 (mulL false M H a b), .int .u32 (mulU false M H a b), .int .u32 (byF H (mulL false M H a b) (setF (setF (setF f 1 (mulU false M H a b != 0)) 2048 (mulU false M H a b != 0)) 16 false)), .int .i64 0]) (by simp [results, Try.results11, go_sem]) rfl
    ⟨ret_four rfl rfl rfl rfl, Grown.refl _⟩
end Go.Proofs.Ytecfkgnffhiemaa
