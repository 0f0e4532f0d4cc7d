/- Contracts of the document's answer to adjustments (drawloomref03.Adjust): for every input within its kinds it returns what is named, and the world stays. -/
import Derived.Test.YtecfkgnffhiemaaMulRefAdj
namespace Go.Proofs.Ytecfkgnffhiemaa
open Go.ChangeShapes Go.WideShapes Go.ChangeAt Go.RowKit
set_option linter.unusedVariables false

theorem rF_eq {op al ah b f X : Int} {a c : Bool} (hx : rX op al ah b f = X) (ha : adA op (dOff (al % 256) (hasF f 16)) = a) (hc : adC op (al % 256) (dOff (al % 256) (hasF f 16)) (dHi (al % 256) (hasF f 1)) = c) :
    byF 128 X (setF (setF (setF f 16 a) 1 c) 2048 false) = rF op al ah b f := by
  unfold rF adF; rw [hx, ha, hc]

theorem rX2 (al ah b f : Int) : rX 2 al ah b f = (al % 256 + flg (dOff (al % 256) (hasF f 16)) 6) % 256 % 16 := by
  unfold rX adX; rw [if_neg (by decide), if_neg (by decide), if_pos rfl]
theorem rX3 (al ah b f : Int) : rX 3 al ah b f = (al % 256 + flg (dOff (al % 256) (hasF f 16)) 250) % 256 % 16 := by
  unfold rX adX; rw [if_neg (by decide), if_neg (by decide), if_neg (by decide), if_pos rfl]
theorem rX4 (al ah b f : Int) : rX 4 al ah b f = al % 256 % (b % 256) := by
  unfold rX adX; rw [if_neg (by decide), if_neg (by decide), if_neg (by decide), if_neg (by decide), if_pos rfl]
theorem rX5 (al ah b f : Int) : rX 5 al ah b f = (al % 256 + ah % 256 * (b % 256)) % 256 := by
  unfold rX adX; rw [if_neg (by decide), if_neg (by decide), if_neg (by decide), if_neg (by decide), if_neg (by decide)]
theorem rY0 (al ah b f : Int) : rY 0 al ah b f = ah % 256 := by
  unfold rY adY; rw [if_pos rfl]
theorem rY1 (al ah b f : Int) : rY 1 al ah b f = ah % 256 := by
  unfold rY adY; rw [if_neg (by decide), if_pos rfl]
theorem rY2 (al ah b f : Int) : rY 2 al ah b f = (ah % 256 + flg (dOff (al % 256) (hasF f 16)) 1) % 256 := by
  unfold rY adY; rw [if_neg (by decide), if_neg (by decide), if_pos rfl]
theorem rY3 (al ah b f : Int) : rY 3 al ah b f = (ah % 256 + flg (dOff (al % 256) (hasF f 16)) 255) % 256 := by
  unfold rY adY; rw [if_neg (by decide), if_neg (by decide), if_neg (by decide), if_pos rfl]
theorem rY4 (al ah b f : Int) : rY 4 al ah b f = al % 256 / (b % 256) := by
  unfold rY adY; rw [if_neg (by decide), if_neg (by decide), if_neg (by decide), if_neg (by decide), if_pos rfl]
theorem rY5 (al ah b f : Int) : rY 5 al ah b f = 0 := by
  unfold rY adY; rw [if_neg (by decide), if_neg (by decide), if_neg (by decide), if_neg (by decide), if_neg (by decide)]
theorem aA (op : Int) (h : op < 4) (o : Bool) : adA op o = o := by unfold adA; rw [if_pos h]
theorem aZ (op : Int) (h : ¬ op < 4) (o : Bool) : adA op o = false := by unfold adA; rw [if_neg h]
theorem cA (op A : Int) (h0 : op ≠ 0) (h1 : op ≠ 1) (h : op < 4) (o k : Bool) : adC op A o k = o := by unfold adC; rw [if_neg h0, if_neg h1, if_pos h]
theorem cZ (op A : Int) (h0 : op ≠ 0) (h1 : op ≠ 1) (h : ¬ op < 4) (o k : Bool) : adC op A o k = false := by unfold adC; rw [if_neg h0, if_neg h1, if_neg h]

set_option maxHeartbeats 1000000 in
theorem rAdj0_G (al ah b f : Int) (w : World) (al0 : 0 ≤ al) (al1 : al < 4294967296) (ah0 : 0 ≤ ah) (ah1 : ah < 4294967296) (b0 : 0 ≤ b) (b1 : b < 4294967296) (f0 : 0 ≤ f) (f1 : f < 4294967296) (hg : 9 < al % 256 % 16) :
    Calls Try.prog 15 #[.int .i64 0, .int .u32 al, .int .u32 ah, .int .u32 b, .int .u32 f] w fun e w' => e = .returned (.tuple #[.int .u32 (rX 0 al ah b f), .int .u32 (rY 0 al ah b f), .int .u32 (rF 0 al ah b f), .bool true, .int .i64 0]) ∧ Grown w w' := by
  have A0 := (mod_bd (M := 256) (by decide) al).1
  have A1 := (mod_bd (M := 256) (by decide) al).2
  have Y0 := (mod_bd (M := 256) (by decide) ah).1
  have Y1 := (mod_bd (M := 256) (by decide) ah).2
  have D0 := (mod_bd (M := 256) (by decide) b).1
  have D1 := (mod_bd (M := 256) (by decide) b).2
  have wA : IntKind.u64.wrap (al % 256) = al % 256 := by rw [wrap_u64']; omega
  have wY : IntKind.u64.wrap (ah % 256) = ah % 256 := by rw [wrap_u64']; omega
  have wD : IntKind.u64.wrap (b % 256) = b % 256 := by rw [wrap_u64']; omega
  have BX : Hid (0 ≤ rX 0 al ah b f ∧ rX 0 al ah b f < 256) := rX_bd al ah b f (by decide) (by decide) (fun h => absurd h (by decide))
  have B2 : Hid (0 ≤ setF (setF f 16 (adA 0 (dOff (al % 256) (hasF f 16)))) 1 (adC 0 (al % 256) (dOff (al % 256) (hasF f 16)) (dHi (al % 256) (hasF f 1))) ∧ setF (setF f 16 (adA 0 (dOff (al % 256) (hasF f 16)))) 1 (adC 0 (al % 256) (dOff (al % 256) (hasF f 16)) (dHi (al % 256) (hasF f 1))) < 4294967296) := bd2 f0 f1 16 1 fl16 fl1 _ _
  have B3 : Hid (0 ≤ setF (setF (setF f 16 (adA 0 (dOff (al % 256) (hasF f 16)))) 1 (adC 0 (al % 256) (dOff (al % 256) (hasF f 16)) (dHi (al % 256) (hasF f 1)))) 2048 false ∧ setF (setF (setF f 16 (adA 0 (dOff (al % 256) (hasF f 16)))) 1 (adC 0 (al % 256) (dOff (al % 256) (hasF f 16)) (dHi (al % 256) (hasF f 1)))) 2048 false < 4294967296) := bd1 B2.out.1 B2.out.2 2048 fl2048 false
  have wX : IntKind.u32.wrap (rX 0 al ah b f) = rX 0 al ah b f := (by have := BX.out; omega : rX 0 al ah b f % 4294967296 = rX 0 al ah b f)
  have wY' : IntKind.u32.wrap (ah % 256) = ah % 256 := (by omega : ah % 256 % 4294967296 = ah % 256)
  have HD : Hid (∀ w : World, Calls Try.prog 37 #[.bool false, .int .u64 (al % 256), .int .u32 f] w fun e w' => e = .returned (.tuple #[.int .u64 (rX 0 al ah b f), .int .u32 (setF (setF f 16 (adA 0 (dOff (al % 256) (hasF f 16)))) 1 (adC 0 (al % 256) (dOff (al % 256) (hasF f 16)) (dHi (al % 256) (hasF f 1))))]) ∧ w' = w) := fun w => daa0_says (al % 256) f (ah % 256) (b % 256) w A0 A1 f0 f1
  have HF : Hid (byF 128 (rX 0 al ah b f) (setF (setF (setF f 16 (adA 0 (dOff (al % 256) (hasF f 16)))) 1 (adC 0 (al % 256) (dOff (al % 256) (hasF f 16)) (dHi (al % 256) (hasF f 1)))) 2048 false) = rF 0 al ah b f) := (rF_eq rfl rfl rfl : byF 128 (rX 0 al ah b f) (setF (setF (setF f 16 (adA 0 (dOff (al % 256) (hasF f 16)))) 1 (adC 0 (al % 256) (dOff (al % 256) (hasF f 16)) (dHi (al % 256) (hasF f 1)))) 2048 false) = rF 0 al ah b f)
  have HYr : Hid (ah % 256 = rY 0 al ah b f) := (rY0 al ah b f).symm
  go_enter Try.func15, Try.ntmps15
  go_wp2_with fail
  refine (HD.out _).mono ?_; rintro e w1 ⟨rfl, hw⟩; replace hw := hw.symm; subst hw
  go_wp2_with fail
  refine (Set_any _ _ _ _ B2.out.1 B2.out.2 fl2048).mono ?_; rintro e w1 ⟨rfl, hw⟩; replace hw := hw.symm; subst hw
  go_wp2_with fail
  refine (By_any sz1 _ _ _ BX.out.1 BX.out.2 B3.out.1 B3.out.2).mono ?_; rintro e w1 ⟨rfl, hw⟩; replace hw := hw.symm; subst hw
  go_wp2
  exact bodyPost_ret (v := .tuple #[.int .u32 (rX 0 al ah b f), .int .u32 (ah % 256), .int .u32 (byF 128 (rX 0 al ah b f) (setF (setF (setF f 16 (adA 0 (dOff (al % 256) (hasF f 16)))) 1 (adC 0 (al % 256) (dOff (al % 256) (hasF f 16)) (dHi (al % 256) (hasF f 1)))) 2048 false)), .bool true, .int .i64 0]) (by simp [results, Try.results15, go_sem]) rfl
    ⟨by rw [HF.out, HYr.out], Grown.refl _⟩

set_option maxHeartbeats 1000000 in
theorem rAdj0_N (al ah b f : Int) (w : World) (al0 : 0 ≤ al) (al1 : al < 4294967296) (ah0 : 0 ≤ ah) (ah1 : ah < 4294967296) (b0 : 0 ≤ b) (b1 : b < 4294967296) (f0 : 0 ≤ f) (f1 : f < 4294967296) (hg : ¬ 9 < al % 256 % 16) :
    Calls Try.prog 15 #[.int .i64 0, .int .u32 al, .int .u32 ah, .int .u32 b, .int .u32 f] w fun e w' => e = .returned (.tuple #[.int .u32 (rX 0 al ah b f), .int .u32 (rY 0 al ah b f), .int .u32 (rF 0 al ah b f), .bool true, .int .i64 0]) ∧ Grown w w' := by
  have A0 := (mod_bd (M := 256) (by decide) al).1
  have A1 := (mod_bd (M := 256) (by decide) al).2
  have Y0 := (mod_bd (M := 256) (by decide) ah).1
  have Y1 := (mod_bd (M := 256) (by decide) ah).2
  have D0 := (mod_bd (M := 256) (by decide) b).1
  have D1 := (mod_bd (M := 256) (by decide) b).2
  have wA : IntKind.u64.wrap (al % 256) = al % 256 := by rw [wrap_u64']; omega
  have wY : IntKind.u64.wrap (ah % 256) = ah % 256 := by rw [wrap_u64']; omega
  have wD : IntKind.u64.wrap (b % 256) = b % 256 := by rw [wrap_u64']; omega
  have HV : Hid (∀ w : World, Calls Try.prog 36 #[.int .u32 f, .int .u32 16] w fun e w' => e = .returned (.bool (hasF f 16)) ∧ w' = w) := fun w => Has_any f 16 w f0 f1 fl16
  have BX : Hid (0 ≤ rX 0 al ah b f ∧ rX 0 al ah b f < 256) := rX_bd al ah b f (by decide) (by decide) (fun h => absurd h (by decide))
  have B2 : Hid (0 ≤ setF (setF f 16 (adA 0 (dOff (al % 256) (hasF f 16)))) 1 (adC 0 (al % 256) (dOff (al % 256) (hasF f 16)) (dHi (al % 256) (hasF f 1))) ∧ setF (setF f 16 (adA 0 (dOff (al % 256) (hasF f 16)))) 1 (adC 0 (al % 256) (dOff (al % 256) (hasF f 16)) (dHi (al % 256) (hasF f 1))) < 4294967296) := bd2 f0 f1 16 1 fl16 fl1 _ _
  have B3 : Hid (0 ≤ setF (setF (setF f 16 (adA 0 (dOff (al % 256) (hasF f 16)))) 1 (adC 0 (al % 256) (dOff (al % 256) (hasF f 16)) (dHi (al % 256) (hasF f 1)))) 2048 false ∧ setF (setF (setF f 16 (adA 0 (dOff (al % 256) (hasF f 16)))) 1 (adC 0 (al % 256) (dOff (al % 256) (hasF f 16)) (dHi (al % 256) (hasF f 1)))) 2048 false < 4294967296) := bd1 B2.out.1 B2.out.2 2048 fl2048 false
  have wX : IntKind.u32.wrap (rX 0 al ah b f) = rX 0 al ah b f := (by have := BX.out; omega : rX 0 al ah b f % 4294967296 = rX 0 al ah b f)
  have wY' : IntKind.u32.wrap (ah % 256) = ah % 256 := (by omega : ah % 256 % 4294967296 = ah % 256)
  have HD : Hid (∀ w : World, Calls Try.prog 37 #[.bool false, .int .u64 (al % 256), .int .u32 f] w fun e w' => e = .returned (.tuple #[.int .u64 (rX 0 al ah b f), .int .u32 (setF (setF f 16 (adA 0 (dOff (al % 256) (hasF f 16)))) 1 (adC 0 (al % 256) (dOff (al % 256) (hasF f 16)) (dHi (al % 256) (hasF f 1))))]) ∧ w' = w) := fun w => daa0_says (al % 256) f (ah % 256) (b % 256) w A0 A1 f0 f1
  have HF : Hid (byF 128 (rX 0 al ah b f) (setF (setF (setF f 16 (adA 0 (dOff (al % 256) (hasF f 16)))) 1 (adC 0 (al % 256) (dOff (al % 256) (hasF f 16)) (dHi (al % 256) (hasF f 1)))) 2048 false) = rF 0 al ah b f) := (rF_eq rfl rfl rfl : byF 128 (rX 0 al ah b f) (setF (setF (setF f 16 (adA 0 (dOff (al % 256) (hasF f 16)))) 1 (adC 0 (al % 256) (dOff (al % 256) (hasF f 16)) (dHi (al % 256) (hasF f 1)))) 2048 false) = rF 0 al ah b f)
  have HYr : Hid (ah % 256 = rY 0 al ah b f) := (rY0 al ah b f).symm
  go_enter Try.func15, Try.ntmps15
  go_wp2_with fail
  refine (HV.out _).mono ?_; rintro e w1 ⟨rfl, hw⟩; replace hw := hw.symm; subst hw
  go_wp2_with fail
  refine (HD.out _).mono ?_; rintro e w1 ⟨rfl, hw⟩; replace hw := hw.symm; subst hw
  go_wp2_with fail
  refine (Set_any _ _ _ _ B2.out.1 B2.out.2 fl2048).mono ?_; rintro e w1 ⟨rfl, hw⟩; replace hw := hw.symm; subst hw
  go_wp2_with fail
  refine (By_any sz1 _ _ _ BX.out.1 BX.out.2 B3.out.1 B3.out.2).mono ?_; rintro e w1 ⟨rfl, hw⟩; replace hw := hw.symm; subst hw
  go_wp2
  exact bodyPost_ret (v := .tuple #[.int .u32 (rX 0 al ah b f), .int .u32 (ah % 256), .int .u32 (byF 128 (rX 0 al ah b f) (setF (setF (setF f 16 (adA 0 (dOff (al % 256) (hasF f 16)))) 1 (adC 0 (al % 256) (dOff (al % 256) (hasF f 16)) (dHi (al % 256) (hasF f 1)))) 2048 false)), .bool true, .int .i64 0]) (by simp [results, Try.results15, go_sem]) rfl
    ⟨by rw [HF.out, HYr.out], Grown.refl _⟩

set_option maxHeartbeats 1000000 in
theorem rAdj1_G (al ah b f : Int) (w : World) (al0 : 0 ≤ al) (al1 : al < 4294967296) (ah0 : 0 ≤ ah) (ah1 : ah < 4294967296) (b0 : 0 ≤ b) (b1 : b < 4294967296) (f0 : 0 ≤ f) (f1 : f < 4294967296) (hg : 9 < al % 256 % 16) :
    Calls Try.prog 15 #[.int .i64 1, .int .u32 al, .int .u32 ah, .int .u32 b, .int .u32 f] w fun e w' => e = .returned (.tuple #[.int .u32 (rX 1 al ah b f), .int .u32 (rY 1 al ah b f), .int .u32 (rF 1 al ah b f), .bool true, .int .i64 0]) ∧ Grown w w' := by
  have A0 := (mod_bd (M := 256) (by decide) al).1
  have A1 := (mod_bd (M := 256) (by decide) al).2
  have Y0 := (mod_bd (M := 256) (by decide) ah).1
  have Y1 := (mod_bd (M := 256) (by decide) ah).2
  have D0 := (mod_bd (M := 256) (by decide) b).1
  have D1 := (mod_bd (M := 256) (by decide) b).2
  have wA : IntKind.u64.wrap (al % 256) = al % 256 := by rw [wrap_u64']; omega
  have wY : IntKind.u64.wrap (ah % 256) = ah % 256 := by rw [wrap_u64']; omega
  have wD : IntKind.u64.wrap (b % 256) = b % 256 := by rw [wrap_u64']; omega
  have BX : Hid (0 ≤ rX 1 al ah b f ∧ rX 1 al ah b f < 256) := rX_bd al ah b f (by decide) (by decide) (fun h => absurd h (by decide))
  have B2 : Hid (0 ≤ setF (setF f 16 (adA 1 (dOff (al % 256) (hasF f 16)))) 1 (adC 1 (al % 256) (dOff (al % 256) (hasF f 16)) (dHi (al % 256) (hasF f 1))) ∧ setF (setF f 16 (adA 1 (dOff (al % 256) (hasF f 16)))) 1 (adC 1 (al % 256) (dOff (al % 256) (hasF f 16)) (dHi (al % 256) (hasF f 1))) < 4294967296) := bd2 f0 f1 16 1 fl16 fl1 _ _
  have B3 : Hid (0 ≤ setF (setF (setF f 16 (adA 1 (dOff (al % 256) (hasF f 16)))) 1 (adC 1 (al % 256) (dOff (al % 256) (hasF f 16)) (dHi (al % 256) (hasF f 1)))) 2048 false ∧ setF (setF (setF f 16 (adA 1 (dOff (al % 256) (hasF f 16)))) 1 (adC 1 (al % 256) (dOff (al % 256) (hasF f 16)) (dHi (al % 256) (hasF f 1)))) 2048 false < 4294967296) := bd1 B2.out.1 B2.out.2 2048 fl2048 false
  have wX : IntKind.u32.wrap (rX 1 al ah b f) = rX 1 al ah b f := (by have := BX.out; omega : rX 1 al ah b f % 4294967296 = rX 1 al ah b f)
  have wY' : IntKind.u32.wrap (ah % 256) = ah % 256 := (by omega : ah % 256 % 4294967296 = ah % 256)
  have HD : Hid (∀ w : World, Calls Try.prog 37 #[.bool true, .int .u64 (al % 256), .int .u32 f] w fun e w' => e = .returned (.tuple #[.int .u64 (rX 1 al ah b f), .int .u32 (setF (setF f 16 (adA 1 (dOff (al % 256) (hasF f 16)))) 1 (adC 1 (al % 256) (dOff (al % 256) (hasF f 16)) (dHi (al % 256) (hasF f 1))))]) ∧ w' = w) := fun w => daa1_says (al % 256) f (ah % 256) (b % 256) w A0 A1 f0 f1
  have HF : Hid (byF 128 (rX 1 al ah b f) (setF (setF (setF f 16 (adA 1 (dOff (al % 256) (hasF f 16)))) 1 (adC 1 (al % 256) (dOff (al % 256) (hasF f 16)) (dHi (al % 256) (hasF f 1)))) 2048 false) = rF 1 al ah b f) := (rF_eq rfl rfl rfl : byF 128 (rX 1 al ah b f) (setF (setF (setF f 16 (adA 1 (dOff (al % 256) (hasF f 16)))) 1 (adC 1 (al % 256) (dOff (al % 256) (hasF f 16)) (dHi (al % 256) (hasF f 1)))) 2048 false) = rF 1 al ah b f)
  have HYr : Hid (ah % 256 = rY 1 al ah b f) := (rY1 al ah b f).symm
  go_enter Try.func15, Try.ntmps15
  go_wp2_with fail
  refine (HD.out _).mono ?_; rintro e w1 ⟨rfl, hw⟩; replace hw := hw.symm; subst hw
  go_wp2_with fail
  refine (Set_any _ _ _ _ B2.out.1 B2.out.2 fl2048).mono ?_; rintro e w1 ⟨rfl, hw⟩; replace hw := hw.symm; subst hw
  go_wp2_with fail
  refine (By_any sz1 _ _ _ BX.out.1 BX.out.2 B3.out.1 B3.out.2).mono ?_; rintro e w1 ⟨rfl, hw⟩; replace hw := hw.symm; subst hw
  go_wp2
  exact bodyPost_ret (v := .tuple #[.int .u32 (rX 1 al ah b f), .int .u32 (ah % 256), .int .u32 (byF 128 (rX 1 al ah b f) (setF (setF (setF f 16 (adA 1 (dOff (al % 256) (hasF f 16)))) 1 (adC 1 (al % 256) (dOff (al % 256) (hasF f 16)) (dHi (al % 256) (hasF f 1)))) 2048 false)), .bool true, .int .i64 0]) (by simp [results, Try.results15, go_sem]) rfl
    ⟨by rw [HF.out, HYr.out], Grown.refl _⟩

set_option maxHeartbeats 1000000 in
theorem rAdj1_N (al ah b f : Int) (w : World) (al0 : 0 ≤ al) (al1 : al < 4294967296) (ah0 : 0 ≤ ah) (ah1 : ah < 4294967296) (b0 : 0 ≤ b) (b1 : b < 4294967296) (f0 : 0 ≤ f) (f1 : f < 4294967296) (hg : ¬ 9 < al % 256 % 16) :
    Calls Try.prog 15 #[.int .i64 1, .int .u32 al, .int .u32 ah, .int .u32 b, .int .u32 f] w fun e w' => e = .returned (.tuple #[.int .u32 (rX 1 al ah b f), .int .u32 (rY 1 al ah b f), .int .u32 (rF 1 al ah b f), .bool true, .int .i64 0]) ∧ Grown w w' := by
  have A0 := (mod_bd (M := 256) (by decide) al).1
  have A1 := (mod_bd (M := 256) (by decide) al).2
  have Y0 := (mod_bd (M := 256) (by decide) ah).1
  have Y1 := (mod_bd (M := 256) (by decide) ah).2
  have D0 := (mod_bd (M := 256) (by decide) b).1
  have D1 := (mod_bd (M := 256) (by decide) b).2
  have wA : IntKind.u64.wrap (al % 256) = al % 256 := by rw [wrap_u64']; omega
  have wY : IntKind.u64.wrap (ah % 256) = ah % 256 := by rw [wrap_u64']; omega
  have wD : IntKind.u64.wrap (b % 256) = b % 256 := by rw [wrap_u64']; omega
  have HV : Hid (∀ w : World, Calls Try.prog 36 #[.int .u32 f, .int .u32 16] w fun e w' => e = .returned (.bool (hasF f 16)) ∧ w' = w) := fun w => Has_any f 16 w f0 f1 fl16
  have BX : Hid (0 ≤ rX 1 al ah b f ∧ rX 1 al ah b f < 256) := rX_bd al ah b f (by decide) (by decide) (fun h => absurd h (by decide))
  have B2 : Hid (0 ≤ setF (setF f 16 (adA 1 (dOff (al % 256) (hasF f 16)))) 1 (adC 1 (al % 256) (dOff (al % 256) (hasF f 16)) (dHi (al % 256) (hasF f 1))) ∧ setF (setF f 16 (adA 1 (dOff (al % 256) (hasF f 16)))) 1 (adC 1 (al % 256) (dOff (al % 256) (hasF f 16)) (dHi (al % 256) (hasF f 1))) < 4294967296) := bd2 f0 f1 16 1 fl16 fl1 _ _
  have B3 : Hid (0 ≤ setF (setF (setF f 16 (adA 1 (dOff (al % 256) (hasF f 16)))) 1 (adC 1 (al % 256) (dOff (al % 256) (hasF f 16)) (dHi (al % 256) (hasF f 1)))) 2048 false ∧ setF (setF (setF f 16 (adA 1 (dOff (al % 256) (hasF f 16)))) 1 (adC 1 (al % 256) (dOff (al % 256) (hasF f 16)) (dHi (al % 256) (hasF f 1)))) 2048 false < 4294967296) := bd1 B2.out.1 B2.out.2 2048 fl2048 false
  have wX : IntKind.u32.wrap (rX 1 al ah b f) = rX 1 al ah b f := (by have := BX.out; omega : rX 1 al ah b f % 4294967296 = rX 1 al ah b f)
  have wY' : IntKind.u32.wrap (ah % 256) = ah % 256 := (by omega : ah % 256 % 4294967296 = ah % 256)
  have HD : Hid (∀ w : World, Calls Try.prog 37 #[.bool true, .int .u64 (al % 256), .int .u32 f] w fun e w' => e = .returned (.tuple #[.int .u64 (rX 1 al ah b f), .int .u32 (setF (setF f 16 (adA 1 (dOff (al % 256) (hasF f 16)))) 1 (adC 1 (al % 256) (dOff (al % 256) (hasF f 16)) (dHi (al % 256) (hasF f 1))))]) ∧ w' = w) := fun w => daa1_says (al % 256) f (ah % 256) (b % 256) w A0 A1 f0 f1
  have HF : Hid (byF 128 (rX 1 al ah b f) (setF (setF (setF f 16 (adA 1 (dOff (al % 256) (hasF f 16)))) 1 (adC 1 (al % 256) (dOff (al % 256) (hasF f 16)) (dHi (al % 256) (hasF f 1)))) 2048 false) = rF 1 al ah b f) := (rF_eq rfl rfl rfl : byF 128 (rX 1 al ah b f) (setF (setF (setF f 16 (adA 1 (dOff (al % 256) (hasF f 16)))) 1 (adC 1 (al % 256) (dOff (al % 256) (hasF f 16)) (dHi (al % 256) (hasF f 1)))) 2048 false) = rF 1 al ah b f)
  have HYr : Hid (ah % 256 = rY 1 al ah b f) := (rY1 al ah b f).symm
  go_enter Try.func15, Try.ntmps15
  go_wp2_with fail
  refine (HV.out _).mono ?_; rintro e w1 ⟨rfl, hw⟩; replace hw := hw.symm; subst hw
  go_wp2_with fail
  refine (HD.out _).mono ?_; rintro e w1 ⟨rfl, hw⟩; replace hw := hw.symm; subst hw
  go_wp2_with fail
  refine (Set_any _ _ _ _ B2.out.1 B2.out.2 fl2048).mono ?_; rintro e w1 ⟨rfl, hw⟩; replace hw := hw.symm; subst hw
  go_wp2_with fail
  refine (By_any sz1 _ _ _ BX.out.1 BX.out.2 B3.out.1 B3.out.2).mono ?_; rintro e w1 ⟨rfl, hw⟩; replace hw := hw.symm; subst hw
  go_wp2
  exact bodyPost_ret (v := .tuple #[.int .u32 (rX 1 al ah b f), .int .u32 (ah % 256), .int .u32 (byF 128 (rX 1 al ah b f) (setF (setF (setF f 16 (adA 1 (dOff (al % 256) (hasF f 16)))) 1 (adC 1 (al % 256) (dOff (al % 256) (hasF f 16)) (dHi (al % 256) (hasF f 1)))) 2048 false)), .bool true, .int .i64 0]) (by simp [results, Try.results15, go_sem]) rfl
    ⟨by rw [HF.out, HYr.out], Grown.refl _⟩

set_option maxHeartbeats 1000000 in
theorem rAdj2_G (al ah b f : Int) (w : World) (al0 : 0 ≤ al) (al1 : al < 4294967296) (ah0 : 0 ≤ ah) (ah1 : ah < 4294967296) (b0 : 0 ≤ b) (b1 : b < 4294967296) (f0 : 0 ≤ f) (f1 : f < 4294967296) (hg : 9 < al % 256 % 16) :
    Calls Try.prog 15 #[.int .i64 2, .int .u32 al, .int .u32 ah, .int .u32 b, .int .u32 f] w fun e w' => e = .returned (.tuple #[.int .u32 (rX 2 al ah b f), .int .u32 (rY 2 al ah b f), .int .u32 (rF 2 al ah b f), .bool true, .int .i64 0]) ∧ Grown w w' := by
  have A0 := (mod_bd (M := 256) (by decide) al).1
  have A1 := (mod_bd (M := 256) (by decide) al).2
  have Y0 := (mod_bd (M := 256) (by decide) ah).1
  have Y1 := (mod_bd (M := 256) (by decide) ah).2
  have D0 := (mod_bd (M := 256) (by decide) b).1
  have D1 := (mod_bd (M := 256) (by decide) b).2
  have wA : IntKind.u64.wrap (al % 256) = al % 256 := by rw [wrap_u64']; omega
  have wY : IntKind.u64.wrap (ah % 256) = ah % 256 := by rw [wrap_u64']; omega
  have wD : IntKind.u64.wrap (b % 256) = b % 256 := by rw [wrap_u64']; omega
  have eo : dOff (al % 256) (hasF f 16) = true := off_g hg _
  have ex : rX 2 al ah b f = (al % 256 + 6) % 16 := (rX2 al ah b f).trans (by rw [eo]; exact (by omega : (al % 256 + 6) % 256 % 16 = (al % 256 + 6) % 16))
  have ey : rY 2 al ah b f = (ah % 256 + 1) % 256 := (rY2 al ah b f).trans (by rw [eo]; exact (by omega : (ah % 256 + 1) % 256 = (ah % 256 + 1) % 256))
  have HX : Hid ((al % 256 + 6) % 16 = rX 2 al ah b f) := ex.symm
  have HYr : Hid ((ah % 256 + 1) % 256 = rY 2 al ah b f) := ey.symm
  have HF : Hid (byF 128 ((al % 256 + 6) % 16) (setF (setF (setF f 1 true) 16 true) 2048 false) = rF 2 al ah b f) := (by rw [comm16 f0 f1]; exact rF_eq ex ((aA 2 (by decide) _).trans eo) ((cA 2 _ (by decide) (by decide) (by decide) _ _).trans eo) : byF 128 ((al % 256 + 6) % 16) (setF (setF (setF f 1 true) 16 true) 2048 false) = rF 2 al ah b f)
  have X0 : 0 ≤ (al % 256 + 6) % 16 := by omega
  have X1 : (al % 256 + 6) % 16 < 256 := by omega
  have B1 : Hid _ := bd1 f0 f1 1 fl1 true
  have B2 : Hid _ := bd2 f0 f1 1 16 fl1 fl16 true true
  have B3 : Hid _ := bd3 f0 f1 1 16 2048 fl1 fl16 fl2048 true true false
  have wX : IntKind.u32.wrap ((al % 256 + 6) % 16) = (al % 256 + 6) % 16 := (by omega : ((al % 256 + 6) % 16) % 4294967296 = (al % 256 + 6) % 16)
  have wY' : IntKind.u32.wrap ((ah % 256 + 1) % 256) = (ah % 256 + 1) % 256 := (by omega : ((ah % 256 + 1) % 256) % 4294967296 = (ah % 256 + 1) % 256)
  clear ex ey eo
  revert hg A0 A1 Y0 Y1 D0 D1 wA wY wD HX HYr HF X0 X1 wX wY'
  generalize hA' : al % 256 = A
  generalize hY' : ah % 256 = Y
  generalize hD' : b % 256 = D
  intro hg A0 A1 Y0 Y1 D0 D1 wA wY wD HX HYr HF X0 X1 wX wY'
  go_enter Try.func15, Try.ntmps15
  go_wp2_with fail
  refine (Set_any _ _ _ _ f0 f1 fl1).mono ?_; rintro e w1 ⟨rfl, hw⟩; replace hw := hw.symm; subst hw
  go_wp2_with fail
  refine (Set_any _ _ _ _ B1.out.1 B1.out.2 fl16).mono ?_; rintro e w1 ⟨rfl, hw⟩; replace hw := hw.symm; subst hw
  go_wp2_with fail
  refine (Set_any _ _ _ _ B2.out.1 B2.out.2 fl2048).mono ?_; rintro e w1 ⟨rfl, hw⟩; replace hw := hw.symm; subst hw
  go_wp2_with fail
  refine (By_any sz1 _ _ _ X0 X1 B3.out.1 B3.out.2).mono ?_; rintro e w1 ⟨rfl, hw⟩; replace hw := hw.symm; subst hw
  go_wp2
  exact bodyPost_ret (v := .tuple #[.int .u32 ((A + 6) % 16), .int .u32 ((Y + 1) % 256), .int .u32 (byF 128 ((A + 6) % 16) (setF (setF (setF f 1 true) 16 true) 2048 false)), .bool true, .int .i64 0]) (by simp [results, Try.results15, go_sem]) rfl
    ⟨by rw [HF.out, HX.out, HYr.out], Grown.refl _⟩

set_option maxHeartbeats 1000000 in
theorem rAdj2_NT (al ah b f : Int) (w : World) (al0 : 0 ≤ al) (al1 : al < 4294967296) (ah0 : 0 ≤ ah) (ah1 : ah < 4294967296) (b0 : 0 ≤ b) (b1 : b < 4294967296) (f0 : 0 ≤ f) (f1 : f < 4294967296) (hg : ¬ 9 < al % 256 % 16) (hv : hasF f 16 = true) :
    Calls Try.prog 15 #[.int .i64 2, .int .u32 al, .int .u32 ah, .int .u32 b, .int .u32 f] w fun e w' => e = .returned (.tuple #[.int .u32 (rX 2 al ah b f), .int .u32 (rY 2 al ah b f), .int .u32 (rF 2 al ah b f), .bool true, .int .i64 0]) ∧ Grown w w' := by
  have A0 := (mod_bd (M := 256) (by decide) al).1
  have A1 := (mod_bd (M := 256) (by decide) al).2
  have Y0 := (mod_bd (M := 256) (by decide) ah).1
  have Y1 := (mod_bd (M := 256) (by decide) ah).2
  have D0 := (mod_bd (M := 256) (by decide) b).1
  have D1 := (mod_bd (M := 256) (by decide) b).2
  have wA : IntKind.u64.wrap (al % 256) = al % 256 := by rw [wrap_u64']; omega
  have wY : IntKind.u64.wrap (ah % 256) = ah % 256 := by rw [wrap_u64']; omega
  have wD : IntKind.u64.wrap (b % 256) = b % 256 := by rw [wrap_u64']; omega
  have eo : dOff (al % 256) (hasF f 16) = true := (off_n hg _).trans hv
  have ex : rX 2 al ah b f = (al % 256 + 6) % 16 := (rX2 al ah b f).trans (by rw [eo]; exact (by omega : (al % 256 + 6) % 256 % 16 = (al % 256 + 6) % 16))
  have ey : rY 2 al ah b f = (ah % 256 + 1) % 256 := (rY2 al ah b f).trans (by rw [eo]; exact (by omega : (ah % 256 + 1) % 256 = (ah % 256 + 1) % 256))
  have HX : Hid ((al % 256 + 6) % 16 = rX 2 al ah b f) := ex.symm
  have HYr : Hid ((ah % 256 + 1) % 256 = rY 2 al ah b f) := ey.symm
  have HF : Hid (byF 128 ((al % 256 + 6) % 16) (setF (setF (setF f 1 true) 16 true) 2048 false) = rF 2 al ah b f) := (by rw [comm16 f0 f1]; exact rF_eq ex ((aA 2 (by decide) _).trans eo) ((cA 2 _ (by decide) (by decide) (by decide) _ _).trans eo) : byF 128 ((al % 256 + 6) % 16) (setF (setF (setF f 1 true) 16 true) 2048 false) = rF 2 al ah b f)
  have X0 : 0 ≤ (al % 256 + 6) % 16 := by omega
  have X1 : (al % 256 + 6) % 16 < 256 := by omega
  have B1 : Hid _ := bd1 f0 f1 1 fl1 true
  have B2 : Hid _ := bd2 f0 f1 1 16 fl1 fl16 true true
  have B3 : Hid _ := bd3 f0 f1 1 16 2048 fl1 fl16 fl2048 true true false
  have wX : IntKind.u32.wrap ((al % 256 + 6) % 16) = (al % 256 + 6) % 16 := (by omega : ((al % 256 + 6) % 16) % 4294967296 = (al % 256 + 6) % 16)
  have wY' : IntKind.u32.wrap ((ah % 256 + 1) % 256) = (ah % 256 + 1) % 256 := (by omega : ((ah % 256 + 1) % 256) % 4294967296 = (ah % 256 + 1) % 256)
  clear ex ey eo
  revert hg A0 A1 Y0 Y1 D0 D1 wA wY wD HX HYr HF X0 X1 wX wY'
  generalize hA' : al % 256 = A
  generalize hY' : ah % 256 = Y
  generalize hD' : b % 256 = D
  intro hg A0 A1 Y0 Y1 D0 D1 wA wY wD HX HYr HF X0 X1 wX wY'
  have HV : Hid (∀ w : World, Calls Try.prog 36 #[.int .u32 f, .int .u32 16] w fun e w' => e = .returned (.bool true) ∧ w' = w) := fun w => Has_is _ _ _ w f0 f1 fl16 hv
  clear hv
  go_enter Try.func15, Try.ntmps15
  go_wp2_with fail
  refine (HV.out _).mono ?_; rintro e w1 ⟨rfl, hw⟩; replace hw := hw.symm; subst hw
  go_wp2_with fail
  refine (Set_any _ _ _ _ f0 f1 fl1).mono ?_; rintro e w1 ⟨rfl, hw⟩; replace hw := hw.symm; subst hw
  go_wp2_with fail
  refine (Set_any _ _ _ _ B1.out.1 B1.out.2 fl16).mono ?_; rintro e w1 ⟨rfl, hw⟩; replace hw := hw.symm; subst hw
  go_wp2_with fail
  refine (Set_any _ _ _ _ B2.out.1 B2.out.2 fl2048).mono ?_; rintro e w1 ⟨rfl, hw⟩; replace hw := hw.symm; subst hw
  go_wp2_with fail
  refine (By_any sz1 _ _ _ X0 X1 B3.out.1 B3.out.2).mono ?_; rintro e w1 ⟨rfl, hw⟩; replace hw := hw.symm; subst hw
  go_wp2
  exact bodyPost_ret (v := .tuple #[.int .u32 ((A + 6) % 16), .int .u32 ((Y + 1) % 256), .int .u32 (byF 128 ((A + 6) % 16) (setF (setF (setF f 1 true) 16 true) 2048 false)), .bool true, .int .i64 0]) (by simp [results, Try.results15, go_sem]) rfl
    ⟨by rw [HF.out, HX.out, HYr.out], Grown.refl _⟩

set_option maxHeartbeats 1000000 in
theorem rAdj2_NF (al ah b f : Int) (w : World) (al0 : 0 ≤ al) (al1 : al < 4294967296) (ah0 : 0 ≤ ah) (ah1 : ah < 4294967296) (b0 : 0 ≤ b) (b1 : b < 4294967296) (f0 : 0 ≤ f) (f1 : f < 4294967296) (hg : ¬ 9 < al % 256 % 16) (hv : hasF f 16 = false) :
    Calls Try.prog 15 #[.int .i64 2, .int .u32 al, .int .u32 ah, .int .u32 b, .int .u32 f] w fun e w' => e = .returned (.tuple #[.int .u32 (rX 2 al ah b f), .int .u32 (rY 2 al ah b f), .int .u32 (rF 2 al ah b f), .bool true, .int .i64 0]) ∧ Grown w w' := by
  have A0 := (mod_bd (M := 256) (by decide) al).1
  have A1 := (mod_bd (M := 256) (by decide) al).2
  have Y0 := (mod_bd (M := 256) (by decide) ah).1
  have Y1 := (mod_bd (M := 256) (by decide) ah).2
  have D0 := (mod_bd (M := 256) (by decide) b).1
  have D1 := (mod_bd (M := 256) (by decide) b).2
  have wA : IntKind.u64.wrap (al % 256) = al % 256 := by rw [wrap_u64']; omega
  have wY : IntKind.u64.wrap (ah % 256) = ah % 256 := by rw [wrap_u64']; omega
  have wD : IntKind.u64.wrap (b % 256) = b % 256 := by rw [wrap_u64']; omega
  have eo : dOff (al % 256) (hasF f 16) = false := (off_n hg _).trans hv
  have ex : rX 2 al ah b f = al % 256 % 16 := (rX2 al ah b f).trans (by rw [eo]; exact (by omega : (al % 256 + 0) % 256 % 16 = al % 256 % 16))
  have ey : rY 2 al ah b f = ah % 256 := (rY2 al ah b f).trans (by rw [eo]; exact (by omega : (ah % 256 + 0) % 256 = ah % 256))
  have HX : Hid (al % 256 % 16 = rX 2 al ah b f) := ex.symm
  have HYr : Hid (ah % 256 = rY 2 al ah b f) := ey.symm
  have HF : Hid (byF 128 (al % 256 % 16) (setF (setF (setF f 1 false) 16 false) 2048 false) = rF 2 al ah b f) := (by rw [comm16 f0 f1]; exact rF_eq ex ((aA 2 (by decide) _).trans eo) ((cA 2 _ (by decide) (by decide) (by decide) _ _).trans eo) : byF 128 (al % 256 % 16) (setF (setF (setF f 1 false) 16 false) 2048 false) = rF 2 al ah b f)
  have X0 : 0 ≤ al % 256 % 16 := by omega
  have X1 : al % 256 % 16 < 256 := by omega
  have B1 : Hid _ := bd1 f0 f1 1 fl1 false
  have B2 : Hid _ := bd2 f0 f1 1 16 fl1 fl16 false false
  have B3 : Hid _ := bd3 f0 f1 1 16 2048 fl1 fl16 fl2048 false false false
  have wX : IntKind.u32.wrap (al % 256 % 16) = al % 256 % 16 := (by omega : (al % 256 % 16) % 4294967296 = al % 256 % 16)
  have wY' : IntKind.u32.wrap (ah % 256) = ah % 256 := (by omega : (ah % 256) % 4294967296 = ah % 256)
  clear ex ey eo
  revert hg A0 A1 Y0 Y1 D0 D1 wA wY wD HX HYr HF X0 X1 wX wY'
  generalize hA' : al % 256 = A
  generalize hY' : ah % 256 = Y
  generalize hD' : b % 256 = D
  intro hg A0 A1 Y0 Y1 D0 D1 wA wY wD HX HYr HF X0 X1 wX wY'
  have HV : Hid (∀ w : World, Calls Try.prog 36 #[.int .u32 f, .int .u32 16] w fun e w' => e = .returned (.bool false) ∧ w' = w) := fun w => Has_is _ _ _ w f0 f1 fl16 hv
  clear hv
  go_enter Try.func15, Try.ntmps15
  go_wp2_with fail
  refine (HV.out _).mono ?_; rintro e w1 ⟨rfl, hw⟩; replace hw := hw.symm; subst hw
  go_wp2_with fail
  refine (Set_any _ _ _ _ f0 f1 fl1).mono ?_; rintro e w1 ⟨rfl, hw⟩; replace hw := hw.symm; subst hw
  go_wp2_with fail
  refine (Set_any _ _ _ _ B1.out.1 B1.out.2 fl16).mono ?_; rintro e w1 ⟨rfl, hw⟩; replace hw := hw.symm; subst hw
  go_wp2_with fail
  refine (Set_any _ _ _ _ B2.out.1 B2.out.2 fl2048).mono ?_; rintro e w1 ⟨rfl, hw⟩; replace hw := hw.symm; subst hw
  go_wp2_with fail
  refine (By_any sz1 _ _ _ X0 X1 B3.out.1 B3.out.2).mono ?_; rintro e w1 ⟨rfl, hw⟩; replace hw := hw.symm; subst hw
  go_wp2
  exact bodyPost_ret (v := .tuple #[.int .u32 (A % 16), .int .u32 (Y), .int .u32 (byF 128 (A % 16) (setF (setF (setF f 1 false) 16 false) 2048 false)), .bool true, .int .i64 0]) (by simp [results, Try.results15, go_sem]) rfl
    ⟨by rw [HF.out, HX.out, HYr.out], Grown.refl _⟩

set_option maxHeartbeats 1000000 in
theorem rAdj3_G (al ah b f : Int) (w : World) (al0 : 0 ≤ al) (al1 : al < 4294967296) (ah0 : 0 ≤ ah) (ah1 : ah < 4294967296) (b0 : 0 ≤ b) (b1 : b < 4294967296) (f0 : 0 ≤ f) (f1 : f < 4294967296) (hg : 9 < al % 256 % 16) :
    Calls Try.prog 15 #[.int .i64 3, .int .u32 al, .int .u32 ah, .int .u32 b, .int .u32 f] w fun e w' => e = .returned (.tuple #[.int .u32 (rX 3 al ah b f), .int .u32 (rY 3 al ah b f), .int .u32 (rF 3 al ah b f), .bool true, .int .i64 0]) ∧ Grown w w' := by
  have A0 := (mod_bd (M := 256) (by decide) al).1
  have A1 := (mod_bd (M := 256) (by decide) al).2
  have Y0 := (mod_bd (M := 256) (by decide) ah).1
  have Y1 := (mod_bd (M := 256) (by decide) ah).2
  have D0 := (mod_bd (M := 256) (by decide) b).1
  have D1 := (mod_bd (M := 256) (by decide) b).2
  have wA : IntKind.u64.wrap (al % 256) = al % 256 := by rw [wrap_u64']; omega
  have wY : IntKind.u64.wrap (ah % 256) = ah % 256 := by rw [wrap_u64']; omega
  have wD : IntKind.u64.wrap (b % 256) = b % 256 := by rw [wrap_u64']; omega
  have eo : dOff (al % 256) (hasF f 16) = true := off_g hg _
  have ex : rX 3 al ah b f = (al % 256 + 250) % 16 := (rX3 al ah b f).trans (by rw [eo]; exact (by omega : (al % 256 + 250) % 256 % 16 = (al % 256 + 250) % 16))
  have ey : rY 3 al ah b f = (ah % 256 + 255) % 256 := (rY3 al ah b f).trans (by rw [eo]; exact (by omega : (ah % 256 + 255) % 256 = (ah % 256 + 255) % 256))
  have HX : Hid ((al % 256 + 250) % 16 = rX 3 al ah b f) := ex.symm
  have HYr : Hid ((ah % 256 + 255) % 256 = rY 3 al ah b f) := ey.symm
  have HF : Hid (byF 128 ((al % 256 + 250) % 16) (setF (setF (setF f 1 true) 16 true) 2048 false) = rF 3 al ah b f) := (by rw [comm16 f0 f1]; exact rF_eq ex ((aA 3 (by decide) _).trans eo) ((cA 3 _ (by decide) (by decide) (by decide) _ _).trans eo) : byF 128 ((al % 256 + 250) % 16) (setF (setF (setF f 1 true) 16 true) 2048 false) = rF 3 al ah b f)
  have X0 : 0 ≤ (al % 256 + 250) % 16 := by omega
  have X1 : (al % 256 + 250) % 16 < 256 := by omega
  have B1 : Hid _ := bd1 f0 f1 1 fl1 true
  have B2 : Hid _ := bd2 f0 f1 1 16 fl1 fl16 true true
  have B3 : Hid _ := bd3 f0 f1 1 16 2048 fl1 fl16 fl2048 true true false
  have wX : IntKind.u32.wrap ((al % 256 + 250) % 16) = (al % 256 + 250) % 16 := (by omega : ((al % 256 + 250) % 16) % 4294967296 = (al % 256 + 250) % 16)
  have wY' : IntKind.u32.wrap ((ah % 256 + 255) % 256) = (ah % 256 + 255) % 256 := (by omega : ((ah % 256 + 255) % 256) % 4294967296 = (ah % 256 + 255) % 256)
  clear ex ey eo
  revert hg A0 A1 Y0 Y1 D0 D1 wA wY wD HX HYr HF X0 X1 wX wY'
  generalize hA' : al % 256 = A
  generalize hY' : ah % 256 = Y
  generalize hD' : b % 256 = D
  intro hg A0 A1 Y0 Y1 D0 D1 wA wY wD HX HYr HF X0 X1 wX wY'
  go_enter Try.func15, Try.ntmps15
  go_wp2_with fail
  refine (Set_any _ _ _ _ f0 f1 fl1).mono ?_; rintro e w1 ⟨rfl, hw⟩; replace hw := hw.symm; subst hw
  go_wp2_with fail
  refine (Set_any _ _ _ _ B1.out.1 B1.out.2 fl16).mono ?_; rintro e w1 ⟨rfl, hw⟩; replace hw := hw.symm; subst hw
  go_wp2_with fail
  refine (Set_any _ _ _ _ B2.out.1 B2.out.2 fl2048).mono ?_; rintro e w1 ⟨rfl, hw⟩; replace hw := hw.symm; subst hw
  go_wp2_with fail
  refine (By_any sz1 _ _ _ X0 X1 B3.out.1 B3.out.2).mono ?_; rintro e w1 ⟨rfl, hw⟩; replace hw := hw.symm; subst hw
  go_wp2
  exact bodyPost_ret (v := .tuple #[.int .u32 ((A + 250) % 16), .int .u32 ((Y + 255) % 256), .int .u32 (byF 128 ((A + 250) % 16) (setF (setF (setF f 1 true) 16 true) 2048 false)), .bool true, .int .i64 0]) (by simp [results, Try.results15, go_sem]) rfl
    ⟨by rw [HF.out, HX.out, HYr.out], Grown.refl _⟩

set_option maxHeartbeats 1000000 in
theorem rAdj3_NT (al ah b f : Int) (w : World) (al0 : 0 ≤ al) (al1 : al < 4294967296) (ah0 : 0 ≤ ah) (ah1 : ah < 4294967296) (b0 : 0 ≤ b) (b1 : b < 4294967296) (f0 : 0 ≤ f) (f1 : f < 4294967296) (hg : ¬ 9 < al % 256 % 16) (hv : hasF f 16 = true) :
    Calls Try.prog 15 #[.int .i64 3, .int .u32 al, .int .u32 ah, .int .u32 b, .int .u32 f] w fun e w' => e = .returned (.tuple #[.int .u32 (rX 3 al ah b f), .int .u32 (rY 3 al ah b f), .int .u32 (rF 3 al ah b f), .bool true, .int .i64 0]) ∧ Grown w w' := by
  have A0 := (mod_bd (M := 256) (by decide) al).1
  have A1 := (mod_bd (M := 256) (by decide) al).2
  have Y0 := (mod_bd (M := 256) (by decide) ah).1
  have Y1 := (mod_bd (M := 256) (by decide) ah).2
  have D0 := (mod_bd (M := 256) (by decide) b).1
  have D1 := (mod_bd (M := 256) (by decide) b).2
  have wA : IntKind.u64.wrap (al % 256) = al % 256 := by rw [wrap_u64']; omega
  have wY : IntKind.u64.wrap (ah % 256) = ah % 256 := by rw [wrap_u64']; omega
  have wD : IntKind.u64.wrap (b % 256) = b % 256 := by rw [wrap_u64']; omega
  have eo : dOff (al % 256) (hasF f 16) = true := (off_n hg _).trans hv
  have ex : rX 3 al ah b f = (al % 256 + 250) % 16 := (rX3 al ah b f).trans (by rw [eo]; exact (by omega : (al % 256 + 250) % 256 % 16 = (al % 256 + 250) % 16))
  have ey : rY 3 al ah b f = (ah % 256 + 255) % 256 := (rY3 al ah b f).trans (by rw [eo]; exact (by omega : (ah % 256 + 255) % 256 = (ah % 256 + 255) % 256))
  have HX : Hid ((al % 256 + 250) % 16 = rX 3 al ah b f) := ex.symm
  have HYr : Hid ((ah % 256 + 255) % 256 = rY 3 al ah b f) := ey.symm
  have HF : Hid (byF 128 ((al % 256 + 250) % 16) (setF (setF (setF f 1 true) 16 true) 2048 false) = rF 3 al ah b f) := (by rw [comm16 f0 f1]; exact rF_eq ex ((aA 3 (by decide) _).trans eo) ((cA 3 _ (by decide) (by decide) (by decide) _ _).trans eo) : byF 128 ((al % 256 + 250) % 16) (setF (setF (setF f 1 true) 16 true) 2048 false) = rF 3 al ah b f)
  have X0 : 0 ≤ (al % 256 + 250) % 16 := by omega
  have X1 : (al % 256 + 250) % 16 < 256 := by omega
  have B1 : Hid _ := bd1 f0 f1 1 fl1 true
  have B2 : Hid _ := bd2 f0 f1 1 16 fl1 fl16 true true
  have B3 : Hid _ := bd3 f0 f1 1 16 2048 fl1 fl16 fl2048 true true false
  have wX : IntKind.u32.wrap ((al % 256 + 250) % 16) = (al % 256 + 250) % 16 := (by omega : ((al % 256 + 250) % 16) % 4294967296 = (al % 256 + 250) % 16)
  have wY' : IntKind.u32.wrap ((ah % 256 + 255) % 256) = (ah % 256 + 255) % 256 := (by omega : ((ah % 256 + 255) % 256) % 4294967296 = (ah % 256 + 255) % 256)
  clear ex ey eo
  revert hg A0 A1 Y0 Y1 D0 D1 wA wY wD HX HYr HF X0 X1 wX wY'
  generalize hA' : al % 256 = A
  generalize hY' : ah % 256 = Y
  generalize hD' : b % 256 = D
  intro hg A0 A1 Y0 Y1 D0 D1 wA wY wD HX HYr HF X0 X1 wX wY'
  have HV : Hid (∀ w : World, Calls Try.prog 36 #[.int .u32 f, .int .u32 16] w fun e w' => e = .returned (.bool true) ∧ w' = w) := fun w => Has_is _ _ _ w f0 f1 fl16 hv
  clear hv
  go_enter Try.func15, Try.ntmps15
  go_wp2_with fail
  refine (HV.out _).mono ?_; rintro e w1 ⟨rfl, hw⟩; replace hw := hw.symm; subst hw
  go_wp2_with fail
  refine (Set_any _ _ _ _ f0 f1 fl1).mono ?_; rintro e w1 ⟨rfl, hw⟩; replace hw := hw.symm; subst hw
  go_wp2_with fail
  refine (Set_any _ _ _ _ B1.out.1 B1.out.2 fl16).mono ?_; rintro e w1 ⟨rfl, hw⟩; replace hw := hw.symm; subst hw
  go_wp2_with fail
  refine (Set_any _ _ _ _ B2.out.1 B2.out.2 fl2048).mono ?_; rintro e w1 ⟨rfl, hw⟩; replace hw := hw.symm; subst hw
  go_wp2_with fail
  refine (By_any sz1 _ _ _ X0 X1 B3.out.1 B3.out.2).mono ?_; rintro e w1 ⟨rfl, hw⟩; replace hw := hw.symm; subst hw
  go_wp2
  exact bodyPost_ret (v := .tuple #[.int .u32 ((A + 250) % 16), .int .u32 ((Y + 255) % 256), .int .u32 (byF 128 ((A + 250) % 16) (setF (setF (setF f 1 true) 16 true) 2048 false)), .bool true, .int .i64 0]) (by simp [results, Try.results15, go_sem]) rfl
    ⟨by rw [HF.out, HX.out, HYr.out], Grown.refl _⟩

set_option maxHeartbeats 1000000 in
theorem rAdj3_NF (al ah b f : Int) (w : World) (al0 : 0 ≤ al) (al1 : al < 4294967296) (ah0 : 0 ≤ ah) (ah1 : ah < 4294967296) (b0 : 0 ≤ b) (b1 : b < 4294967296) (f0 : 0 ≤ f) (f1 : f < 4294967296) (hg : ¬ 9 < al % 256 % 16) (hv : hasF f 16 = false) :
    Calls Try.prog 15 #[.int .i64 3, .int .u32 al, .int .u32 ah, .int .u32 b, .int .u32 f] w fun e w' => e = .returned (.tuple #[.int .u32 (rX 3 al ah b f), .int .u32 (rY 3 al ah b f), .int .u32 (rF 3 al ah b f), .bool true, .int .i64 0]) ∧ Grown w w' := by
  have A0 := (mod_bd (M := 256) (by decide) al).1
  have A1 := (mod_bd (M := 256) (by decide) al).2
  have Y0 := (mod_bd (M := 256) (by decide) ah).1
  have Y1 := (mod_bd (M := 256) (by decide) ah).2
  have D0 := (mod_bd (M := 256) (by decide) b).1
  have D1 := (mod_bd (M := 256) (by decide) b).2
  have wA : IntKind.u64.wrap (al % 256) = al % 256 := by rw [wrap_u64']; omega
  have wY : IntKind.u64.wrap (ah % 256) = ah % 256 := by rw [wrap_u64']; omega
  have wD : IntKind.u64.wrap (b % 256) = b % 256 := by rw [wrap_u64']; omega
  have eo : dOff (al % 256) (hasF f 16) = false := (off_n hg _).trans hv
  have ex : rX 3 al ah b f = al % 256 % 16 := (rX3 al ah b f).trans (by rw [eo]; exact (by omega : (al % 256 + 0) % 256 % 16 = al % 256 % 16))
  have ey : rY 3 al ah b f = ah % 256 := (rY3 al ah b f).trans (by rw [eo]; exact (by omega : (ah % 256 + 0) % 256 = ah % 256))
  have HX : Hid (al % 256 % 16 = rX 3 al ah b f) := ex.symm
  have HYr : Hid (ah % 256 = rY 3 al ah b f) := ey.symm
  have HF : Hid (byF 128 (al % 256 % 16) (setF (setF (setF f 1 false) 16 false) 2048 false) = rF 3 al ah b f) := (by rw [comm16 f0 f1]; exact rF_eq ex ((aA 3 (by decide) _).trans eo) ((cA 3 _ (by decide) (by decide) (by decide) _ _).trans eo) : byF 128 (al % 256 % 16) (setF (setF (setF f 1 false) 16 false) 2048 false) = rF 3 al ah b f)
  have X0 : 0 ≤ al % 256 % 16 := by omega
  have X1 : al % 256 % 16 < 256 := by omega
  have B1 : Hid _ := bd1 f0 f1 1 fl1 false
  have B2 : Hid _ := bd2 f0 f1 1 16 fl1 fl16 false false
  have B3 : Hid _ := bd3 f0 f1 1 16 2048 fl1 fl16 fl2048 false false false
  have wX : IntKind.u32.wrap (al % 256 % 16) = al % 256 % 16 := (by omega : (al % 256 % 16) % 4294967296 = al % 256 % 16)
  have wY' : IntKind.u32.wrap (ah % 256) = ah % 256 := (by omega : (ah % 256) % 4294967296 = ah % 256)
  clear ex ey eo
  revert hg A0 A1 Y0 Y1 D0 D1 wA wY wD HX HYr HF X0 X1 wX wY'
  generalize hA' : al % 256 = A
  generalize hY' : ah % 256 = Y
  generalize hD' : b % 256 = D
  intro hg A0 A1 Y0 Y1 D0 D1 wA wY wD HX HYr HF X0 X1 wX wY'
  have HV : Hid (∀ w : World, Calls Try.prog 36 #[.int .u32 f, .int .u32 16] w fun e w' => e = .returned (.bool false) ∧ w' = w) := fun w => Has_is _ _ _ w f0 f1 fl16 hv
  clear hv
  go_enter Try.func15, Try.ntmps15
  go_wp2_with fail
  refine (HV.out _).mono ?_; rintro e w1 ⟨rfl, hw⟩; replace hw := hw.symm; subst hw
  go_wp2_with fail
  refine (Set_any _ _ _ _ f0 f1 fl1).mono ?_; rintro e w1 ⟨rfl, hw⟩; replace hw := hw.symm; subst hw
  go_wp2_with fail
  refine (Set_any _ _ _ _ B1.out.1 B1.out.2 fl16).mono ?_; rintro e w1 ⟨rfl, hw⟩; replace hw := hw.symm; subst hw
  go_wp2_with fail
  refine (Set_any _ _ _ _ B2.out.1 B2.out.2 fl2048).mono ?_; rintro e w1 ⟨rfl, hw⟩; replace hw := hw.symm; subst hw
  go_wp2_with fail
  refine (By_any sz1 _ _ _ X0 X1 B3.out.1 B3.out.2).mono ?_; rintro e w1 ⟨rfl, hw⟩; replace hw := hw.symm; subst hw
  go_wp2
  exact bodyPost_ret (v := .tuple #[.int .u32 (A % 16), .int .u32 (Y), .int .u32 (byF 128 (A % 16) (setF (setF (setF f 1 false) 16 false) 2048 false)), .bool true, .int .i64 0]) (by simp [results, Try.results15, go_sem]) rfl
    ⟨by rw [HF.out, HX.out, HYr.out], Grown.refl _⟩

set_option maxHeartbeats 1000000 in
theorem rAdj4_G (al ah b f : Int) (w : World) (al0 : 0 ≤ al) (al1 : al < 4294967296) (ah0 : 0 ≤ ah) (ah1 : ah < 4294967296) (b0 : 0 ≤ b) (b1 : b < 4294967296) (f0 : 0 ≤ f) (f1 : f < 4294967296) (hg : 9 < al % 256 % 16) (hb : b % 256 ≠ 0) :
    Calls Try.prog 15 #[.int .i64 4, .int .u32 al, .int .u32 ah, .int .u32 b, .int .u32 f] w fun e w' => e = .returned (.tuple #[.int .u32 (rX 4 al ah b f), .int .u32 (rY 4 al ah b f), .int .u32 (rF 4 al ah b f), .bool true, .int .i64 0]) ∧ Grown w w' := by
  have A0 := (mod_bd (M := 256) (by decide) al).1
  have A1 := (mod_bd (M := 256) (by decide) al).2
  have Y0 := (mod_bd (M := 256) (by decide) ah).1
  have Y1 := (mod_bd (M := 256) (by decide) ah).2
  have D0 := (mod_bd (M := 256) (by decide) b).1
  have D1 := (mod_bd (M := 256) (by decide) b).2
  have wA : IntKind.u64.wrap (al % 256) = al % 256 := by rw [wrap_u64']; omega
  have wY : IntKind.u64.wrap (ah % 256) = ah % 256 := by rw [wrap_u64']; omega
  have wD : IntKind.u64.wrap (b % 256) = b % 256 := by rw [wrap_u64']; omega
  have hb' : (b % 256 == 0) = false := by simp; omega
  have X0 := (mod_bd (M := b % 256) (by omega) (al % 256)).1
  have X2 := (mod_bd (M := b % 256) (by omega) (al % 256)).2
  have X1 : al % 256 % (b % 256) < 256 := by omega
  have q0 : 0 ≤ al % 256 / (b % 256) := Int.ediv_nonneg A0 D0
  have q1 : al % 256 / (b % 256) < 256 := Int.lt_of_le_of_lt (Int.ediv_le_self _ A0) A1
  have wX : IntKind.u32.wrap (al % 256 % (b % 256)) = al % 256 % (b % 256) := Int.emod_eq_of_lt X0 (Int.lt_trans X1 (by decide))
  have wY' : IntKind.u32.wrap (al % 256 / (b % 256)) = al % 256 / (b % 256) := Int.emod_eq_of_lt q0 (Int.lt_trans q1 (by decide))
  have HX : Hid (al % 256 % (b % 256) = rX 4 al ah b f) := (rX4 al ah b f).symm
  have HYr : Hid (al % 256 / (b % 256) = rY 4 al ah b f) := (rY4 al ah b f).symm
  have HF : Hid (byF 128 (al % 256 % (b % 256)) (setF (setF (setF f 1 false) 16 false) 2048 false) = rF 4 al ah b f) := (by rw [comm16 f0 f1]; exact rF_eq (rX4 al ah b f) (aZ 4 (by decide) _) (cZ 4 _ (by decide) (by decide) (by decide) _ _) : byF 128 (al % 256 % (b % 256)) (setF (setF (setF f 1 false) 16 false) 2048 false) = rF 4 al ah b f)
  have B1 : Hid _ := bd1 f0 f1 1 fl1 false
  have B2 : Hid _ := bd2 f0 f1 1 16 fl1 fl16 false false
  have B3 : Hid _ := bd3 f0 f1 1 16 2048 fl1 fl16 fl2048 false false false
  go_enter Try.func15, Try.ntmps15
  go_wp2_with fail
  refine (Set_any _ _ _ _ f0 f1 fl1).mono ?_; rintro e w1 ⟨rfl, hw⟩; replace hw := hw.symm; subst hw
  go_wp2_with fail
  refine (Set_any _ _ _ _ B1.out.1 B1.out.2 fl16).mono ?_; rintro e w1 ⟨rfl, hw⟩; replace hw := hw.symm; subst hw
  go_wp2_with fail
  refine (Set_any _ _ _ _ B2.out.1 B2.out.2 fl2048).mono ?_; rintro e w1 ⟨rfl, hw⟩; replace hw := hw.symm; subst hw
  go_wp2_with fail
  refine (By_any sz1 _ _ _ X0 X1 B3.out.1 B3.out.2).mono ?_; rintro e w1 ⟨rfl, hw⟩; replace hw := hw.symm; subst hw
  go_wp2
  exact bodyPost_ret (v := .tuple #[.int .u32 (al % 256 % (b % 256)), .int .u32 (al % 256 / (b % 256)), .int .u32 (byF 128 (al % 256 % (b % 256)) (setF (setF (setF f 1 false) 16 false) 2048 false)), .bool true, .int .i64 0]) (by simp [results, Try.results15, go_sem]) rfl
    ⟨by rw [HF.out, HX.out, HYr.out], Grown.refl _⟩

set_option maxHeartbeats 1000000 in
theorem rAdj4_N (al ah b f : Int) (w : World) (al0 : 0 ≤ al) (al1 : al < 4294967296) (ah0 : 0 ≤ ah) (ah1 : ah < 4294967296) (b0 : 0 ≤ b) (b1 : b < 4294967296) (f0 : 0 ≤ f) (f1 : f < 4294967296) (hg : ¬ 9 < al % 256 % 16) (hb : b % 256 ≠ 0) :
    Calls Try.prog 15 #[.int .i64 4, .int .u32 al, .int .u32 ah, .int .u32 b, .int .u32 f] w fun e w' => e = .returned (.tuple #[.int .u32 (rX 4 al ah b f), .int .u32 (rY 4 al ah b f), .int .u32 (rF 4 al ah b f), .bool true, .int .i64 0]) ∧ Grown w w' := by
  have A0 := (mod_bd (M := 256) (by decide) al).1
  have A1 := (mod_bd (M := 256) (by decide) al).2
  have Y0 := (mod_bd (M := 256) (by decide) ah).1
  have Y1 := (mod_bd (M := 256) (by decide) ah).2
  have D0 := (mod_bd (M := 256) (by decide) b).1
  have D1 := (mod_bd (M := 256) (by decide) b).2
  have wA : IntKind.u64.wrap (al % 256) = al % 256 := by rw [wrap_u64']; omega
  have wY : IntKind.u64.wrap (ah % 256) = ah % 256 := by rw [wrap_u64']; omega
  have wD : IntKind.u64.wrap (b % 256) = b % 256 := by rw [wrap_u64']; omega
  have hb' : (b % 256 == 0) = false := by simp; omega
  have X0 := (mod_bd (M := b % 256) (by omega) (al % 256)).1
  have X2 := (mod_bd (M := b % 256) (by omega) (al % 256)).2
  have X1 : al % 256 % (b % 256) < 256 := by omega
  have q0 : 0 ≤ al % 256 / (b % 256) := Int.ediv_nonneg A0 D0
  have q1 : al % 256 / (b % 256) < 256 := Int.lt_of_le_of_lt (Int.ediv_le_self _ A0) A1
  have wX : IntKind.u32.wrap (al % 256 % (b % 256)) = al % 256 % (b % 256) := Int.emod_eq_of_lt X0 (Int.lt_trans X1 (by decide))
  have wY' : IntKind.u32.wrap (al % 256 / (b % 256)) = al % 256 / (b % 256) := Int.emod_eq_of_lt q0 (Int.lt_trans q1 (by decide))
  have HX : Hid (al % 256 % (b % 256) = rX 4 al ah b f) := (rX4 al ah b f).symm
  have HYr : Hid (al % 256 / (b % 256) = rY 4 al ah b f) := (rY4 al ah b f).symm
  have HF : Hid (byF 128 (al % 256 % (b % 256)) (setF (setF (setF f 1 false) 16 false) 2048 false) = rF 4 al ah b f) := (by rw [comm16 f0 f1]; exact rF_eq (rX4 al ah b f) (aZ 4 (by decide) _) (cZ 4 _ (by decide) (by decide) (by decide) _ _) : byF 128 (al % 256 % (b % 256)) (setF (setF (setF f 1 false) 16 false) 2048 false) = rF 4 al ah b f)
  have B1 : Hid _ := bd1 f0 f1 1 fl1 false
  have B2 : Hid _ := bd2 f0 f1 1 16 fl1 fl16 false false
  have B3 : Hid _ := bd3 f0 f1 1 16 2048 fl1 fl16 fl2048 false false false
  have HV : Hid (∀ w : World, Calls Try.prog 36 #[.int .u32 f, .int .u32 16] w fun e w' => e = .returned (.bool (hasF f 16)) ∧ w' = w) := fun w => Has_any f 16 w f0 f1 fl16
  go_enter Try.func15, Try.ntmps15
  go_wp2_with fail
  refine (HV.out _).mono ?_; rintro e w1 ⟨rfl, hw⟩; replace hw := hw.symm; subst hw
  go_wp2_with fail
  refine (Set_any _ _ _ _ f0 f1 fl1).mono ?_; rintro e w1 ⟨rfl, hw⟩; replace hw := hw.symm; subst hw
  go_wp2_with fail
  refine (Set_any _ _ _ _ B1.out.1 B1.out.2 fl16).mono ?_; rintro e w1 ⟨rfl, hw⟩; replace hw := hw.symm; subst hw
  go_wp2_with fail
  refine (Set_any _ _ _ _ B2.out.1 B2.out.2 fl2048).mono ?_; rintro e w1 ⟨rfl, hw⟩; replace hw := hw.symm; subst hw
  go_wp2_with fail
  refine (By_any sz1 _ _ _ X0 X1 B3.out.1 B3.out.2).mono ?_; rintro e w1 ⟨rfl, hw⟩; replace hw := hw.symm; subst hw
  go_wp2
  exact bodyPost_ret (v := .tuple #[.int .u32 (al % 256 % (b % 256)), .int .u32 (al % 256 / (b % 256)), .int .u32 (byF 128 (al % 256 % (b % 256)) (setF (setF (setF f 1 false) 16 false) 2048 false)), .bool true, .int .i64 0]) (by simp [results, Try.results15, go_sem]) rfl
    ⟨by rw [HF.out, HX.out, HYr.out], Grown.refl _⟩

set_option maxHeartbeats 1000000 in
theorem rAdj5_G (al ah b f : Int) (w : World) (al0 : 0 ≤ al) (al1 : al < 4294967296) (ah0 : 0 ≤ ah) (ah1 : ah < 4294967296) (b0 : 0 ≤ b) (b1 : b < 4294967296) (f0 : 0 ≤ f) (f1 : f < 4294967296) (hg : 9 < al % 256 % 16) :
    Calls Try.prog 15 #[.int .i64 5, .int .u32 al, .int .u32 ah, .int .u32 b, .int .u32 f] w fun e w' => e = .returned (.tuple #[.int .u32 (rX 5 al ah b f), .int .u32 (rY 5 al ah b f), .int .u32 (rF 5 al ah b f), .bool true, .int .i64 0]) ∧ Grown w w' := by
  have A0 := (mod_bd (M := 256) (by decide) al).1
  have A1 := (mod_bd (M := 256) (by decide) al).2
  have Y0 := (mod_bd (M := 256) (by decide) ah).1
  have Y1 := (mod_bd (M := 256) (by decide) ah).2
  have D0 := (mod_bd (M := 256) (by decide) b).1
  have D1 := (mod_bd (M := 256) (by decide) b).2
  have wA : IntKind.u64.wrap (al % 256) = al % 256 := by rw [wrap_u64']; omega
  have wY : IntKind.u64.wrap (ah % 256) = ah % 256 := by rw [wrap_u64']; omega
  have wD : IntKind.u64.wrap (b % 256) = b % 256 := by rw [wrap_u64']; omega
  have hp := mul_nn (A := 255) (B := 255) Y0 (by omega) D0 (by omega)
  have wP : IntKind.u64.wrap (ah % 256 * (b % 256)) = ah % 256 * (b % 256) := Int.emod_eq_of_lt hp.1 (Int.lt_of_le_of_lt hp.2 (by decide))
  have wS : IntKind.u64.wrap (al % 256 + ah % 256 * (b % 256)) = al % 256 + ah % 256 * (b % 256) := by rw [wrap_u64']; omega
  have s0 : 0 ≤ al % 256 + ah % 256 * (b % 256) := by omega
  have X0 : 0 ≤ (al % 256 + ah % 256 * (b % 256)) % 256 := by omega
  have X1 : (al % 256 + ah % 256 * (b % 256)) % 256 < 256 := by omega
  have wX : IntKind.u32.wrap ((al % 256 + ah % 256 * (b % 256)) % 256) = (al % 256 + ah % 256 * (b % 256)) % 256 := Int.emod_eq_of_lt X0 (Int.lt_trans X1 (by decide))
  clear hp
  have HX : Hid ((al % 256 + ah % 256 * (b % 256)) % 256 = rX 5 al ah b f) := (rX5 al ah b f).symm
  have HYr : Hid (0 = rY 5 al ah b f) := (rY5 al ah b f).symm
  have HF : Hid (byF 128 ((al % 256 + ah % 256 * (b % 256)) % 256) (setF (setF (setF f 1 false) 16 false) 2048 false) = rF 5 al ah b f) := (by rw [comm16 f0 f1]; exact rF_eq (rX5 al ah b f) (aZ 5 (by decide) _) (cZ 5 _ (by decide) (by decide) (by decide) _ _) : byF 128 ((al % 256 + ah % 256 * (b % 256)) % 256) (setF (setF (setF f 1 false) 16 false) 2048 false) = rF 5 al ah b f)
  have B1 : Hid _ := bd1 f0 f1 1 fl1 false
  have B2 : Hid _ := bd2 f0 f1 1 16 fl1 fl16 false false
  have B3 : Hid _ := bd3 f0 f1 1 16 2048 fl1 fl16 fl2048 false false false
  revert hg A0 A1 Y0 Y1 D0 D1 wA wY wD wP wS s0 X0 X1 wX HX HYr HF
  generalize hA' : al % 256 = A
  generalize hY' : ah % 256 = Y
  generalize hD' : b % 256 = D
  intro hg A0 A1 Y0 Y1 D0 D1 wA wY wD wP wS s0 X0 X1 wX HX HYr HF
  go_enter Try.func15, Try.ntmps15
  go_wp2_with fail
  refine (Set_any _ _ _ _ f0 f1 fl1).mono ?_; rintro e w1 ⟨rfl, hw⟩; replace hw := hw.symm; subst hw
  go_wp2_with fail
  refine (Set_any _ _ _ _ B1.out.1 B1.out.2 fl16).mono ?_; rintro e w1 ⟨rfl, hw⟩; replace hw := hw.symm; subst hw
  go_wp2_with fail
  refine (Set_any _ _ _ _ B2.out.1 B2.out.2 fl2048).mono ?_; rintro e w1 ⟨rfl, hw⟩; replace hw := hw.symm; subst hw
  go_wp2_with fail
  refine (By_any sz1 _ _ _ X0 X1 B3.out.1 B3.out.2).mono ?_; rintro e w1 ⟨rfl, hw⟩; replace hw := hw.symm; subst hw
  go_wp2
  exact bodyPost_ret (v := .tuple #[.int .u32 ((A + Y * (D)) % 256), .int .u32 (0), .int .u32 (byF 128 ((A + Y * (D)) % 256) (setF (setF (setF f 1 false) 16 false) 2048 false)), .bool true, .int .i64 0]) (by simp [results, Try.results15, go_sem]) rfl
    ⟨by rw [HF.out, HX.out, rY5], Grown.refl _⟩

set_option maxHeartbeats 1000000 in
theorem rAdj5_N (al ah b f : Int) (w : World) (al0 : 0 ≤ al) (al1 : al < 4294967296) (ah0 : 0 ≤ ah) (ah1 : ah < 4294967296) (b0 : 0 ≤ b) (b1 : b < 4294967296) (f0 : 0 ≤ f) (f1 : f < 4294967296) (hg : ¬ 9 < al % 256 % 16) :
    Calls Try.prog 15 #[.int .i64 5, .int .u32 al, .int .u32 ah, .int .u32 b, .int .u32 f] w fun e w' => e = .returned (.tuple #[.int .u32 (rX 5 al ah b f), .int .u32 (rY 5 al ah b f), .int .u32 (rF 5 al ah b f), .bool true, .int .i64 0]) ∧ Grown w w' := by
  have A0 := (mod_bd (M := 256) (by decide) al).1
  have A1 := (mod_bd (M := 256) (by decide) al).2
  have Y0 := (mod_bd (M := 256) (by decide) ah).1
  have Y1 := (mod_bd (M := 256) (by decide) ah).2
  have D0 := (mod_bd (M := 256) (by decide) b).1
  have D1 := (mod_bd (M := 256) (by decide) b).2
  have wA : IntKind.u64.wrap (al % 256) = al % 256 := by rw [wrap_u64']; omega
  have wY : IntKind.u64.wrap (ah % 256) = ah % 256 := by rw [wrap_u64']; omega
  have wD : IntKind.u64.wrap (b % 256) = b % 256 := by rw [wrap_u64']; omega
  have hp := mul_nn (A := 255) (B := 255) Y0 (by omega) D0 (by omega)
  have wP : IntKind.u64.wrap (ah % 256 * (b % 256)) = ah % 256 * (b % 256) := Int.emod_eq_of_lt hp.1 (Int.lt_of_le_of_lt hp.2 (by decide))
  have wS : IntKind.u64.wrap (al % 256 + ah % 256 * (b % 256)) = al % 256 + ah % 256 * (b % 256) := by rw [wrap_u64']; omega
  have s0 : 0 ≤ al % 256 + ah % 256 * (b % 256) := by omega
  have X0 : 0 ≤ (al % 256 + ah % 256 * (b % 256)) % 256 := by omega
  have X1 : (al % 256 + ah % 256 * (b % 256)) % 256 < 256 := by omega
  have wX : IntKind.u32.wrap ((al % 256 + ah % 256 * (b % 256)) % 256) = (al % 256 + ah % 256 * (b % 256)) % 256 := Int.emod_eq_of_lt X0 (Int.lt_trans X1 (by decide))
  clear hp
  have HX : Hid ((al % 256 + ah % 256 * (b % 256)) % 256 = rX 5 al ah b f) := (rX5 al ah b f).symm
  have HYr : Hid (0 = rY 5 al ah b f) := (rY5 al ah b f).symm
  have HF : Hid (byF 128 ((al % 256 + ah % 256 * (b % 256)) % 256) (setF (setF (setF f 1 false) 16 false) 2048 false) = rF 5 al ah b f) := (by rw [comm16 f0 f1]; exact rF_eq (rX5 al ah b f) (aZ 5 (by decide) _) (cZ 5 _ (by decide) (by decide) (by decide) _ _) : byF 128 ((al % 256 + ah % 256 * (b % 256)) % 256) (setF (setF (setF f 1 false) 16 false) 2048 false) = rF 5 al ah b f)
  have B1 : Hid _ := bd1 f0 f1 1 fl1 false
  have B2 : Hid _ := bd2 f0 f1 1 16 fl1 fl16 false false
  have B3 : Hid _ := bd3 f0 f1 1 16 2048 fl1 fl16 fl2048 false false false
  revert hg A0 A1 Y0 Y1 D0 D1 wA wY wD wP wS s0 X0 X1 wX HX HYr HF
  generalize hA' : al % 256 = A
  generalize hY' : ah % 256 = Y
  generalize hD' : b % 256 = D
  intro hg A0 A1 Y0 Y1 D0 D1 wA wY wD wP wS s0 X0 X1 wX HX HYr HF
  have HV : Hid (∀ w : World, Calls Try.prog 36 #[.int .u32 f, .int .u32 16] w fun e w' => e = .returned (.bool (hasF f 16)) ∧ w' = w) := fun w => Has_any f 16 w f0 f1 fl16
  go_enter Try.func15, Try.ntmps15
  go_wp2_with fail
  refine (HV.out _).mono ?_; rintro e w1 ⟨rfl, hw⟩; replace hw := hw.symm; subst hw
  go_wp2_with fail
  refine (Set_any _ _ _ _ f0 f1 fl1).mono ?_; rintro e w1 ⟨rfl, hw⟩; replace hw := hw.symm; subst hw
  go_wp2_with fail
  refine (Set_any _ _ _ _ B1.out.1 B1.out.2 fl16).mono ?_; rintro e w1 ⟨rfl, hw⟩; replace hw := hw.symm; subst hw
  go_wp2_with fail
  refine (Set_any _ _ _ _ B2.out.1 B2.out.2 fl2048).mono ?_; rintro e w1 ⟨rfl, hw⟩; replace hw := hw.symm; subst hw
  go_wp2_with fail
  refine (By_any sz1 _ _ _ X0 X1 B3.out.1 B3.out.2).mono ?_; rintro e w1 ⟨rfl, hw⟩; replace hw := hw.symm; subst hw
  go_wp2
  exact bodyPost_ret (v := .tuple #[.int .u32 ((A + Y * (D)) % 256), .int .u32 (0), .int .u32 (byF 128 ((A + Y * (D)) % 256) (setF (setF (setF f 1 false) 16 false) 2048 false)), .bool true, .int .i64 0]) (by simp [results, Try.results15, go_sem]) rfl
    ⟨by rw [HF.out, HX.out, rY5], Grown.refl _⟩

set_option maxHeartbeats 1000000 in
theorem rAdjz_G (al ah b f : Int) (w : World) (al0 : 0 ≤ al) (al1 : al < 4294967296) (ah0 : 0 ≤ ah) (ah1 : ah < 4294967296) (b0 : 0 ≤ b) (b1 : b < 4294967296) (f0 : 0 ≤ f) (f1 : f < 4294967296) (hg : 9 < al % 256 % 16) (hb : b % 256 = 0) :
    Calls Try.prog 15 #[.int .i64 4, .int .u32 al, .int .u32 ah, .int .u32 b, .int .u32 f] w fun e w' => e = .returned (.tuple #[.int .u32 0, .int .u32 0, .int .u32 0, .bool false, .int .i64 0]) ∧ Grown w w' := by
  have A0 := (mod_bd (M := 256) (by decide) al).1
  have A1 := (mod_bd (M := 256) (by decide) al).2
  have Y0 := (mod_bd (M := 256) (by decide) ah).1
  have Y1 := (mod_bd (M := 256) (by decide) ah).2
  have D0 := (mod_bd (M := 256) (by decide) b).1
  have D1 := (mod_bd (M := 256) (by decide) b).2
  have wA : IntKind.u64.wrap (al % 256) = al % 256 := by rw [wrap_u64']; omega
  have wY : IntKind.u64.wrap (ah % 256) = ah % 256 := by rw [wrap_u64']; omega
  have wD : IntKind.u64.wrap (b % 256) = b % 256 := by rw [wrap_u64']; omega
  go_enter Try.func15, Try.ntmps15
  go_wp2
  exact bodyPost_ret (v := .tuple #[.int .u32 0, .int .u32 0, .int .u32 0, .bool false, .int .i64 0]) (by simp [results, Try.results15, go_sem]) rfl ⟨rfl, Grown.refl _⟩

set_option maxHeartbeats 1000000 in
theorem rAdjz_N (al ah b f : Int) (w : World) (al0 : 0 ≤ al) (al1 : al < 4294967296) (ah0 : 0 ≤ ah) (ah1 : ah < 4294967296) (b0 : 0 ≤ b) (b1 : b < 4294967296) (f0 : 0 ≤ f) (f1 : f < 4294967296) (hg : ¬ 9 < al % 256 % 16) (hb : b % 256 = 0) :
    Calls Try.prog 15 #[.int .i64 4, .int .u32 al, .int .u32 ah, .int .u32 b, .int .u32 f] w fun e w' => e = .returned (.tuple #[.int .u32 0, .int .u32 0, .int .u32 0, .bool false, .int .i64 0]) ∧ Grown w w' := by
  have A0 := (mod_bd (M := 256) (by decide) al).1
  have A1 := (mod_bd (M := 256) (by decide) al).2
  have Y0 := (mod_bd (M := 256) (by decide) ah).1
  have Y1 := (mod_bd (M := 256) (by decide) ah).2
  have D0 := (mod_bd (M := 256) (by decide) b).1
  have D1 := (mod_bd (M := 256) (by decide) b).2
  have wA : IntKind.u64.wrap (al % 256) = al % 256 := by rw [wrap_u64']; omega
  have wY : IntKind.u64.wrap (ah % 256) = ah % 256 := by rw [wrap_u64']; omega
  have wD : IntKind.u64.wrap (b % 256) = b % 256 := by rw [wrap_u64']; omega
  have HV : Hid (∀ w : World, Calls Try.prog 36 #[.int .u32 f, .int .u32 16] w fun e w' => e = .returned (.bool (hasF f 16)) ∧ w' = w) := fun w => Has_any f 16 w f0 f1 fl16
  go_enter Try.func15, Try.ntmps15
  go_wp2_with fail
  refine (HV.out _).mono ?_; rintro e w1 ⟨rfl, hw⟩; replace hw := hw.symm; subst hw
  go_wp2
  exact bodyPost_ret (v := .tuple #[.int .u32 0, .int .u32 0, .int .u32 0, .bool false, .int .i64 0]) (by simp [results, Try.results15, go_sem]) rfl ⟨rfl, Grown.refl _⟩

theorem rAdj_none (op al ah b f : Int) (w : World) (ho : op < 0 ∨ 5 < op) :
    Calls Try.prog 15 #[.int .i64 op, .int .u32 al, .int .u32 ah, .int .u32 b, .int .u32 f] w fun e w' => e = .returned (.tuple #[.int .u32 0, .int .u32 0, .int .u32 0, .bool false, .int .i64 3]) ∧ Grown w w' := by
  by_cases h : op < 0
  · have g : decide (op < 0) = true := by simp [h]
    go_enter Try.func15, Try.ntmps15
    go_wp2
    exact bodyPost_ret (v := .tuple #[.int .u32 0, .int .u32 0, .int .u32 0, .bool false, .int .i64 3]) (by simp [results, Try.results15, go_sem]) rfl ⟨rfl, Grown.refl _⟩
  · have g : decide (op < 0) = false := by simp; omega
    have h5 : 5 < op := by omega
    have g5 : decide (5 < op) = true := by simp [h5]
    clear ho
    go_enter Try.func15, Try.ntmps15
    go_wp2
    exact bodyPost_ret (v := .tuple #[.int .u32 0, .int .u32 0, .int .u32 0, .bool false, .int .i64 3]) (by simp [results, Try.results15, go_sem]) rfl ⟨rfl, Grown.refl _⟩

theorem rAdj_zero (al ah b f : Int) (w : World) (al0 : 0 ≤ al) (al1 : al < 4294967296) (ah0 : 0 ≤ ah) (ah1 : ah < 4294967296) (b0 : 0 ≤ b) (b1 : b < 4294967296) (f0 : 0 ≤ f) (f1 : f < 4294967296) (hb : b % 256 = 0) :
    Calls Try.prog 15 #[.int .i64 4, .int .u32 al, .int .u32 ah, .int .u32 b, .int .u32 f] w fun e w' => e = .returned (.tuple #[.int .u32 0, .int .u32 0, .int .u32 0, .bool false, .int .i64 0]) ∧ Grown w w' := by
  by_cases hg : 9 < al % 256 % 16
  · exact rAdjz_G al ah b f w al0 al1 ah0 ah1 b0 b1 f0 f1 hg hb
  · exact rAdjz_N al ah b f w al0 al1 ah0 ah1 b0 b1 f0 f1 hg hb

theorem rAdj_ok (op al ah b f : Int) (w : World) (o0 : 0 ≤ op) (o1 : op ≤ 5) (al0 : 0 ≤ al) (al1 : al < 4294967296) (ah0 : 0 ≤ ah) (ah1 : ah < 4294967296) (b0 : 0 ≤ b) (b1 : b < 4294967296) (f0 : 0 ≤ f) (f1 : f < 4294967296) (hb : op = 4 → b % 256 ≠ 0) :
    Calls Try.prog 15 #[.int .i64 op, .int .u32 al, .int .u32 ah, .int .u32 b, .int .u32 f] w fun e w' => e = .returned (.tuple #[.int .u32 (rX op al ah b f), .int .u32 (rY op al ah b f), .int .u32 (rF op al ah b f), .bool true, .int .i64 0]) ∧ Grown w w' := by
  have cases : op = 0 ∨ op = 1 ∨ op = 2 ∨ op = 3 ∨ op = 4 ∨ op = 5 := by omega
  by_cases hg : 9 < al % 256 % 16
  · rcases cases with rfl | rfl | rfl | rfl | rfl | rfl
    · exact rAdj0_G al ah b f w al0 al1 ah0 ah1 b0 b1 f0 f1 hg
    · exact rAdj1_G al ah b f w al0 al1 ah0 ah1 b0 b1 f0 f1 hg
    · exact rAdj2_G al ah b f w al0 al1 ah0 ah1 b0 b1 f0 f1 hg
    · exact rAdj3_G al ah b f w al0 al1 ah0 ah1 b0 b1 f0 f1 hg
    · exact rAdj4_G al ah b f w al0 al1 ah0 ah1 b0 b1 f0 f1 hg (hb rfl)
    · exact rAdj5_G al ah b f w al0 al1 ah0 ah1 b0 b1 f0 f1 hg
  · rcases cases with rfl | rfl | rfl | rfl | rfl | rfl
    · exact rAdj0_N al ah b f w al0 al1 ah0 ah1 b0 b1 f0 f1 hg
    · exact rAdj1_N al ah b f w al0 al1 ah0 ah1 b0 b1 f0 f1 hg
    · cases hv : hasF f 16
      · exact rAdj2_NF al ah b f w al0 al1 ah0 ah1 b0 b1 f0 f1 hg hv
      · exact rAdj2_NT al ah b f w al0 al1 ah0 ah1 b0 b1 f0 f1 hg hv
    · cases hv : hasF f 16
      · exact rAdj3_NF al ah b f w al0 al1 ah0 ah1 b0 b1 f0 f1 hg hv
      · exact rAdj3_NT al ah b f w al0 al1 ah0 ah1 b0 b1 f0 f1 hg hv
    · exact rAdj4_N al ah b f w al0 al1 ah0 ah1 b0 b1 f0 f1 hg (hb rfl)
    · exact rAdj5_N al ah b f w al0 al1 ah0 ah1 b0 b1 f0 f1 hg
end Go.Proofs.Ytecfkgnffhiemaa
