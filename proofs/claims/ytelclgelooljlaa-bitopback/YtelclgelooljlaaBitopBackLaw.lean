/- The walk of the statement BitopBack: for every input within its kinds it returns true, and the world has at most new blocks. -/
import Derived.Test.YtelclgelooljlaaBitAwake
namespace Go.Proofs.Ytelclgelooljlaa
open Go.ChangeShapes Go.WideShapes Go.ChangeAt Go.RowKit
set_option linter.unusedVariables false

/-- bitop.Bit answers so, whatever the world -/
def BitIs (op s a n f r g : Int) : Prop := ∀ w, Calls Try.prog 12 #[.int .i64 op, .int .i64 s, .int .u32 a, .int .u32 n, .int .u32 f] w fun e w' => e = .returned (.tuple #[.int .u32 r, .int .u32 g, .int .i64 0]) ∧ w' = w

/-- bitop.Scan answers so, whatever the world -/
def ScanIs (up : Bool) (s a f r : Int) (b : Bool) (g : Int) : Prop := ∀ w, Calls Try.prog 14 #[.bool up, .int .i64 s, .int .u32 a, .int .u32 f] w fun e w' => e = .returned (.tuple #[.int .u32 r, .bool b, .int .u32 g, .int .i64 0]) ∧ w' = w

set_option maxRecDepth 20000 in
set_option maxHeartbeats 2000000 in
theorem back_none (s a n f x y z z' g g' h k : Int) (w : World) (h1 : BitIs 0 s a n f x g) (h2 : BitIs 3 s a n f y g) (h3 : BitIs 3 s y n f x g') (h4 : BitIs 1 s a n f z g) (h5 : BitIs 0 s z n f z' h)
    (h6 : ScanIs true s a f 0 false k) (h7 : ScanIs false s a f 0 false k) (hh0 : 0 ≤ h) (hh : h % 2 = 1) (hx : x = 0) (a0 : 0 ≤ a) (a1 : a < 4294967296) :
    Calls Try.prog 8 #[.int .i64 s, .int .u32 a, .int .u32 n, .int .u32 f] w fun e w' => e = .returned (.bool true) ∧ Grown w w' := by
  subst hx
  have HB : Hid _ := swp_bd a0 a1
  have hs := swp_swp a0 a1
  go_enter Try.func8, Try.ntmps8
  go_wp2_with fail
  refine (awake_any _).mono ?_; rintro e w1 ⟨rfl, hg⟩
  go_wp2_with fail
  refine (h1 _).mono ?_; rintro e w2 ⟨rfl, hw⟩; replace hw := hw.symm; subst hw
  go_wp2_with fail
  refine (h2 _).mono ?_; rintro e w2 ⟨rfl, hw⟩; replace hw := hw.symm; subst hw
  go_wp2_with fail
  refine (h3 _).mono ?_; rintro e w2 ⟨rfl, hw⟩; replace hw := hw.symm; subst hw
  go_wp2_with fail
  refine (h4 _).mono ?_; rintro e w2 ⟨rfl, hw⟩; replace hw := hw.symm; subst hw
  go_wp2_with fail
  refine (h5 _).mono ?_; rintro e w2 ⟨rfl, hw⟩; replace hw := hw.symm; subst hw
  go_wp2_with fail
  refine (btSwap_any _ _ a0 a1).mono ?_; rintro e w2 ⟨rfl, hw⟩; replace hw := hw.symm; subst hw
  go_wp2_with fail
  refine (btSwap_any _ _ HB.out.1 HB.out.2).mono ?_; rintro e w2 ⟨rfl, hw⟩; replace hw := hw.symm; subst hw
  go_wp2_with fail
  refine (h6 _).mono ?_; rintro e w2 ⟨rfl, hw⟩; replace hw := hw.symm; subst hw
  go_wp2_with fail
  refine (h7 _).mono ?_; rintro e w2 ⟨rfl, hw⟩; replace hw := hw.symm; subst hw
  go_wp2
  go_ret
  exact ⟨rfl, hg⟩

set_option maxRecDepth 20000 in
set_option maxHeartbeats 2000000 in
theorem back_some (s a n f x y z z' g g' h k : Int) (lo hi : Nat) (w : World) (h1 : BitIs 0 s a n f x g) (h2 : BitIs 3 s a n f y g) (h3 : BitIs 3 s y n f x g') (h4 : BitIs 1 s a n f z g) (h5 : BitIs 0 s z n f z' h)
    (h6 : ScanIs true s a f (lo : Int) true k) (h7 : ScanIs false s a f (hi : Int) true k) (hh0 : 0 ≤ h) (hh : h % 2 = 1) (hx : (x != 0) = true) (x0 : 0 ≤ x) (x1 : x < 4294967296) (a0 : 0 ≤ a) (a1 : a < 4294967296)
    (l1 : (x / 2 ^ lo % 2 == 1) = true) (l2 : x / 2 ^ lo * 2 ^ lo = x) (l3 : x / 2 ^ hi = 1) (l4 : lo < 32) (l5 : hi < 32) :
    Calls Try.prog 8 #[.int .i64 s, .int .u32 a, .int .u32 n, .int .u32 f] w fun e w' => e = .returned (.bool true) ∧ Grown w w' := by
  have HB : Hid _ := swp_bd a0 a1
  have hs := swp_swp a0 a1
  have q0 : 0 ≤ x / 2 ^ lo := Int.ediv_nonneg x0 (Int.le_of_lt (Int.pow_pos (by decide)))
  have hxn : (x == 0) = false := by simpa using hx
  have l2' : x / 2 ^ lo * 2 ^ lo % 4294967296 = x := by rw [l2]; omega
  go_enter Try.func8, Try.ntmps8
  go_wp2_with fail
  refine (awake_any _).mono ?_; rintro e w1 ⟨rfl, hg⟩
  go_wp2_with fail
  refine (h1 _).mono ?_; rintro e w2 ⟨rfl, hw⟩; replace hw := hw.symm; subst hw
  go_wp2_with fail
  refine (h2 _).mono ?_; rintro e w2 ⟨rfl, hw⟩; replace hw := hw.symm; subst hw
  go_wp2_with fail
  refine (h3 _).mono ?_; rintro e w2 ⟨rfl, hw⟩; replace hw := hw.symm; subst hw
  go_wp2_with fail
  refine (h4 _).mono ?_; rintro e w2 ⟨rfl, hw⟩; replace hw := hw.symm; subst hw
  go_wp2_with fail
  refine (h5 _).mono ?_; rintro e w2 ⟨rfl, hw⟩; replace hw := hw.symm; subst hw
  go_wp2_with fail
  refine (btSwap_any _ _ a0 a1).mono ?_; rintro e w2 ⟨rfl, hw⟩; replace hw := hw.symm; subst hw
  go_wp2_with fail
  refine (btSwap_any _ _ HB.out.1 HB.out.2).mono ?_; rintro e w2 ⟨rfl, hw⟩; replace hw := hw.symm; subst hw
  go_wp2_with fail
  refine (h6 _).mono ?_; rintro e w2 ⟨rfl, hw⟩; replace hw := hw.symm; subst hw
  go_wp2_with fail
  refine (h7 _).mono ?_; rintro e w2 ⟨rfl, hw⟩; replace hw := hw.symm; subst hw
  go_wp2
  go_ret
  exact ⟨rfl, hg⟩

theorem wide_okB {s : Int} (h : wideSize s = true) : okSize s = true := by
  have hs : s = 2 ∨ s = 4 := by simpa [wideSize] using h
  rcases hs with rfl | rfl <;> rfl

set_option maxRecDepth 20000 in
set_option maxHeartbeats 2000000 in
theorem BitopBack_walk (a0 a1 a2 a3 : Int) (w0 : (Lit.int .i64 a0).wf = true) (w1 : (Lit.int .u32 a1).wf = true) (w2 : (Lit.int .u32 a2).wf = true) (w3 : (Lit.int .u32 a3).wf = true) (w : World) :
    Calls Try.prog 8 #[.int .i64 a0, .int .u32 a1, .int .u32 a2, .int .u32 a3] w fun e w' => e = .returned (.bool true) ∧ Grown w w' := by
  have b1 := bounds_u32 w1
  have b2 := bounds_u32 w2
  have b3 := bounds_u32 w3
  have x0 : 0 ≤ a1 := b1.1
  have x1 : a1 < 4294967296 := by omega
  have n0 : 0 ≤ a2 := b2.1
  have n1 : a2 < 4294967296 := by omega
  have f0 : 0 ≤ a3 := b3.1
  have f1 : a3 < 4294967296 := by omega
  clear w0 w1 w2 w3 b1 b2 b3
  rcases two_ways (wideSize a0) with hk | hk
  · obtain ⟨H, M, W, hS⟩ := Sw_of (wide_okB hk)
    have p := hS.pow
    have hp := place_is (W := W) (by omega) a2
    have y0 := (mod_bd p.2.2.2.2.2.1 a1).1
    have y1 := (mod_bd p.2.2.2.2.2.1 a1).2
    have y1' : a1 % M < ((2 ^ W : Nat) : Int) := by rw [← p.1]; exact y1
    have y2 : a1 % M < 4294967296 := by omega
    have d1 := bitR_bd y0 y1' hp.2 1
    have d3 := bitR_bd y0 y1' hp.2 3
    rw [← p.1] at d1 d3
    have m1 : bitR 1 (a1 % M) (placeOf W a2) % M = bitR 1 (a1 % M) (placeOf W a2) := Int.emod_eq_of_lt d1.1 d1.2
    have m3 : bitR 3 (a1 % M) (placeOf W a2) % M = bitR 3 (a1 % M) (placeOf W a2) := Int.emod_eq_of_lt d3.1 d3.2
    have h1 : BitIs 0 a0 a1 a2 a3 (bitR 0 (a1 % M) (placeOf W a2)) _ := fun w => btBit_ok hS 0 a1 a2 a3 w hk (by decide) (by decide) x0 x1 n0 n1 f0 f1
    have h2 : BitIs 3 a0 a1 a2 a3 _ _ := fun w => btBit_ok hS 3 a1 a2 a3 w hk (by decide) (by decide) x0 x1 n0 n1 f0 f1
    have h3 : BitIs 3 a0 _ a2 a3 _ _ := fun w => btBit_ok hS 3 (bitR 3 (a1 % M) (placeOf W a2)) a2 a3 w hk (by decide) (by decide) d3.1 (by omega) n0 n1 f0 f1
    have h4 : BitIs 1 a0 a1 a2 a3 _ _ := fun w => btBit_ok hS 1 a1 a2 a3 w hk (by decide) (by decide) x0 x1 n0 n1 f0 f1
    have h5 : BitIs 0 a0 _ a2 a3 _ _ := fun w => btBit_ok hS 0 (bitR 1 (a1 % M) (placeOf W a2)) a2 a3 w hk (by decide) (by decide) d1.1 (by omega) n0 n1 f0 f1
    rw [bitR_0 y0] at h1
    rw [m3, bitR_33 y0] at h3
    rw [m1, bitR_tb1 y0] at h5
    have hh := cf_mod f0
    have hh0 := (bd1 f0 f1 1 fl1 true).1
    by_cases hz : a1 % M = 0
    · have h6 : ScanIs true a0 a1 a3 _ _ _ := fun w => btScan_zero hS true a1 a3 w hk x0 x1 f0 f1 hz
      have h7 : ScanIs false a0 a1 a3 _ _ _ := fun w => btScan_zero hS false a1 a3 w hk x0 x1 f0 f1 hz
      exact back_none _ _ _ _ _ _ _ _ _ _ _ _ w h1 h2 h3 h4 h5 h6 h7 hh0 hh hz x0 x1
    · have h6 : ScanIs true a0 a1 a3 _ _ _ := fun w => btScan_ok hS true a1 a3 w hk x0 x1 f0 f1 hz
      have h7 : ScanIs false a0 a1 a3 _ _ _ := fun w => btScan_ok hS false a1 a3 w hk x0 x1 f0 f1 hz
      have hp2 : ∀ j : Nat, ((2 ^ j : Nat) : Int) = (2 : Int) ^ j := fun j => by push_cast; rfl
      have l1 : (a1 % M / 2 ^ fstB true (a1 % M) % 2 == 1) = true := by
        have ht := fstB_tb y0 y2 hz true
        rw [tb_div _ y0, hp2] at ht
        simpa using ht
      have l2 : a1 % M / 2 ^ fstB true (a1 % M) * 2 ^ fstB true (a1 % M) = a1 % M := by
        have h := low_back y0 (k := fstB true (a1 % M)) fun j hj => fstB_low y0 y2 hz hj
        rw [hp2] at h; exact h
      have l3 : a1 % M / 2 ^ fstB false (a1 % M) = 1 := by
        have h := high_one y0 (fstB_tb y0 y2 hz false) fun j hj => fstB_high y0 y2 hz hj
        rw [hp2] at h; exact h
      exact back_some _ _ _ _ _ _ _ _ _ _ _ _ _ _ w h1 h2 h3 h4 h5 h6 h7 hh0 hh (by simpa using hz) y0 y2 x0 x1 l1 l2 l3 (fstB_lt y0 y2 hz true) (fstB_lt y0 y2 hz false)
  · go_enter Try.func8, Try.ntmps8
    go_wp2_with fail
    refine (awake_any _).mono ?_; rintro e w1 ⟨rfl, h1⟩
    go_wp2_with fail
    refine (btBit_size _ _ _ _ _ _ hk).mono ?_; rintro e w2 ⟨rfl, hw⟩; replace hw := hw.symm; subst hw
    go_wp2
    go_ret
    exact ⟨rfl, h1⟩
end Go.Proofs.Ytelclgelooljlaa
