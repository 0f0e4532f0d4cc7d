/- Contracts of bitop.Bit and bitop.Extend: for every input within their kinds they return what is named, and the world stays. -/
import Derived.Test.YtelclgelooljlaaBitLeaf
namespace Go.Proofs.Ytelclgelooljlaa
open Go.ChangeShapes Go.WideShapes Go.ChangeAt Go.RowKit
set_option linter.unusedVariables false

theorem btBit_size (op s a n f : Int) (w : World) (hk : wideSize s = false) :
    Calls Try.prog 12 #[.int .i64 op, .int .i64 s, .int .u32 a, .int .u32 n, .int .u32 f] w fun e w' => e = .returned (.tuple #[.int .u32 0, .int .u32 0, .int .i64 2]) ∧ w' = w := by
  go_enter Try.func12, Try.ntmps12
  go_wp2_with (go_at_call 23; refine (btIsWide_any _ _).mono ?_; rintro e w1 ⟨rfl, hw⟩; replace hw := hw.symm; subst hw)
  go_ret3
  exact ⟨rfl, rfl⟩

theorem btBit_op (op s a n f : Int) (w : World) (hk : wideSize s = true) (ho : op < 0 ∨ 3 < op) :
    Calls Try.prog 12 #[.int .i64 op, .int .i64 s, .int .u32 a, .int .u32 n, .int .u32 f] w fun e w' => e = .returned (.tuple #[.int .u32 0, .int .u32 0, .int .i64 3]) ∧ w' = w := by
  rcases ho with ho | ho
  · have g1 : decide (op < 0) = true := by simpa using ho
    go_enter Try.func12, Try.ntmps12
    go_wp2_with (go_at_call 23; refine (btIsWide_any _ _).mono ?_; rintro e w1 ⟨rfl, hw⟩; replace hw := hw.symm; subst hw)
    go_ret3
    exact ⟨rfl, rfl⟩
  · have g1 : decide (op < 0) = false := by simp; omega
    have g2 : decide (3 < op) = true := by simpa using ho
    go_enter Try.func12, Try.ntmps12
    go_wp2_with (go_at_call 23; refine (btIsWide_any _ _).mono ?_; rintro e w1 ⟨rfl, hw⟩; replace hw := hw.symm; subst hw)
    go_ret3
    exact ⟨rfl, rfl⟩

/-- the place that a number names in a value of W bits -/
def placeOf (W : Nat) (n : Int) : Nat := (n % (W : Int)).toNat

theorem place_is {W : Nat} (hW : 0 < W) (n : Int) : n % (W : Int) = ((placeOf W n : Nat) : Int) ∧ placeOf W n < W := by
  unfold placeOf
  have h0 := Int.emod_nonneg n (b := (W : Int)) (by omega)
  have h1 := Int.emod_lt_of_pos n (b := (W : Int)) (by omega)
  omega

theorem btBit_ok {s H M : Int} {W : Nat} (hS : Sw s H M W) (op a n f : Int) (w : World) (hk : wideSize s = true) (o0 : 0 ≤ op) (o1 : op ≤ 3) (a0 : 0 ≤ a) (a1 : a < 4294967296) (n0 : 0 ≤ n) (n1 : n < 4294967296) (f0 : 0 ≤ f) (f1 : f < 4294967296) :
    Calls Try.prog 12 #[.int .i64 op, .int .i64 s, .int .u32 a, .int .u32 n, .int .u32 f] w fun e w' =>
      e = .returned (.tuple #[.int .u32 (bitR op (a % M) (placeOf W n)), .int .u32 (setF f 1 (tb (a % M) (placeOf W n))), .int .i64 0]) ∧ w' = w := by
  have mp := hS.pow.2.2.2.2.2.1
  have mt := hS.pow.2.2.2.2.1
  have w8 := hS.pow.2.2.1
  have w32 := hS.pow.2.2.2.1
  have x0 := (mod_bd mp a).1
  have x1 := (mod_bd mp a).2
  have hp := place_is (W := W) (by omega) n
  have hq := fun w => btCut_any hS a w a0 a1
  have hw := btWidth_any hS
  have hz : ((W : Int) == 0) = false := by simp; omega
  have hz2 : (W : Int) ≠ 0 := by omega
  have hg : wideSize s = true := hk
  clear hS hk
  revert hq x0 x1 hp
  generalize a % M = x
  generalize placeOf W n = j
  intro x0 x1 hp hq
  have x2 : x < 4294967296 := by omega
  have j2 : j < 32 := by omega
  have hb : (bits .and .u32 x ((2 ^ j : Nat) : Int) != 0) = tb x j := and_pow x0 x2 j j2
  have ho := or_bit x0 x2 j2
  have hn := not_bit x0 x2 j2
  have hx := xor_bit x0 x2 j2
  have hs := setB_same x0 j
  have hj := hp.1
  have hp2 : ((2 ^ j : Nat) : Int) = (2 : Int) ^ j := by push_cast; rfl
  rw [hp2] at hb ho hn hx
  have HR0 : Hid (bitR 0 x j = x) := hs
  have HR1 : Hid (bitR 1 x j = bits .or .u32 x (2 ^ j)) := (by unfold bitR; rw [hp2]; exact ho.symm : bitR 1 x j = bits .or .u32 x (2 ^ j))
  have HR2 : Hid (bitR 2 x j = bits .andNot .u32 x (2 ^ j)) := (by unfold bitR; rw [hp2]; exact hn.symm : bitR 2 x j = bits .andNot .u32 x (2 ^ j))
  have HR3 : Hid (bitR 3 x j = bits .xor .u32 x (2 ^ j)) := (by unfold bitR; rw [hp2]; exact hx.symm : bitR 3 x j = bits .xor .u32 x (2 ^ j))
  have h2j : (2 : Int) ^ j % 4294967296 = 2 ^ j := by have p := pw_lt j2; have q := pw_pos j; rw [hp2] at p q; omega
  clear ho hn hx hs hp x1 mp mt hp2
  have cases : op = 0 ∨ op = 1 ∨ op = 2 ∨ op = 3 := by omega
  clear o0 o1
  rcases cases with rfl | rfl | rfl | rfl
  all_goals
    go_enter Try.func12, Try.ntmps12
    go_wp2_with (first
      | (go_at_call 23; refine (btIsWide_any _ _).mono ?_; rintro e w1 ⟨rfl, hw⟩; replace hw := hw.symm; subst hw)
      | (go_at_call 24; refine (hq _).mono ?_; rintro e w1 ⟨rfl, hw⟩; replace hw := hw.symm; subst hw)
      | (go_at_call 25; refine (hw _).mono ?_; rintro e w1 ⟨rfl, hw⟩; replace hw := hw.symm; subst hw)
      | (go_at_call 26; refine (btMark1 _ _ _ f0 f1).mono ?_; rintro e w1 ⟨rfl, hw⟩; replace hw := hw.symm; subst hw))
    go_ret3
  · exact ⟨ret_three HR0.out.symm rfl rfl, rfl⟩
  · exact ⟨ret_three HR1.out.symm rfl rfl, rfl⟩
  · exact ⟨ret_three HR2.out.symm rfl rfl, rfl⟩
  · exact ⟨ret_three HR3.out.symm rfl rfl, rfl⟩

theorem btExt_size (sg : Bool) (s t a : Int) (w : World) (hk : okSize s = false) :
    Calls Try.prog 16 #[.bool sg, .int .i64 s, .int .i64 t, .int .u32 a] w fun e w' => e = .returned (.tuple #[.int .u32 0, .int .i64 2]) ∧ w' = w := by
  go_enter Try.func16, Try.ntmps16
  go_wp2_with (go_at_call 30; refine (btIsSize_any _ _).mono ?_; rintro e w1 ⟨rfl, hw⟩; replace hw := hw.symm; subst hw)
  go_ret2
  exact ⟨rfl, rfl⟩

theorem btExt_to (sg : Bool) (s t a : Int) (w : World) (hk : okSize s = true) (ht : okSize t = false) :
    Calls Try.prog 16 #[.bool sg, .int .i64 s, .int .i64 t, .int .u32 a] w fun e w' => e = .returned (.tuple #[.int .u32 0, .int .i64 2]) ∧ w' = w := by
  go_enter Try.func16, Try.ntmps16
  go_wp2_with (go_at_call 30; refine (btIsSize_any _ _).mono ?_; rintro e w1 ⟨rfl, hw⟩; replace hw := hw.symm; subst hw)
  go_ret2
  exact ⟨rfl, rfl⟩

theorem btExt_less (sg : Bool) (s t a : Int) (w : World) (hk : okSize s = true) (ht : okSize t = true) (hl : t < s) :
    Calls Try.prog 16 #[.bool sg, .int .i64 s, .int .i64 t, .int .u32 a] w fun e w' => e = .returned (.tuple #[.int .u32 0, .int .i64 2]) ∧ w' = w := by
  have g1 : decide (t < s) = true := by simpa using hl
  go_enter Try.func16, Try.ntmps16
  go_wp2_with (go_at_call 30; refine (btIsSize_any _ _).mono ?_; rintro e w1 ⟨rfl, hw⟩; replace hw := hw.symm; subst hw)
  go_ret2
  exact ⟨rfl, rfl⟩

theorem btExt_no (sg : Bool) (s t a : Int) (w : World) (h : okSize s = false ∨ okSize t = false ∨ t < s) :
    Calls Try.prog 16 #[.bool sg, .int .i64 s, .int .i64 t, .int .u32 a] w fun e w' => e = .returned (.tuple #[.int .u32 0, .int .i64 2]) ∧ w' = w := by
  rcases two_ways (okSize s) with hs | hs
  · rcases two_ways (okSize t) with ht | ht
    · rcases h with h | h | h
      · rw [h] at hs; cases hs
      · rw [h] at ht; cases ht
      · exact btExt_less sg s t a w hs ht h
    · exact btExt_to sg s t a w hs ht
  · exact btExt_size sg s t a w hs

theorem ext_cut {s H M t G N : Int} {W V : Nat} (hS : Sw s H M W) (hT : Sw t G N V) (hl : s ≤ t) {x : Int} (x0 : 0 ≤ x) (x1 : x < M) : extR true M 4294967296 H x % N = extR true M N H x := by
  unfold extR sgn
  simp only [Bool.true_and, decide_eq_true_eq]
  rcases hS with ⟨rfl, rfl, rfl, rfl⟩ | ⟨rfl, rfl, rfl, rfl⟩ | ⟨rfl, rfl, rfl, rfl⟩ <;>
  rcases hT with ⟨rfl, rfl, rfl, rfl⟩ | ⟨rfl, rfl, rfl, rfl⟩ | ⟨rfl, rfl, rfl, rfl⟩ <;> first | (split <;> omega) | omega

theorem ext_bd {s H M t G N : Int} {W V : Nat} (hS : Sw s H M W) (hT : Sw t G N V) (hl : s ≤ t) (sg : Bool) {x : Int} (x0 : 0 ≤ x) (x1 : x < M) : 0 ≤ extR sg M N H x ∧ extR sg M N H x < N := by
  have hM : M ≤ N ∧ H < M := by
    rcases hS with ⟨rfl, rfl, rfl, rfl⟩ | ⟨rfl, rfl, rfl, rfl⟩ | ⟨rfl, rfl, rfl, rfl⟩ <;>
    rcases hT with ⟨rfl, rfl, rfl, rfl⟩ | ⟨rfl, rfl, rfl, rfl⟩ | ⟨rfl, rfl, rfl, rfl⟩ <;> omega
  unfold extR sgn
  split <;> omega

theorem btExt_ok {s H M t G N : Int} {W V : Nat} (hS : Sw s H M W) (hT : Sw t G N V) (hl : s ≤ t) (sg : Bool) (a : Int) (w : World) (a0 : 0 ≤ a) (a1 : a < 4294967296) :
    Calls Try.prog 16 #[.bool sg, .int .i64 s, .int .i64 t, .int .u32 a] w fun e w' => e = .returned (.tuple #[.int .u32 (extR sg M N H (a % M)), .int .i64 0]) ∧ w' = w := by
  have mp := hS.pow.2.2.2.2.2.1
  have x0 := (mod_bd mp a).1
  have x1 := (mod_bd mp a).2
  have hk := hS.ok
  have ht := hT.ok
  have g1 : decide (t < s) = false := by simp; omega
  have h4 : Sw 4 2147483648 4294967296 32 := Or.inr (Or.inr ⟨rfl, rfl, rfl, rfl⟩)
  have hs4 : s ≤ 4 := by unfold Sw at hS; omega
  have HE : Hid _ := ext_bd hS h4 hs4 true x0 x1
  have HC : Hid _ := ext_cut hS hT hl x0 x1
  cases sg
  · go_enter Try.func16, Try.ntmps16
    go_wp2_with (first
      | (go_at_call 30; refine (btIsSize_any _ _).mono ?_; rintro e w1 ⟨rfl, hw⟩; replace hw := hw.symm; subst hw)
      | (go_at_call 24; refine (btCut_any hS _ _ a0 a1).mono ?_; rintro e w1 ⟨rfl, hw⟩; replace hw := hw.symm; subst hw))
    go_ret2
    exact ⟨ret_two rfl rfl, rfl⟩
  · go_enter Try.func16, Try.ntmps16
    go_wp2_with (first
      | (go_at_call 30; refine (btIsSize_any _ _).mono ?_; rintro e w1 ⟨rfl, hw⟩; replace hw := hw.symm; subst hw)
      | (go_at_call 31; refine (btSign_any hS _ _ a0 a1).mono ?_; rintro e w1 ⟨rfl, hw⟩; replace hw := hw.symm; subst hw)
      | (go_at_call 24; refine (btCut_any hT _ _ HE.out.1 HE.out.2).mono ?_; rintro e w1 ⟨rfl, hw⟩; replace hw := hw.symm; subst hw))
    go_ret2
    exact ⟨ret_two HC.out rfl, rfl⟩
end Go.Proofs.Ytelclgelooljlaa
