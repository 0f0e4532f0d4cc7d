/- Contracts of the document's answers of layer 4, bits and wider values (drawloomref04.Bit, Extend): for every input within their kinds they return what is named, and the world stays. -/
import Derived.Test.YtelclgelooljlaaRefOne
import Derived.Test.YtelclgelooljlaaBitBit
namespace Go.Proofs.Ytelclgelooljlaa
open Go.ChangeShapes Go.WideShapes Go.ChangeAt Go.RowKit
set_option linter.unusedVariables false

theorem rBit_size (op s a n f : Int) (w : World) (hk : wideSize s = false) :
    Calls Try.prog 13 #[.int .i64 op, .int .i64 s, .int .u32 a, .int .u32 n, .int .u32 f] w fun e w' => e = .returned (.tuple #[.int .u32 0, .int .u32 0, .int .i64 2]) ∧ w' = w := by
  unfold wideSize at hk
  simp only [Bool.or_eq_false_iff] at hk
  obtain ⟨h2, h4⟩ := hk
  have g2 : (s != 2) = true := by simpa using h2
  have g4 : (s != 4) = true := by simpa using h4
  go_enter Try.func13, Try.ntmps13
  go_wp2
  go_ret3
  exact ⟨rfl, rfl⟩

theorem rBit_op (op s a n f : Int) (w : World) (hk : wideSize s = true) (ho : op < 0 ∨ 3 < op) :
    Calls Try.prog 13 #[.int .i64 op, .int .i64 s, .int .u32 a, .int .u32 n, .int .u32 f] w fun e w' => e = .returned (.tuple #[.int .u32 0, .int .u32 0, .int .i64 3]) ∧ w' = w := by
  have hs : s = 2 ∨ s = 4 := by simpa [wideSize] using hk
  clear hk
  rcases ho with ho | ho
  · have g1 : decide (op < 0) = true := by simpa using ho
    rcases hs with rfl | rfl
    all_goals
      go_enter Try.func13, Try.ntmps13
      go_wp2
      go_ret3
      exact ⟨rfl, rfl⟩
  · have g1 : decide (op < 0) = false := by simp; omega
    have g2 : decide (3 < op) = true := by simpa using ho
    rcases hs with rfl | rfl
    all_goals
      go_enter Try.func13, Try.ntmps13
      go_wp2
      go_ret3
      exact ⟨rfl, rfl⟩

theorem setB_off {x k : Int} (b : Bool) (h : (x / k % 2 == 1) = true) : setF x k b = x - k + flg b k := by
  unfold setF; rw [if_pos (by simpa using h)]

theorem setB_on {x k : Int} (b : Bool) (h : (x / k % 2 == 1) = false) : setF x k b = x + flg b k := by
  unfold setF; rw [if_neg (by simpa using h)]

theorem bit_le {x : Int} (x0 : 0 ≤ x) {k : Int} (k0 : 0 < k) (h : (x / k % 2 == 1) = true) : k ≤ x := by
  have h1 : x / k % 2 = 1 := by simpa using h
  have h2 : ¬ x < k := fun hl => by rw [Int.ediv_eq_zero_of_lt x0 hl] at h1; omega
  omega

theorem bitR_setp {x : Int} (x0 : 0 ≤ x) {j : Nat} (h : (x / 2 ^ j % 2 == 1) = true) : tb x j = true ∧ (2 : Int) ^ j ≤ x ∧ bitR 0 x j = x ∧ bitR 1 x j = x ∧ bitR 2 x j = x - 2 ^ j ∧ bitR 3 x j = x - 2 ^ j := by
  have hp2 : ((2 ^ j : Nat) : Int) = (2 : Int) ^ j := by push_cast; rfl
  have p := pw_pos j
  have ht : tb x j = true := by rw [tb_div x x0 j, hp2]; simpa using h
  have hle := bit_le x0 (by rw [← hp2]; exact p) h
  have hs := fun b => setB_off (x := x) (k := 2 ^ j) b h
  refine ⟨ht, hle, bitR_0 x0 j, ?_, ?_, ?_⟩
  · unfold bitR; rw [hp2, hs]; show x - 2 ^ j + 2 ^ j = x; omega
  · unfold bitR; rw [hp2, hs]; show x - 2 ^ j + 0 = x - 2 ^ j; omega
  · unfold bitR; rw [hp2, hs, ht]; show x - 2 ^ j + 0 = x - 2 ^ j; omega

theorem bitR_unset {x : Int} {W : Nat} (x0 : 0 ≤ x) (x1 : x < ((2 ^ W : Nat) : Int)) {j : Nat} (hj : j < W) (h : (x / 2 ^ j % 2 == 1) = false) : tb x j = false ∧ x + (2 : Int) ^ j < ((2 ^ W : Nat) : Int) ∧ bitR 0 x j = x ∧ bitR 1 x j = x + 2 ^ j ∧ bitR 2 x j = x ∧ bitR 3 x j = x + 2 ^ j := by
  have hp2 : ((2 ^ j : Nat) : Int) = (2 : Int) ^ j := by push_cast; rfl
  have p := pw_pos j
  have ht : tb x j = false := by rw [tb_div x x0 j, hp2]; simpa using h
  have hs := fun b => setB_on (x := x) (k := 2 ^ j) b h
  have e1 : bitR 1 x j = x + 2 ^ j := by unfold bitR; rw [hp2, hs]; rfl
  have hb := (bitR_bd x0 x1 hj 1).2
  rw [e1] at hb
  refine ⟨ht, hb, bitR_0 x0 j, e1, ?_, ?_⟩
  · unfold bitR; rw [hp2, hs]; show x + 0 = x; omega
  · unfold bitR; rw [hp2, hs, ht]; rfl

theorem rBit_two (op a n f : Int) (w : World) (o0 : 0 ≤ op) (o1 : op ≤ 3) (a0 : 0 ≤ a) (a1 : a < 4294967296) (n0 : 0 ≤ n) (n1 : n < 4294967296) (f0 : 0 ≤ f) (f1 : f < 4294967296) :
    Calls Try.prog 13 #[.int .i64 op, .int .i64 2, .int .u32 a, .int .u32 n, .int .u32 f] w fun e w' =>
      e = .returned (.tuple #[.int .u32 (bitR op (a % 65536) (placeOf 16 n)), .int .u32 (setF f 1 (tb (a % 65536) (placeOf 16 n))), .int .i64 0]) ∧ w' = w := by
  have x0 : 0 ≤ a % 65536 := by omega
  have x1 : a % 65536 < 65536 := by omega
  have hp := place_is (W := 16) (by omega) n
  have hj : n % 16 = ((placeOf 16 n : Nat) : Int) := hp.1
  have wa : IntKind.u64.wrap a = a := by rw [wrap_u64']; omega
  have hq := fun w => Cut_any sz2 a w a0 (by omega)
  have hp2 := hp.2
  clear hp
  revert hq x0 x1 hp2 hj
  generalize a % 65536 = x
  generalize placeOf 16 n = j
  intro x0 x1 hj hq hp2
  have h2j : (2 : Int) ^ j % 4294967296 = 2 ^ j := by
    have e : ((2 ^ j : Nat) : Int) = (2 : Int) ^ j := by push_cast; rfl
    have p := pw_lt (j := j) (by omega); have q := pw_pos j; rw [e] at p q; omega
  have k0 : (0 : Int) < 2 ^ j := by
    have e : ((2 ^ j : Nat) : Int) = (2 : Int) ^ j := by push_cast; rfl
    have q := pw_pos j; rw [e] at q; exact q
  have q0 : 0 ≤ x / 2 ^ j := Int.ediv_nonneg x0 (by omega)
  have cases : op = 0 ∨ op = 1 ∨ op = 2 ∨ op = 3 := by omega
  clear o0 o1
  rcases two_ways (x / 2 ^ j % 2 == 1) with hb | hb
  · obtain ⟨ht, hle, r0, r1, r2, r3⟩ := bitR_setp x0 hb
    rw [ht]
    have HL : Hid _ := hle
    have K0 : Hid _ := k0
    have R0 : Hid _ := r0
    have R1 : Hid _ := r1
    have R2 : Hid _ := r2
    have R3 : Hid _ := r3
    clear hle r0 r1 r2 r3 ht
    rcases cases with rfl | rfl | rfl | rfl
    all_goals
      go_enter Try.func13, Try.ntmps13
      go_wp2_with fail
      refine (hq _).mono ?_; rintro e w1 ⟨rfl, hw⟩; replace hw := hw.symm; subst hw
      go_wp2_with fail
      refine (Set_any _ _ _ _ f0 f1 fl1).mono ?_; rintro e w1 ⟨rfl, hw⟩; replace hw := hw.symm; subst hw
      have hl := HL.out
      go_wp2
      go_ret3
    · exact ⟨ret_three R0.out.symm rfl rfl, rfl⟩
    · exact ⟨ret_three R1.out.symm rfl rfl, rfl⟩
    · exact ⟨ret_three R2.out.symm rfl rfl, rfl⟩
    · exact ⟨ret_three R3.out.symm rfl rfl, rfl⟩
  · obtain ⟨ht, hlt, r0, r1, r2, r3⟩ := bitR_unset (W := 16) x0 x1 hp2 hb
    rw [ht]
    have HL : Hid _ := hlt
    have K0 : Hid _ := k0
    have R0 : Hid _ := r0
    have R1 : Hid _ := r1
    have R2 : Hid _ := r2
    have R3 : Hid _ := r3
    clear hlt r0 r1 r2 r3 ht
    rcases cases with rfl | rfl | rfl | rfl
    all_goals
      go_enter Try.func13, Try.ntmps13
      go_wp2_with fail
      refine (hq _).mono ?_; rintro e w1 ⟨rfl, hw⟩; replace hw := hw.symm; subst hw
      go_wp2_with fail
      refine (Set_any _ _ _ _ f0 f1 fl1).mono ?_; rintro e w1 ⟨rfl, hw⟩; replace hw := hw.symm; subst hw
      have hl := HL.out
      go_wp2
      go_ret3
    · exact ⟨ret_three R0.out.symm rfl rfl, rfl⟩
    · exact ⟨ret_three R1.out.symm rfl rfl, rfl⟩
    · exact ⟨ret_three R2.out.symm rfl rfl, rfl⟩
    · exact ⟨ret_three R3.out.symm rfl rfl, rfl⟩

theorem rBit_four (op a n f : Int) (w : World) (o0 : 0 ≤ op) (o1 : op ≤ 3) (a0 : 0 ≤ a) (a1 : a < 4294967296) (n0 : 0 ≤ n) (n1 : n < 4294967296) (f0 : 0 ≤ f) (f1 : f < 4294967296) :
    Calls Try.prog 13 #[.int .i64 op, .int .i64 4, .int .u32 a, .int .u32 n, .int .u32 f] w fun e w' =>
      e = .returned (.tuple #[.int .u32 (bitR op (a % 4294967296) (placeOf 32 n)), .int .u32 (setF f 1 (tb (a % 4294967296) (placeOf 32 n))), .int .i64 0]) ∧ w' = w := by
  have x0 : 0 ≤ a % 4294967296 := by omega
  have x1 : a % 4294967296 < 4294967296 := by omega
  have hp := place_is (W := 32) (by omega) n
  have hj : n % 32 = ((placeOf 32 n : Nat) : Int) := hp.1
  have wa : IntKind.u64.wrap a = a := by rw [wrap_u64']; omega
  have hq := fun w => Cut_any sz4 a w a0 (by omega)
  have hp2 := hp.2
  clear hp
  revert hq x0 x1 hp2 hj
  generalize a % 4294967296 = x
  generalize placeOf 32 n = j
  intro x0 x1 hj hq hp2
  have h2j : (2 : Int) ^ j % 4294967296 = 2 ^ j := by
    have e : ((2 ^ j : Nat) : Int) = (2 : Int) ^ j := by push_cast; rfl
    have p := pw_lt (j := j) (by omega); have q := pw_pos j; rw [e] at p q; omega
  have k0 : (0 : Int) < 2 ^ j := by
    have e : ((2 ^ j : Nat) : Int) = (2 : Int) ^ j := by push_cast; rfl
    have q := pw_pos j; rw [e] at q; exact q
  have q0 : 0 ≤ x / 2 ^ j := Int.ediv_nonneg x0 (by omega)
  have cases : op = 0 ∨ op = 1 ∨ op = 2 ∨ op = 3 := by omega
  clear o0 o1
  rcases two_ways (x / 2 ^ j % 2 == 1) with hb | hb
  · obtain ⟨ht, hle, r0, r1, r2, r3⟩ := bitR_setp x0 hb
    rw [ht]
    have HL : Hid _ := hle
    have K0 : Hid _ := k0
    have R0 : Hid _ := r0
    have R1 : Hid _ := r1
    have R2 : Hid _ := r2
    have R3 : Hid _ := r3
    clear hle r0 r1 r2 r3 ht
    rcases cases with rfl | rfl | rfl | rfl
    all_goals
      go_enter Try.func13, Try.ntmps13
      go_wp2_with fail
      refine (hq _).mono ?_; rintro e w1 ⟨rfl, hw⟩; replace hw := hw.symm; subst hw
      go_wp2_with fail
      refine (Set_any _ _ _ _ f0 f1 fl1).mono ?_; rintro e w1 ⟨rfl, hw⟩; replace hw := hw.symm; subst hw
      have hl := HL.out
      go_wp2
      go_ret3
    · exact ⟨ret_three R0.out.symm rfl rfl, rfl⟩
    · exact ⟨ret_three R1.out.symm rfl rfl, rfl⟩
    · exact ⟨ret_three R2.out.symm rfl rfl, rfl⟩
    · exact ⟨ret_three R3.out.symm rfl rfl, rfl⟩
  · obtain ⟨ht, hlt, r0, r1, r2, r3⟩ := bitR_unset (W := 32) x0 x1 hp2 hb
    rw [ht]
    have HL : Hid _ := hlt
    have K0 : Hid _ := k0
    have R0 : Hid _ := r0
    have R1 : Hid _ := r1
    have R2 : Hid _ := r2
    have R3 : Hid _ := r3
    clear hlt r0 r1 r2 r3 ht
    rcases cases with rfl | rfl | rfl | rfl
    all_goals
      go_enter Try.func13, Try.ntmps13
      go_wp2_with fail
      refine (hq _).mono ?_; rintro e w1 ⟨rfl, hw⟩; replace hw := hw.symm; subst hw
      go_wp2_with fail
      refine (Set_any _ _ _ _ f0 f1 fl1).mono ?_; rintro e w1 ⟨rfl, hw⟩; replace hw := hw.symm; subst hw
      have hl := HL.out
      go_wp2
      go_ret3
    · exact ⟨ret_three R0.out.symm rfl rfl, rfl⟩
    · exact ⟨ret_three R1.out.symm rfl rfl, rfl⟩
    · exact ⟨ret_three R2.out.symm rfl rfl, rfl⟩
    · exact ⟨ret_three R3.out.symm rfl rfl, rfl⟩

theorem rBit_ok {s H M : Int} {W : Nat} (hS : Sw s H M W) (op a n f : Int) (w : World) (hk : wideSize s = true) (o0 : 0 ≤ op) (o1 : op ≤ 3) (a0 : 0 ≤ a) (a1 : a < 4294967296) (n0 : 0 ≤ n) (n1 : n < 4294967296) (f0 : 0 ≤ f) (f1 : f < 4294967296) :
    Calls Try.prog 13 #[.int .i64 op, .int .i64 s, .int .u32 a, .int .u32 n, .int .u32 f] w fun e w' =>
      e = .returned (.tuple #[.int .u32 (bitR op (a % M) (placeOf W n)), .int .u32 (setF f 1 (tb (a % M) (placeOf W n))), .int .i64 0]) ∧ w' = w := by
  rcases hS with ⟨rfl, rfl, rfl, rfl⟩ | ⟨rfl, rfl, rfl, rfl⟩ | ⟨rfl, rfl, rfl, rfl⟩
  · exact absurd hk (by decide)
  · exact rBit_two op a n f w o0 o1 a0 a1 n0 n1 f0 f1
  · exact rBit_four op a n f w o0 o1 a0 a1 n0 n1 f0 f1
end Go.Proofs.Ytelclgelooljlaa
