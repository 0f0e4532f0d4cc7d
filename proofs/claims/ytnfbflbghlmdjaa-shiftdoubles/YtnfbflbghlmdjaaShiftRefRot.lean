/- Contracts of the document's turns of layer 2 (package drawloomref02): for every input within their kinds they return what is named, and the world stays. -/
import Derived.Test.YtnfbflbghlmdjaaShiftRefLeaf
namespace Go.Proofs.Ytnfbflbghlmdjaa
open Go.ChangeShapes Go.WideShapes Go.ChangeAt Go.RowKit
set_option linter.unusedVariables false

theorem turned_at {R : Nat} (hR : isR R) (n r m : Int) (c : Nat) (w : World) (hr : r = (R : Int)) (hm : m = (c : Int)) (n0 : 0 ≤ n) (n1 : n < ((2 ^ R : Nat) : Int)) (hc : c ≤ 200) :
    Calls Try.prog 46 #[.int .u64 n, .int .i64 r, .int .i64 m] w fun e w' => e = .returned (.int .u64 (turn R n c)) ∧ w' = w := by
  subst hr hm
  exact turned_any hR n c w n0 n1 hc

theorem sv1 : Sw 1 128 256 8 := Or.inl ⟨rfl, rfl, rfl, rfl⟩

theorem sv2 : Sw 2 32768 65536 16 := Or.inr (Or.inl ⟨rfl, rfl, rfl, rfl⟩)

theorem sv4 : Sw 4 2147483648 4294967296 32 := Or.inr (Or.inr ⟨rfl, rfl, rfl, rfl⟩)

theorem Sw.isRw {s H M : Int} {W : Nat} (h : Sw s H M W) : isR W ∧ isR (W + 1) := by
  rcases h with ⟨rfl, rfl, rfl, rfl⟩ | ⟨rfl, rfl, rfl, rfl⟩ | ⟨rfl, rfl, rfl, rfl⟩ <;> (unfold isR; decide)

set_option maxHeartbeats 1000000 in
theorem rot_0_8 (x f : Int) (k : Nat) (w : World) (x0 : 0 ≤ x) (x1 : x < 256) (k1 : 1 ≤ k) (k2 : k ≤ 31) (f0 : 0 ≤ f) (f1 : f < 4294967296) :
    Calls Try.prog 22 #[.int .i64 0, .int .u64 x, .int .i64 8, .int .i64 (k : Int), .int .u32 f] w fun e w' =>
      e = .returned (.tuple #[.int .u64 (mvR 0 128 256 8 x k (tb f 0)), .int .u32 (setF (setF f 1 (mvC 0 128 256 8 x k (tb f 0))) 2048 (mvV 0 128 256 8 x k (tb f 0)))]) ∧ w' = w := by
  show Calls Try.prog 22 #[.int .i64 0, .int .u64 x, .int .i64 8, .int .i64 (k : Int), .int .u32 f] w fun e w' =>
      e = .returned (.tuple #[.int .u64 (turn 8 x k), .int .u32 (setF (setF f 1 (tb (turn 8 x k) 0)) 2048 (tb (turn 8 x k) 0 != tb (turn 8 x k) 7))]) ∧ w' = w
  have t0 := (turn_bd 8 x k).1
  have t1 : turn 8 x k < 256 := (turn_bd 8 x k).2
  have b1 := bd1 f0 f1 1 fl1 (tb (turn 8 x k) 0)
  have B : Hid _ := b1
  clear b1
  have X : Hid (x < ((2 ^ 8 : Nat) : Int)) := x1
  go_enter Try.func22, Try.ntmps22
  go_wp2_with fail
  refine (turned_at sv1.isRw.1 _ _ _ k _ (by omega) (by omega) x0 X.out (by omega)).mono ?_; rintro e w' ⟨rfl, hw⟩; replace hw := hw.symm; subst hw
  go_wp2_with fail
  refine (bit_any _ _ _ t0 (by omega) (by decide) (by decide)).mono ?_; rintro e w' ⟨rfl, hw⟩; replace hw := hw.symm; subst hw
  go_wp2_with fail
  refine (Set_any _ _ _ _ f0 f1 fl1).mono ?_; rintro e w' ⟨rfl, hw⟩; replace hw := hw.symm; subst hw
  go_wp2_with fail
  refine (bit_any _ _ _ t0 (by omega) (by decide) (by decide)).mono ?_; rintro e w' ⟨rfl, hw⟩; replace hw := hw.symm; subst hw
  go_wp2_with fail
  refine (bit_any _ _ _ t0 (by omega) (by decide) (by decide)).mono ?_; rintro e w' ⟨rfl, hw⟩; replace hw := hw.symm; subst hw
  go_wp2_with fail
  refine (Set_any _ _ _ _ B.out.1 B.out.2 fl2048).mono ?_; rintro e w' ⟨rfl, hw⟩; replace hw := hw.symm; subst hw
  go_wp2
  go_ret2
  exact ⟨rfl, rfl⟩

set_option maxHeartbeats 1000000 in
theorem rot_0_16 (x f : Int) (k : Nat) (w : World) (x0 : 0 ≤ x) (x1 : x < 65536) (k1 : 1 ≤ k) (k2 : k ≤ 31) (f0 : 0 ≤ f) (f1 : f < 4294967296) :
    Calls Try.prog 22 #[.int .i64 0, .int .u64 x, .int .i64 16, .int .i64 (k : Int), .int .u32 f] w fun e w' =>
      e = .returned (.tuple #[.int .u64 (mvR 0 32768 65536 16 x k (tb f 0)), .int .u32 (setF (setF f 1 (mvC 0 32768 65536 16 x k (tb f 0))) 2048 (mvV 0 32768 65536 16 x k (tb f 0)))]) ∧ w' = w := by
  show Calls Try.prog 22 #[.int .i64 0, .int .u64 x, .int .i64 16, .int .i64 (k : Int), .int .u32 f] w fun e w' =>
      e = .returned (.tuple #[.int .u64 (turn 16 x k), .int .u32 (setF (setF f 1 (tb (turn 16 x k) 0)) 2048 (tb (turn 16 x k) 0 != tb (turn 16 x k) 15))]) ∧ w' = w
  have t0 := (turn_bd 16 x k).1
  have t1 : turn 16 x k < 65536 := (turn_bd 16 x k).2
  have b1 := bd1 f0 f1 1 fl1 (tb (turn 16 x k) 0)
  have B : Hid _ := b1
  clear b1
  have X : Hid (x < ((2 ^ 16 : Nat) : Int)) := x1
  go_enter Try.func22, Try.ntmps22
  go_wp2_with fail
  refine (turned_at sv2.isRw.1 _ _ _ k _ (by omega) (by omega) x0 X.out (by omega)).mono ?_; rintro e w' ⟨rfl, hw⟩; replace hw := hw.symm; subst hw
  go_wp2_with fail
  refine (bit_any _ _ _ t0 (by omega) (by decide) (by decide)).mono ?_; rintro e w' ⟨rfl, hw⟩; replace hw := hw.symm; subst hw
  go_wp2_with fail
  refine (Set_any _ _ _ _ f0 f1 fl1).mono ?_; rintro e w' ⟨rfl, hw⟩; replace hw := hw.symm; subst hw
  go_wp2_with fail
  refine (bit_any _ _ _ t0 (by omega) (by decide) (by decide)).mono ?_; rintro e w' ⟨rfl, hw⟩; replace hw := hw.symm; subst hw
  go_wp2_with fail
  refine (bit_any _ _ _ t0 (by omega) (by decide) (by decide)).mono ?_; rintro e w' ⟨rfl, hw⟩; replace hw := hw.symm; subst hw
  go_wp2_with fail
  refine (Set_any _ _ _ _ B.out.1 B.out.2 fl2048).mono ?_; rintro e w' ⟨rfl, hw⟩; replace hw := hw.symm; subst hw
  go_wp2
  go_ret2
  exact ⟨rfl, rfl⟩

set_option maxHeartbeats 1000000 in
theorem rot_0_32 (x f : Int) (k : Nat) (w : World) (x0 : 0 ≤ x) (x1 : x < 4294967296) (k1 : 1 ≤ k) (k2 : k ≤ 31) (f0 : 0 ≤ f) (f1 : f < 4294967296) :
    Calls Try.prog 22 #[.int .i64 0, .int .u64 x, .int .i64 32, .int .i64 (k : Int), .int .u32 f] w fun e w' =>
      e = .returned (.tuple #[.int .u64 (mvR 0 2147483648 4294967296 32 x k (tb f 0)), .int .u32 (setF (setF f 1 (mvC 0 2147483648 4294967296 32 x k (tb f 0))) 2048 (mvV 0 2147483648 4294967296 32 x k (tb f 0)))]) ∧ w' = w := by
  show Calls Try.prog 22 #[.int .i64 0, .int .u64 x, .int .i64 32, .int .i64 (k : Int), .int .u32 f] w fun e w' =>
      e = .returned (.tuple #[.int .u64 (turn 32 x k), .int .u32 (setF (setF f 1 (tb (turn 32 x k) 0)) 2048 (tb (turn 32 x k) 0 != tb (turn 32 x k) 31))]) ∧ w' = w
  have t0 := (turn_bd 32 x k).1
  have t1 : turn 32 x k < 4294967296 := (turn_bd 32 x k).2
  have b1 := bd1 f0 f1 1 fl1 (tb (turn 32 x k) 0)
  have B : Hid _ := b1
  clear b1
  have X : Hid (x < ((2 ^ 32 : Nat) : Int)) := x1
  go_enter Try.func22, Try.ntmps22
  go_wp2_with fail
  refine (turned_at sv4.isRw.1 _ _ _ k _ (by omega) (by omega) x0 X.out (by omega)).mono ?_; rintro e w' ⟨rfl, hw⟩; replace hw := hw.symm; subst hw
  go_wp2_with fail
  refine (bit_any _ _ _ t0 (by omega) (by decide) (by decide)).mono ?_; rintro e w' ⟨rfl, hw⟩; replace hw := hw.symm; subst hw
  go_wp2_with fail
  refine (Set_any _ _ _ _ f0 f1 fl1).mono ?_; rintro e w' ⟨rfl, hw⟩; replace hw := hw.symm; subst hw
  go_wp2_with fail
  refine (bit_any _ _ _ t0 (by omega) (by decide) (by decide)).mono ?_; rintro e w' ⟨rfl, hw⟩; replace hw := hw.symm; subst hw
  go_wp2_with fail
  refine (bit_any _ _ _ t0 (by omega) (by decide) (by decide)).mono ?_; rintro e w' ⟨rfl, hw⟩; replace hw := hw.symm; subst hw
  go_wp2_with fail
  refine (Set_any _ _ _ _ B.out.1 B.out.2 fl2048).mono ?_; rintro e w' ⟨rfl, hw⟩; replace hw := hw.symm; subst hw
  go_wp2
  go_ret2
  exact ⟨rfl, rfl⟩

set_option maxHeartbeats 1000000 in
theorem rot_1_8 (x f : Int) (k : Nat) (w : World) (x0 : 0 ≤ x) (x1 : x < 256) (k1 : 1 ≤ k) (k2 : k ≤ 31) (f0 : 0 ≤ f) (f1 : f < 4294967296) :
    Calls Try.prog 22 #[.int .i64 1, .int .u64 x, .int .i64 8, .int .i64 (k : Int), .int .u32 f] w fun e w' =>
      e = .returned (.tuple #[.int .u64 (mvR 1 128 256 8 x k (tb f 0)), .int .u32 (setF (setF f 1 (mvC 1 128 256 8 x k (tb f 0))) 2048 (mvV 1 128 256 8 x k (tb f 0)))]) ∧ w' = w := by
  show Calls Try.prog 22 #[.int .i64 1, .int .u64 x, .int .i64 8, .int .i64 (k : Int), .int .u32 f] w fun e w' =>
      e = .returned (.tuple #[.int .u64 (turn 8 x (4 * 8 - k)), .int .u32 (setF (setF f 1 (tb (turn 8 x (4 * 8 - k)) 7)) 2048 (tb (turn 8 x (4 * 8 - k)) 7 != tb (turn 8 x (4 * 8 - k)) 6))]) ∧ w' = w
  have t0 := (turn_bd 8 x (4 * 8 - k)).1
  have t1 : turn 8 x (4 * 8 - k) < 256 := (turn_bd 8 x (4 * 8 - k)).2
  have b1 := bd1 f0 f1 1 fl1 (tb (turn 8 x (4 * 8 - k)) 7)
  have B : Hid _ := b1
  clear b1
  have X : Hid (x < ((2 ^ 8 : Nat) : Int)) := x1
  go_enter Try.func22, Try.ntmps22
  go_wp2_with fail
  refine (turned_at sv1.isRw.1 _ _ _ (4 * 8 - k) _ (by omega) (by omega) x0 X.out (by omega)).mono ?_; rintro e w' ⟨rfl, hw⟩; replace hw := hw.symm; subst hw
  go_wp2_with fail
  refine (bit_any _ _ _ t0 (by omega) (by decide) (by decide)).mono ?_; rintro e w' ⟨rfl, hw⟩; replace hw := hw.symm; subst hw
  go_wp2_with fail
  refine (Set_any _ _ _ _ f0 f1 fl1).mono ?_; rintro e w' ⟨rfl, hw⟩; replace hw := hw.symm; subst hw
  go_wp2_with fail
  refine (bit_any _ _ _ t0 (by omega) (by decide) (by decide)).mono ?_; rintro e w' ⟨rfl, hw⟩; replace hw := hw.symm; subst hw
  go_wp2_with fail
  refine (bit_any _ _ _ t0 (by omega) (by decide) (by decide)).mono ?_; rintro e w' ⟨rfl, hw⟩; replace hw := hw.symm; subst hw
  go_wp2_with fail
  refine (Set_any _ _ _ _ B.out.1 B.out.2 fl2048).mono ?_; rintro e w' ⟨rfl, hw⟩; replace hw := hw.symm; subst hw
  go_wp2
  go_ret2
  exact ⟨rfl, rfl⟩

set_option maxHeartbeats 1000000 in
theorem rot_1_16 (x f : Int) (k : Nat) (w : World) (x0 : 0 ≤ x) (x1 : x < 65536) (k1 : 1 ≤ k) (k2 : k ≤ 31) (f0 : 0 ≤ f) (f1 : f < 4294967296) :
    Calls Try.prog 22 #[.int .i64 1, .int .u64 x, .int .i64 16, .int .i64 (k : Int), .int .u32 f] w fun e w' =>
      e = .returned (.tuple #[.int .u64 (mvR 1 32768 65536 16 x k (tb f 0)), .int .u32 (setF (setF f 1 (mvC 1 32768 65536 16 x k (tb f 0))) 2048 (mvV 1 32768 65536 16 x k (tb f 0)))]) ∧ w' = w := by
  show Calls Try.prog 22 #[.int .i64 1, .int .u64 x, .int .i64 16, .int .i64 (k : Int), .int .u32 f] w fun e w' =>
      e = .returned (.tuple #[.int .u64 (turn 16 x (4 * 16 - k)), .int .u32 (setF (setF f 1 (tb (turn 16 x (4 * 16 - k)) 15)) 2048 (tb (turn 16 x (4 * 16 - k)) 15 != tb (turn 16 x (4 * 16 - k)) 14))]) ∧ w' = w
  have t0 := (turn_bd 16 x (4 * 16 - k)).1
  have t1 : turn 16 x (4 * 16 - k) < 65536 := (turn_bd 16 x (4 * 16 - k)).2
  have b1 := bd1 f0 f1 1 fl1 (tb (turn 16 x (4 * 16 - k)) 15)
  have B : Hid _ := b1
  clear b1
  have X : Hid (x < ((2 ^ 16 : Nat) : Int)) := x1
  go_enter Try.func22, Try.ntmps22
  go_wp2_with fail
  refine (turned_at sv2.isRw.1 _ _ _ (4 * 16 - k) _ (by omega) (by omega) x0 X.out (by omega)).mono ?_; rintro e w' ⟨rfl, hw⟩; replace hw := hw.symm; subst hw
  go_wp2_with fail
  refine (bit_any _ _ _ t0 (by omega) (by decide) (by decide)).mono ?_; rintro e w' ⟨rfl, hw⟩; replace hw := hw.symm; subst hw
  go_wp2_with fail
  refine (Set_any _ _ _ _ f0 f1 fl1).mono ?_; rintro e w' ⟨rfl, hw⟩; replace hw := hw.symm; subst hw
  go_wp2_with fail
  refine (bit_any _ _ _ t0 (by omega) (by decide) (by decide)).mono ?_; rintro e w' ⟨rfl, hw⟩; replace hw := hw.symm; subst hw
  go_wp2_with fail
  refine (bit_any _ _ _ t0 (by omega) (by decide) (by decide)).mono ?_; rintro e w' ⟨rfl, hw⟩; replace hw := hw.symm; subst hw
  go_wp2_with fail
  refine (Set_any _ _ _ _ B.out.1 B.out.2 fl2048).mono ?_; rintro e w' ⟨rfl, hw⟩; replace hw := hw.symm; subst hw
  go_wp2
  go_ret2
  exact ⟨rfl, rfl⟩

set_option maxHeartbeats 1000000 in
theorem rot_1_32 (x f : Int) (k : Nat) (w : World) (x0 : 0 ≤ x) (x1 : x < 4294967296) (k1 : 1 ≤ k) (k2 : k ≤ 31) (f0 : 0 ≤ f) (f1 : f < 4294967296) :
    Calls Try.prog 22 #[.int .i64 1, .int .u64 x, .int .i64 32, .int .i64 (k : Int), .int .u32 f] w fun e w' =>
      e = .returned (.tuple #[.int .u64 (mvR 1 2147483648 4294967296 32 x k (tb f 0)), .int .u32 (setF (setF f 1 (mvC 1 2147483648 4294967296 32 x k (tb f 0))) 2048 (mvV 1 2147483648 4294967296 32 x k (tb f 0)))]) ∧ w' = w := by
  show Calls Try.prog 22 #[.int .i64 1, .int .u64 x, .int .i64 32, .int .i64 (k : Int), .int .u32 f] w fun e w' =>
      e = .returned (.tuple #[.int .u64 (turn 32 x (4 * 32 - k)), .int .u32 (setF (setF f 1 (tb (turn 32 x (4 * 32 - k)) 31)) 2048 (tb (turn 32 x (4 * 32 - k)) 31 != tb (turn 32 x (4 * 32 - k)) 30))]) ∧ w' = w
  have t0 := (turn_bd 32 x (4 * 32 - k)).1
  have t1 : turn 32 x (4 * 32 - k) < 4294967296 := (turn_bd 32 x (4 * 32 - k)).2
  have b1 := bd1 f0 f1 1 fl1 (tb (turn 32 x (4 * 32 - k)) 31)
  have B : Hid _ := b1
  clear b1
  have X : Hid (x < ((2 ^ 32 : Nat) : Int)) := x1
  go_enter Try.func22, Try.ntmps22
  go_wp2_with fail
  refine (turned_at sv4.isRw.1 _ _ _ (4 * 32 - k) _ (by omega) (by omega) x0 X.out (by omega)).mono ?_; rintro e w' ⟨rfl, hw⟩; replace hw := hw.symm; subst hw
  go_wp2_with fail
  refine (bit_any _ _ _ t0 (by omega) (by decide) (by decide)).mono ?_; rintro e w' ⟨rfl, hw⟩; replace hw := hw.symm; subst hw
  go_wp2_with fail
  refine (Set_any _ _ _ _ f0 f1 fl1).mono ?_; rintro e w' ⟨rfl, hw⟩; replace hw := hw.symm; subst hw
  go_wp2_with fail
  refine (bit_any _ _ _ t0 (by omega) (by decide) (by decide)).mono ?_; rintro e w' ⟨rfl, hw⟩; replace hw := hw.symm; subst hw
  go_wp2_with fail
  refine (bit_any _ _ _ t0 (by omega) (by decide) (by decide)).mono ?_; rintro e w' ⟨rfl, hw⟩; replace hw := hw.symm; subst hw
  go_wp2_with fail
  refine (Set_any _ _ _ _ B.out.1 B.out.2 fl2048).mono ?_; rintro e w' ⟨rfl, hw⟩; replace hw := hw.symm; subst hw
  go_wp2
  go_ret2
  exact ⟨rfl, rfl⟩

set_option maxHeartbeats 1000000 in
theorem rot_2_8_true (x f : Int) (k : Nat) (w : World) (x0 : 0 ≤ x) (x1 : x < 256) (k1 : 1 ≤ k) (k2 : k ≤ 31) (f0 : 0 ≤ f) (f1 : f < 4294967296) (hh : hasF f 1 = true) :
    Calls Try.prog 22 #[.int .i64 2, .int .u64 x, .int .i64 8, .int .i64 (k : Int), .int .u32 f] w fun e w' =>
      e = .returned (.tuple #[.int .u64 (turn (8 + 1) (x + 256) k % 256), .int .u32 (setF (setF f 1 (tb (turn (8 + 1) (x + 256) k) 8)) 2048 (tb (turn (8 + 1) (x + 256) k) 8 != tb (turn (8 + 1) (x + 256) k % 256) 7))]) ∧ w' = w := by
  have t0 := (turn_bd (8 + 1) (x + 256) k).1
  have t1 : turn (8 + 1) (x + 256) k < 512 := (turn_bd (8 + 1) (x + 256) k).2
  have r0 : 0 ≤ turn (8 + 1) (x + 256) k % 256 := by omega
  have r1 : turn (8 + 1) (x + 256) k % 256 < 256 := by omega
  have B : Hid _ := bd1 f0 f1 1 fl1 (tb (turn (8 + 1) (x + 256) k) 8)
  have X : Hid (x + 256 < ((2 ^ (8 + 1) : Nat) : Int)) := (by show x + 256 < 512; omega : x + 256 < ((2 ^ (8 + 1) : Nat) : Int))
  go_enter Try.func22, Try.ntmps22
  go_wp2_with fail
  refine (Has_any _ _ _ f0 f1 fl1).mono ?_; rintro e w' ⟨rfl, hw⟩; replace hw := hw.symm; subst hw
  go_wp2_with fail
  refine (turned_at sv1.isRw.2 _ _ _ k _ (by omega) (by omega) (by omega) X.out (by omega)).mono ?_; rintro e w' ⟨rfl, hw⟩; replace hw := hw.symm; subst hw
  go_wp2_with fail
  refine (Cut_any sz1 _ _ t0 (by omega)).mono ?_; rintro e w' ⟨rfl, hw⟩; replace hw := hw.symm; subst hw
  go_wp2_with fail
  refine (bit_any _ _ _ t0 (by omega) (by decide) (by decide)).mono ?_; rintro e w' ⟨rfl, hw⟩; replace hw := hw.symm; subst hw
  go_wp2_with fail
  refine (Set_any _ _ _ _ f0 f1 fl1).mono ?_; rintro e w' ⟨rfl, hw⟩; replace hw := hw.symm; subst hw
  go_wp2_with fail
  refine (bit_any _ _ _ t0 (by omega) (by decide) (by decide)).mono ?_; rintro e w' ⟨rfl, hw⟩; replace hw := hw.symm; subst hw
  go_wp2_with fail
  refine (bit_any _ _ _ r0 (by omega) (by decide) (by decide)).mono ?_; rintro e w' ⟨rfl, hw⟩; replace hw := hw.symm; subst hw
  go_wp2_with fail
  refine (Set_any _ _ _ _ B.out.1 B.out.2 fl2048).mono ?_; rintro e w' ⟨rfl, hw⟩; replace hw := hw.symm; subst hw
  go_wp2
  go_ret2
  exact ⟨rfl, rfl⟩

set_option maxHeartbeats 1000000 in
theorem rot_2_8_false (x f : Int) (k : Nat) (w : World) (x0 : 0 ≤ x) (x1 : x < 256) (k1 : 1 ≤ k) (k2 : k ≤ 31) (f0 : 0 ≤ f) (f1 : f < 4294967296) (hh : hasF f 1 = false) :
    Calls Try.prog 22 #[.int .i64 2, .int .u64 x, .int .i64 8, .int .i64 (k : Int), .int .u32 f] w fun e w' =>
      e = .returned (.tuple #[.int .u64 (turn (8 + 1) (x) k % 256), .int .u32 (setF (setF f 1 (tb (turn (8 + 1) (x) k) 8)) 2048 (tb (turn (8 + 1) (x) k) 8 != tb (turn (8 + 1) (x) k % 256) 7))]) ∧ w' = w := by
  have t0 := (turn_bd (8 + 1) (x) k).1
  have t1 : turn (8 + 1) (x) k < 512 := (turn_bd (8 + 1) (x) k).2
  have r0 : 0 ≤ turn (8 + 1) (x) k % 256 := by omega
  have r1 : turn (8 + 1) (x) k % 256 < 256 := by omega
  have B : Hid _ := bd1 f0 f1 1 fl1 (tb (turn (8 + 1) (x) k) 8)
  have X : Hid (x < ((2 ^ (8 + 1) : Nat) : Int)) := (by show x < 512; omega : x < ((2 ^ (8 + 1) : Nat) : Int))
  go_enter Try.func22, Try.ntmps22
  go_wp2_with fail
  refine (Has_any _ _ _ f0 f1 fl1).mono ?_; rintro e w' ⟨rfl, hw⟩; replace hw := hw.symm; subst hw
  go_wp2_with fail
  refine (turned_at sv1.isRw.2 _ _ _ k _ (by omega) (by omega) (by omega) X.out (by omega)).mono ?_; rintro e w' ⟨rfl, hw⟩; replace hw := hw.symm; subst hw
  go_wp2_with fail
  refine (Cut_any sz1 _ _ t0 (by omega)).mono ?_; rintro e w' ⟨rfl, hw⟩; replace hw := hw.symm; subst hw
  go_wp2_with fail
  refine (bit_any _ _ _ t0 (by omega) (by decide) (by decide)).mono ?_; rintro e w' ⟨rfl, hw⟩; replace hw := hw.symm; subst hw
  go_wp2_with fail
  refine (Set_any _ _ _ _ f0 f1 fl1).mono ?_; rintro e w' ⟨rfl, hw⟩; replace hw := hw.symm; subst hw
  go_wp2_with fail
  refine (bit_any _ _ _ t0 (by omega) (by decide) (by decide)).mono ?_; rintro e w' ⟨rfl, hw⟩; replace hw := hw.symm; subst hw
  go_wp2_with fail
  refine (bit_any _ _ _ r0 (by omega) (by decide) (by decide)).mono ?_; rintro e w' ⟨rfl, hw⟩; replace hw := hw.symm; subst hw
  go_wp2_with fail
  refine (Set_any _ _ _ _ B.out.1 B.out.2 fl2048).mono ?_; rintro e w' ⟨rfl, hw⟩; replace hw := hw.symm; subst hw
  go_wp2
  go_ret2
  exact ⟨rfl, rfl⟩

set_option maxHeartbeats 1000000 in
theorem rot_2_16_true (x f : Int) (k : Nat) (w : World) (x0 : 0 ≤ x) (x1 : x < 65536) (k1 : 1 ≤ k) (k2 : k ≤ 31) (f0 : 0 ≤ f) (f1 : f < 4294967296) (hh : hasF f 1 = true) :
    Calls Try.prog 22 #[.int .i64 2, .int .u64 x, .int .i64 16, .int .i64 (k : Int), .int .u32 f] w fun e w' =>
      e = .returned (.tuple #[.int .u64 (turn (16 + 1) (x + 65536) k % 65536), .int .u32 (setF (setF f 1 (tb (turn (16 + 1) (x + 65536) k) 16)) 2048 (tb (turn (16 + 1) (x + 65536) k) 16 != tb (turn (16 + 1) (x + 65536) k % 65536) 15))]) ∧ w' = w := by
  have t0 := (turn_bd (16 + 1) (x + 65536) k).1
  have t1 : turn (16 + 1) (x + 65536) k < 131072 := (turn_bd (16 + 1) (x + 65536) k).2
  have r0 : 0 ≤ turn (16 + 1) (x + 65536) k % 65536 := by omega
  have r1 : turn (16 + 1) (x + 65536) k % 65536 < 65536 := by omega
  have B : Hid _ := bd1 f0 f1 1 fl1 (tb (turn (16 + 1) (x + 65536) k) 16)
  have X : Hid (x + 65536 < ((2 ^ (16 + 1) : Nat) : Int)) := (by show x + 65536 < 131072; omega : x + 65536 < ((2 ^ (16 + 1) : Nat) : Int))
  go_enter Try.func22, Try.ntmps22
  go_wp2_with fail
  refine (Has_any _ _ _ f0 f1 fl1).mono ?_; rintro e w' ⟨rfl, hw⟩; replace hw := hw.symm; subst hw
  go_wp2_with fail
  refine (turned_at sv2.isRw.2 _ _ _ k _ (by omega) (by omega) (by omega) X.out (by omega)).mono ?_; rintro e w' ⟨rfl, hw⟩; replace hw := hw.symm; subst hw
  go_wp2_with fail
  refine (Cut_any sz2 _ _ t0 (by omega)).mono ?_; rintro e w' ⟨rfl, hw⟩; replace hw := hw.symm; subst hw
  go_wp2_with fail
  refine (bit_any _ _ _ t0 (by omega) (by decide) (by decide)).mono ?_; rintro e w' ⟨rfl, hw⟩; replace hw := hw.symm; subst hw
  go_wp2_with fail
  refine (Set_any _ _ _ _ f0 f1 fl1).mono ?_; rintro e w' ⟨rfl, hw⟩; replace hw := hw.symm; subst hw
  go_wp2_with fail
  refine (bit_any _ _ _ t0 (by omega) (by decide) (by decide)).mono ?_; rintro e w' ⟨rfl, hw⟩; replace hw := hw.symm; subst hw
  go_wp2_with fail
  refine (bit_any _ _ _ r0 (by omega) (by decide) (by decide)).mono ?_; rintro e w' ⟨rfl, hw⟩; replace hw := hw.symm; subst hw
  go_wp2_with fail
  refine (Set_any _ _ _ _ B.out.1 B.out.2 fl2048).mono ?_; rintro e w' ⟨rfl, hw⟩; replace hw := hw.symm; subst hw
  go_wp2
  go_ret2
  exact ⟨rfl, rfl⟩

set_option maxHeartbeats 1000000 in
theorem rot_2_16_false (x f : Int) (k : Nat) (w : World) (x0 : 0 ≤ x) (x1 : x < 65536) (k1 : 1 ≤ k) (k2 : k ≤ 31) (f0 : 0 ≤ f) (f1 : f < 4294967296) (hh : hasF f 1 = false) :
    Calls Try.prog 22 #[.int .i64 2, .int .u64 x, .int .i64 16, .int .i64 (k : Int), .int .u32 f] w fun e w' =>
      e = .returned (.tuple #[.int .u64 (turn (16 + 1) (x) k % 65536), .int .u32 (setF (setF f 1 (tb (turn (16 + 1) (x) k) 16)) 2048 (tb (turn (16 + 1) (x) k) 16 != tb (turn (16 + 1) (x) k % 65536) 15))]) ∧ w' = w := by
  have t0 := (turn_bd (16 + 1) (x) k).1
  have t1 : turn (16 + 1) (x) k < 131072 := (turn_bd (16 + 1) (x) k).2
  have r0 : 0 ≤ turn (16 + 1) (x) k % 65536 := by omega
  have r1 : turn (16 + 1) (x) k % 65536 < 65536 := by omega
  have B : Hid _ := bd1 f0 f1 1 fl1 (tb (turn (16 + 1) (x) k) 16)
  have X : Hid (x < ((2 ^ (16 + 1) : Nat) : Int)) := (by show x < 131072; omega : x < ((2 ^ (16 + 1) : Nat) : Int))
  go_enter Try.func22, Try.ntmps22
  go_wp2_with fail
  refine (Has_any _ _ _ f0 f1 fl1).mono ?_; rintro e w' ⟨rfl, hw⟩; replace hw := hw.symm; subst hw
  go_wp2_with fail
  refine (turned_at sv2.isRw.2 _ _ _ k _ (by omega) (by omega) (by omega) X.out (by omega)).mono ?_; rintro e w' ⟨rfl, hw⟩; replace hw := hw.symm; subst hw
  go_wp2_with fail
  refine (Cut_any sz2 _ _ t0 (by omega)).mono ?_; rintro e w' ⟨rfl, hw⟩; replace hw := hw.symm; subst hw
  go_wp2_with fail
  refine (bit_any _ _ _ t0 (by omega) (by decide) (by decide)).mono ?_; rintro e w' ⟨rfl, hw⟩; replace hw := hw.symm; subst hw
  go_wp2_with fail
  refine (Set_any _ _ _ _ f0 f1 fl1).mono ?_; rintro e w' ⟨rfl, hw⟩; replace hw := hw.symm; subst hw
  go_wp2_with fail
  refine (bit_any _ _ _ t0 (by omega) (by decide) (by decide)).mono ?_; rintro e w' ⟨rfl, hw⟩; replace hw := hw.symm; subst hw
  go_wp2_with fail
  refine (bit_any _ _ _ r0 (by omega) (by decide) (by decide)).mono ?_; rintro e w' ⟨rfl, hw⟩; replace hw := hw.symm; subst hw
  go_wp2_with fail
  refine (Set_any _ _ _ _ B.out.1 B.out.2 fl2048).mono ?_; rintro e w' ⟨rfl, hw⟩; replace hw := hw.symm; subst hw
  go_wp2
  go_ret2
  exact ⟨rfl, rfl⟩

set_option maxHeartbeats 1000000 in
theorem rot_2_32_true (x f : Int) (k : Nat) (w : World) (x0 : 0 ≤ x) (x1 : x < 4294967296) (k1 : 1 ≤ k) (k2 : k ≤ 31) (f0 : 0 ≤ f) (f1 : f < 4294967296) (hh : hasF f 1 = true) :
    Calls Try.prog 22 #[.int .i64 2, .int .u64 x, .int .i64 32, .int .i64 (k : Int), .int .u32 f] w fun e w' =>
      e = .returned (.tuple #[.int .u64 (turn (32 + 1) (x + 4294967296) k % 4294967296), .int .u32 (setF (setF f 1 (tb (turn (32 + 1) (x + 4294967296) k) 32)) 2048 (tb (turn (32 + 1) (x + 4294967296) k) 32 != tb (turn (32 + 1) (x + 4294967296) k % 4294967296) 31))]) ∧ w' = w := by
  have t0 := (turn_bd (32 + 1) (x + 4294967296) k).1
  have t1 : turn (32 + 1) (x + 4294967296) k < 8589934592 := (turn_bd (32 + 1) (x + 4294967296) k).2
  have r0 : 0 ≤ turn (32 + 1) (x + 4294967296) k % 4294967296 := by omega
  have r1 : turn (32 + 1) (x + 4294967296) k % 4294967296 < 4294967296 := by omega
  have B : Hid _ := bd1 f0 f1 1 fl1 (tb (turn (32 + 1) (x + 4294967296) k) 32)
  have X : Hid (x + 4294967296 < ((2 ^ (32 + 1) : Nat) : Int)) := (by show x + 4294967296 < 8589934592; omega : x + 4294967296 < ((2 ^ (32 + 1) : Nat) : Int))
  go_enter Try.func22, Try.ntmps22
  go_wp2_with fail
  refine (Has_any _ _ _ f0 f1 fl1).mono ?_; rintro e w' ⟨rfl, hw⟩; replace hw := hw.symm; subst hw
  go_wp2_with fail
  refine (turned_at sv4.isRw.2 _ _ _ k _ (by omega) (by omega) (by omega) X.out (by omega)).mono ?_; rintro e w' ⟨rfl, hw⟩; replace hw := hw.symm; subst hw
  go_wp2_with fail
  refine (Cut_any sz4 _ _ t0 (by omega)).mono ?_; rintro e w' ⟨rfl, hw⟩; replace hw := hw.symm; subst hw
  go_wp2_with fail
  refine (bit_any _ _ _ t0 (by omega) (by decide) (by decide)).mono ?_; rintro e w' ⟨rfl, hw⟩; replace hw := hw.symm; subst hw
  go_wp2_with fail
  refine (Set_any _ _ _ _ f0 f1 fl1).mono ?_; rintro e w' ⟨rfl, hw⟩; replace hw := hw.symm; subst hw
  go_wp2_with fail
  refine (bit_any _ _ _ t0 (by omega) (by decide) (by decide)).mono ?_; rintro e w' ⟨rfl, hw⟩; replace hw := hw.symm; subst hw
  go_wp2_with fail
  refine (bit_any _ _ _ r0 (by omega) (by decide) (by decide)).mono ?_; rintro e w' ⟨rfl, hw⟩; replace hw := hw.symm; subst hw
  go_wp2_with fail
  refine (Set_any _ _ _ _ B.out.1 B.out.2 fl2048).mono ?_; rintro e w' ⟨rfl, hw⟩; replace hw := hw.symm; subst hw
  go_wp2
  go_ret2
  exact ⟨rfl, rfl⟩

set_option maxHeartbeats 1000000 in
theorem rot_2_32_false (x f : Int) (k : Nat) (w : World) (x0 : 0 ≤ x) (x1 : x < 4294967296) (k1 : 1 ≤ k) (k2 : k ≤ 31) (f0 : 0 ≤ f) (f1 : f < 4294967296) (hh : hasF f 1 = false) :
    Calls Try.prog 22 #[.int .i64 2, .int .u64 x, .int .i64 32, .int .i64 (k : Int), .int .u32 f] w fun e w' =>
      e = .returned (.tuple #[.int .u64 (turn (32 + 1) (x) k % 4294967296), .int .u32 (setF (setF f 1 (tb (turn (32 + 1) (x) k) 32)) 2048 (tb (turn (32 + 1) (x) k) 32 != tb (turn (32 + 1) (x) k % 4294967296) 31))]) ∧ w' = w := by
  have t0 := (turn_bd (32 + 1) (x) k).1
  have t1 : turn (32 + 1) (x) k < 8589934592 := (turn_bd (32 + 1) (x) k).2
  have r0 : 0 ≤ turn (32 + 1) (x) k % 4294967296 := by omega
  have r1 : turn (32 + 1) (x) k % 4294967296 < 4294967296 := by omega
  have B : Hid _ := bd1 f0 f1 1 fl1 (tb (turn (32 + 1) (x) k) 32)
  have X : Hid (x < ((2 ^ (32 + 1) : Nat) : Int)) := (by show x < 8589934592; omega : x < ((2 ^ (32 + 1) : Nat) : Int))
  go_enter Try.func22, Try.ntmps22
  go_wp2_with fail
  refine (Has_any _ _ _ f0 f1 fl1).mono ?_; rintro e w' ⟨rfl, hw⟩; replace hw := hw.symm; subst hw
  go_wp2_with fail
  refine (turned_at sv4.isRw.2 _ _ _ k _ (by omega) (by omega) (by omega) X.out (by omega)).mono ?_; rintro e w' ⟨rfl, hw⟩; replace hw := hw.symm; subst hw
  go_wp2_with fail
  refine (Cut_any sz4 _ _ t0 (by omega)).mono ?_; rintro e w' ⟨rfl, hw⟩; replace hw := hw.symm; subst hw
  go_wp2_with fail
  refine (bit_any _ _ _ t0 (by omega) (by decide) (by decide)).mono ?_; rintro e w' ⟨rfl, hw⟩; replace hw := hw.symm; subst hw
  go_wp2_with fail
  refine (Set_any _ _ _ _ f0 f1 fl1).mono ?_; rintro e w' ⟨rfl, hw⟩; replace hw := hw.symm; subst hw
  go_wp2_with fail
  refine (bit_any _ _ _ t0 (by omega) (by decide) (by decide)).mono ?_; rintro e w' ⟨rfl, hw⟩; replace hw := hw.symm; subst hw
  go_wp2_with fail
  refine (bit_any _ _ _ r0 (by omega) (by decide) (by decide)).mono ?_; rintro e w' ⟨rfl, hw⟩; replace hw := hw.symm; subst hw
  go_wp2_with fail
  refine (Set_any _ _ _ _ B.out.1 B.out.2 fl2048).mono ?_; rintro e w' ⟨rfl, hw⟩; replace hw := hw.symm; subst hw
  go_wp2
  go_ret2
  exact ⟨rfl, rfl⟩

set_option maxHeartbeats 1000000 in
theorem rot_3_8_true (x f : Int) (k : Nat) (w : World) (x0 : 0 ≤ x) (x1 : x < 256) (k1 : 1 ≤ k) (k2 : k ≤ 31) (f0 : 0 ≤ f) (f1 : f < 4294967296) (hh : hasF f 1 = true) :
    Calls Try.prog 22 #[.int .i64 3, .int .u64 x, .int .i64 8, .int .i64 (k : Int), .int .u32 f] w fun e w' =>
      e = .returned (.tuple #[.int .u64 (turn (8 + 1) (x + 256) (4 * (8 + 1) - k) % 256), .int .u32 (setF (setF f 1 (tb (turn (8 + 1) (x + 256) (4 * (8 + 1) - k)) 8)) 2048 (tb (turn (8 + 1) (x + 256) (4 * (8 + 1) - k) % 256) 7 != tb (turn (8 + 1) (x + 256) (4 * (8 + 1) - k) % 256) 6))]) ∧ w' = w := by
  have t0 := (turn_bd (8 + 1) (x + 256) (4 * (8 + 1) - k)).1
  have t1 : turn (8 + 1) (x + 256) (4 * (8 + 1) - k) < 512 := (turn_bd (8 + 1) (x + 256) (4 * (8 + 1) - k)).2
  have r0 : 0 ≤ turn (8 + 1) (x + 256) (4 * (8 + 1) - k) % 256 := by omega
  have r1 : turn (8 + 1) (x + 256) (4 * (8 + 1) - k) % 256 < 256 := by omega
  have B : Hid _ := bd1 f0 f1 1 fl1 (tb (turn (8 + 1) (x + 256) (4 * (8 + 1) - k)) 8)
  have X : Hid (x + 256 < ((2 ^ (8 + 1) : Nat) : Int)) := (by show x + 256 < 512; omega : x + 256 < ((2 ^ (8 + 1) : Nat) : Int))
  go_enter Try.func22, Try.ntmps22
  go_wp2_with fail
  refine (Has_any _ _ _ f0 f1 fl1).mono ?_; rintro e w' ⟨rfl, hw⟩; replace hw := hw.symm; subst hw
  go_wp2_with fail
  refine (turned_at sv1.isRw.2 _ _ _ (4 * (8 + 1) - k) _ (by omega) (by omega) (by omega) X.out (by omega)).mono ?_; rintro e w' ⟨rfl, hw⟩; replace hw := hw.symm; subst hw
  go_wp2_with fail
  refine (Cut_any sz1 _ _ t0 (by omega)).mono ?_; rintro e w' ⟨rfl, hw⟩; replace hw := hw.symm; subst hw
  go_wp2_with fail
  refine (bit_any _ _ _ t0 (by omega) (by decide) (by decide)).mono ?_; rintro e w' ⟨rfl, hw⟩; replace hw := hw.symm; subst hw
  go_wp2_with fail
  refine (Set_any _ _ _ _ f0 f1 fl1).mono ?_; rintro e w' ⟨rfl, hw⟩; replace hw := hw.symm; subst hw
  go_wp2_with fail
  refine (bit_any _ _ _ r0 (by omega) (by decide) (by decide)).mono ?_; rintro e w' ⟨rfl, hw⟩; replace hw := hw.symm; subst hw
  go_wp2_with fail
  refine (bit_any _ _ _ r0 (by omega) (by decide) (by decide)).mono ?_; rintro e w' ⟨rfl, hw⟩; replace hw := hw.symm; subst hw
  go_wp2_with fail
  refine (Set_any _ _ _ _ B.out.1 B.out.2 fl2048).mono ?_; rintro e w' ⟨rfl, hw⟩; replace hw := hw.symm; subst hw
  go_wp2
  go_ret2
  exact ⟨rfl, rfl⟩

set_option maxHeartbeats 1000000 in
theorem rot_3_8_false (x f : Int) (k : Nat) (w : World) (x0 : 0 ≤ x) (x1 : x < 256) (k1 : 1 ≤ k) (k2 : k ≤ 31) (f0 : 0 ≤ f) (f1 : f < 4294967296) (hh : hasF f 1 = false) :
    Calls Try.prog 22 #[.int .i64 3, .int .u64 x, .int .i64 8, .int .i64 (k : Int), .int .u32 f] w fun e w' =>
      e = .returned (.tuple #[.int .u64 (turn (8 + 1) (x) (4 * (8 + 1) - k) % 256), .int .u32 (setF (setF f 1 (tb (turn (8 + 1) (x) (4 * (8 + 1) - k)) 8)) 2048 (tb (turn (8 + 1) (x) (4 * (8 + 1) - k) % 256) 7 != tb (turn (8 + 1) (x) (4 * (8 + 1) - k) % 256) 6))]) ∧ w' = w := by
  have t0 := (turn_bd (8 + 1) (x) (4 * (8 + 1) - k)).1
  have t1 : turn (8 + 1) (x) (4 * (8 + 1) - k) < 512 := (turn_bd (8 + 1) (x) (4 * (8 + 1) - k)).2
  have r0 : 0 ≤ turn (8 + 1) (x) (4 * (8 + 1) - k) % 256 := by omega
  have r1 : turn (8 + 1) (x) (4 * (8 + 1) - k) % 256 < 256 := by omega
  have B : Hid _ := bd1 f0 f1 1 fl1 (tb (turn (8 + 1) (x) (4 * (8 + 1) - k)) 8)
  have X : Hid (x < ((2 ^ (8 + 1) : Nat) : Int)) := (by show x < 512; omega : x < ((2 ^ (8 + 1) : Nat) : Int))
  go_enter Try.func22, Try.ntmps22
  go_wp2_with fail
  refine (Has_any _ _ _ f0 f1 fl1).mono ?_; rintro e w' ⟨rfl, hw⟩; replace hw := hw.symm; subst hw
  go_wp2_with fail
  refine (turned_at sv1.isRw.2 _ _ _ (4 * (8 + 1) - k) _ (by omega) (by omega) (by omega) X.out (by omega)).mono ?_; rintro e w' ⟨rfl, hw⟩; replace hw := hw.symm; subst hw
  go_wp2_with fail
  refine (Cut_any sz1 _ _ t0 (by omega)).mono ?_; rintro e w' ⟨rfl, hw⟩; replace hw := hw.symm; subst hw
  go_wp2_with fail
  refine (bit_any _ _ _ t0 (by omega) (by decide) (by decide)).mono ?_; rintro e w' ⟨rfl, hw⟩; replace hw := hw.symm; subst hw
  go_wp2_with fail
  refine (Set_any _ _ _ _ f0 f1 fl1).mono ?_; rintro e w' ⟨rfl, hw⟩; replace hw := hw.symm; subst hw
  go_wp2_with fail
  refine (bit_any _ _ _ r0 (by omega) (by decide) (by decide)).mono ?_; rintro e w' ⟨rfl, hw⟩; replace hw := hw.symm; subst hw
  go_wp2_with fail
  refine (bit_any _ _ _ r0 (by omega) (by decide) (by decide)).mono ?_; rintro e w' ⟨rfl, hw⟩; replace hw := hw.symm; subst hw
  go_wp2_with fail
  refine (Set_any _ _ _ _ B.out.1 B.out.2 fl2048).mono ?_; rintro e w' ⟨rfl, hw⟩; replace hw := hw.symm; subst hw
  go_wp2
  go_ret2
  exact ⟨rfl, rfl⟩

set_option maxHeartbeats 1000000 in
theorem rot_3_16_true (x f : Int) (k : Nat) (w : World) (x0 : 0 ≤ x) (x1 : x < 65536) (k1 : 1 ≤ k) (k2 : k ≤ 31) (f0 : 0 ≤ f) (f1 : f < 4294967296) (hh : hasF f 1 = true) :
    Calls Try.prog 22 #[.int .i64 3, .int .u64 x, .int .i64 16, .int .i64 (k : Int), .int .u32 f] w fun e w' =>
      e = .returned (.tuple #[.int .u64 (turn (16 + 1) (x + 65536) (4 * (16 + 1) - k) % 65536), .int .u32 (setF (setF f 1 (tb (turn (16 + 1) (x + 65536) (4 * (16 + 1) - k)) 16)) 2048 (tb (turn (16 + 1) (x + 65536) (4 * (16 + 1) - k) % 65536) 15 != tb (turn (16 + 1) (x + 65536) (4 * (16 + 1) - k) % 65536) 14))]) ∧ w' = w := by
  have t0 := (turn_bd (16 + 1) (x + 65536) (4 * (16 + 1) - k)).1
  have t1 : turn (16 + 1) (x + 65536) (4 * (16 + 1) - k) < 131072 := (turn_bd (16 + 1) (x + 65536) (4 * (16 + 1) - k)).2
  have r0 : 0 ≤ turn (16 + 1) (x + 65536) (4 * (16 + 1) - k) % 65536 := by omega
  have r1 : turn (16 + 1) (x + 65536) (4 * (16 + 1) - k) % 65536 < 65536 := by omega
  have B : Hid _ := bd1 f0 f1 1 fl1 (tb (turn (16 + 1) (x + 65536) (4 * (16 + 1) - k)) 16)
  have X : Hid (x + 65536 < ((2 ^ (16 + 1) : Nat) : Int)) := (by show x + 65536 < 131072; omega : x + 65536 < ((2 ^ (16 + 1) : Nat) : Int))
  go_enter Try.func22, Try.ntmps22
  go_wp2_with fail
  refine (Has_any _ _ _ f0 f1 fl1).mono ?_; rintro e w' ⟨rfl, hw⟩; replace hw := hw.symm; subst hw
  go_wp2_with fail
  refine (turned_at sv2.isRw.2 _ _ _ (4 * (16 + 1) - k) _ (by omega) (by omega) (by omega) X.out (by omega)).mono ?_; rintro e w' ⟨rfl, hw⟩; replace hw := hw.symm; subst hw
  go_wp2_with fail
  refine (Cut_any sz2 _ _ t0 (by omega)).mono ?_; rintro e w' ⟨rfl, hw⟩; replace hw := hw.symm; subst hw
  go_wp2_with fail
  refine (bit_any _ _ _ t0 (by omega) (by decide) (by decide)).mono ?_; rintro e w' ⟨rfl, hw⟩; replace hw := hw.symm; subst hw
  go_wp2_with fail
  refine (Set_any _ _ _ _ f0 f1 fl1).mono ?_; rintro e w' ⟨rfl, hw⟩; replace hw := hw.symm; subst hw
  go_wp2_with fail
  refine (bit_any _ _ _ r0 (by omega) (by decide) (by decide)).mono ?_; rintro e w' ⟨rfl, hw⟩; replace hw := hw.symm; subst hw
  go_wp2_with fail
  refine (bit_any _ _ _ r0 (by omega) (by decide) (by decide)).mono ?_; rintro e w' ⟨rfl, hw⟩; replace hw := hw.symm; subst hw
  go_wp2_with fail
  refine (Set_any _ _ _ _ B.out.1 B.out.2 fl2048).mono ?_; rintro e w' ⟨rfl, hw⟩; replace hw := hw.symm; subst hw
  go_wp2
  go_ret2
  exact ⟨rfl, rfl⟩

set_option maxHeartbeats 1000000 in
theorem rot_3_16_false (x f : Int) (k : Nat) (w : World) (x0 : 0 ≤ x) (x1 : x < 65536) (k1 : 1 ≤ k) (k2 : k ≤ 31) (f0 : 0 ≤ f) (f1 : f < 4294967296) (hh : hasF f 1 = false) :
    Calls Try.prog 22 #[.int .i64 3, .int .u64 x, .int .i64 16, .int .i64 (k : Int), .int .u32 f] w fun e w' =>
      e = .returned (.tuple #[.int .u64 (turn (16 + 1) (x) (4 * (16 + 1) - k) % 65536), .int .u32 (setF (setF f 1 (tb (turn (16 + 1) (x) (4 * (16 + 1) - k)) 16)) 2048 (tb (turn (16 + 1) (x) (4 * (16 + 1) - k) % 65536) 15 != tb (turn (16 + 1) (x) (4 * (16 + 1) - k) % 65536) 14))]) ∧ w' = w := by
  have t0 := (turn_bd (16 + 1) (x) (4 * (16 + 1) - k)).1
  have t1 : turn (16 + 1) (x) (4 * (16 + 1) - k) < 131072 := (turn_bd (16 + 1) (x) (4 * (16 + 1) - k)).2
  have r0 : 0 ≤ turn (16 + 1) (x) (4 * (16 + 1) - k) % 65536 := by omega
  have r1 : turn (16 + 1) (x) (4 * (16 + 1) - k) % 65536 < 65536 := by omega
  have B : Hid _ := bd1 f0 f1 1 fl1 (tb (turn (16 + 1) (x) (4 * (16 + 1) - k)) 16)
  have X : Hid (x < ((2 ^ (16 + 1) : Nat) : Int)) := (by show x < 131072; omega : x < ((2 ^ (16 + 1) : Nat) : Int))
  go_enter Try.func22, Try.ntmps22
  go_wp2_with fail
  refine (Has_any _ _ _ f0 f1 fl1).mono ?_; rintro e w' ⟨rfl, hw⟩; replace hw := hw.symm; subst hw
  go_wp2_with fail
  refine (turned_at sv2.isRw.2 _ _ _ (4 * (16 + 1) - k) _ (by omega) (by omega) (by omega) X.out (by omega)).mono ?_; rintro e w' ⟨rfl, hw⟩; replace hw := hw.symm; subst hw
  go_wp2_with fail
  refine (Cut_any sz2 _ _ t0 (by omega)).mono ?_; rintro e w' ⟨rfl, hw⟩; replace hw := hw.symm; subst hw
  go_wp2_with fail
  refine (bit_any _ _ _ t0 (by omega) (by decide) (by decide)).mono ?_; rintro e w' ⟨rfl, hw⟩; replace hw := hw.symm; subst hw
  go_wp2_with fail
  refine (Set_any _ _ _ _ f0 f1 fl1).mono ?_; rintro e w' ⟨rfl, hw⟩; replace hw := hw.symm; subst hw
  go_wp2_with fail
  refine (bit_any _ _ _ r0 (by omega) (by decide) (by decide)).mono ?_; rintro e w' ⟨rfl, hw⟩; replace hw := hw.symm; subst hw
  go_wp2_with fail
  refine (bit_any _ _ _ r0 (by omega) (by decide) (by decide)).mono ?_; rintro e w' ⟨rfl, hw⟩; replace hw := hw.symm; subst hw
  go_wp2_with fail
  refine (Set_any _ _ _ _ B.out.1 B.out.2 fl2048).mono ?_; rintro e w' ⟨rfl, hw⟩; replace hw := hw.symm; subst hw
  go_wp2
  go_ret2
  exact ⟨rfl, rfl⟩

set_option maxHeartbeats 1000000 in
theorem rot_3_32_true (x f : Int) (k : Nat) (w : World) (x0 : 0 ≤ x) (x1 : x < 4294967296) (k1 : 1 ≤ k) (k2 : k ≤ 31) (f0 : 0 ≤ f) (f1 : f < 4294967296) (hh : hasF f 1 = true) :
    Calls Try.prog 22 #[.int .i64 3, .int .u64 x, .int .i64 32, .int .i64 (k : Int), .int .u32 f] w fun e w' =>
      e = .returned (.tuple #[.int .u64 (turn (32 + 1) (x + 4294967296) (4 * (32 + 1) - k) % 4294967296), .int .u32 (setF (setF f 1 (tb (turn (32 + 1) (x + 4294967296) (4 * (32 + 1) - k)) 32)) 2048 (tb (turn (32 + 1) (x + 4294967296) (4 * (32 + 1) - k) % 4294967296) 31 != tb (turn (32 + 1) (x + 4294967296) (4 * (32 + 1) - k) % 4294967296) 30))]) ∧ w' = w := by
  have t0 := (turn_bd (32 + 1) (x + 4294967296) (4 * (32 + 1) - k)).1
  have t1 : turn (32 + 1) (x + 4294967296) (4 * (32 + 1) - k) < 8589934592 := (turn_bd (32 + 1) (x + 4294967296) (4 * (32 + 1) - k)).2
  have r0 : 0 ≤ turn (32 + 1) (x + 4294967296) (4 * (32 + 1) - k) % 4294967296 := by omega
  have r1 : turn (32 + 1) (x + 4294967296) (4 * (32 + 1) - k) % 4294967296 < 4294967296 := by omega
  have B : Hid _ := bd1 f0 f1 1 fl1 (tb (turn (32 + 1) (x + 4294967296) (4 * (32 + 1) - k)) 32)
  have X : Hid (x + 4294967296 < ((2 ^ (32 + 1) : Nat) : Int)) := (by show x + 4294967296 < 8589934592; omega : x + 4294967296 < ((2 ^ (32 + 1) : Nat) : Int))
  go_enter Try.func22, Try.ntmps22
  go_wp2_with fail
  refine (Has_any _ _ _ f0 f1 fl1).mono ?_; rintro e w' ⟨rfl, hw⟩; replace hw := hw.symm; subst hw
  go_wp2_with fail
  refine (turned_at sv4.isRw.2 _ _ _ (4 * (32 + 1) - k) _ (by omega) (by omega) (by omega) X.out (by omega)).mono ?_; rintro e w' ⟨rfl, hw⟩; replace hw := hw.symm; subst hw
  go_wp2_with fail
  refine (Cut_any sz4 _ _ t0 (by omega)).mono ?_; rintro e w' ⟨rfl, hw⟩; replace hw := hw.symm; subst hw
  go_wp2_with fail
  refine (bit_any _ _ _ t0 (by omega) (by decide) (by decide)).mono ?_; rintro e w' ⟨rfl, hw⟩; replace hw := hw.symm; subst hw
  go_wp2_with fail
  refine (Set_any _ _ _ _ f0 f1 fl1).mono ?_; rintro e w' ⟨rfl, hw⟩; replace hw := hw.symm; subst hw
  go_wp2_with fail
  refine (bit_any _ _ _ r0 (by omega) (by decide) (by decide)).mono ?_; rintro e w' ⟨rfl, hw⟩; replace hw := hw.symm; subst hw
  go_wp2_with fail
  refine (bit_any _ _ _ r0 (by omega) (by decide) (by decide)).mono ?_; rintro e w' ⟨rfl, hw⟩; replace hw := hw.symm; subst hw
  go_wp2_with fail
  refine (Set_any _ _ _ _ B.out.1 B.out.2 fl2048).mono ?_; rintro e w' ⟨rfl, hw⟩; replace hw := hw.symm; subst hw
  go_wp2
  go_ret2
  exact ⟨rfl, rfl⟩

set_option maxHeartbeats 1000000 in
theorem rot_3_32_false (x f : Int) (k : Nat) (w : World) (x0 : 0 ≤ x) (x1 : x < 4294967296) (k1 : 1 ≤ k) (k2 : k ≤ 31) (f0 : 0 ≤ f) (f1 : f < 4294967296) (hh : hasF f 1 = false) :
    Calls Try.prog 22 #[.int .i64 3, .int .u64 x, .int .i64 32, .int .i64 (k : Int), .int .u32 f] w fun e w' =>
      e = .returned (.tuple #[.int .u64 (turn (32 + 1) (x) (4 * (32 + 1) - k) % 4294967296), .int .u32 (setF (setF f 1 (tb (turn (32 + 1) (x) (4 * (32 + 1) - k)) 32)) 2048 (tb (turn (32 + 1) (x) (4 * (32 + 1) - k) % 4294967296) 31 != tb (turn (32 + 1) (x) (4 * (32 + 1) - k) % 4294967296) 30))]) ∧ w' = w := by
  have t0 := (turn_bd (32 + 1) (x) (4 * (32 + 1) - k)).1
  have t1 : turn (32 + 1) (x) (4 * (32 + 1) - k) < 8589934592 := (turn_bd (32 + 1) (x) (4 * (32 + 1) - k)).2
  have r0 : 0 ≤ turn (32 + 1) (x) (4 * (32 + 1) - k) % 4294967296 := by omega
  have r1 : turn (32 + 1) (x) (4 * (32 + 1) - k) % 4294967296 < 4294967296 := by omega
  have B : Hid _ := bd1 f0 f1 1 fl1 (tb (turn (32 + 1) (x) (4 * (32 + 1) - k)) 32)
  have X : Hid (x < ((2 ^ (32 + 1) : Nat) : Int)) := (by show x < 8589934592; omega : x < ((2 ^ (32 + 1) : Nat) : Int))
  go_enter Try.func22, Try.ntmps22
  go_wp2_with fail
  refine (Has_any _ _ _ f0 f1 fl1).mono ?_; rintro e w' ⟨rfl, hw⟩; replace hw := hw.symm; subst hw
  go_wp2_with fail
  refine (turned_at sv4.isRw.2 _ _ _ (4 * (32 + 1) - k) _ (by omega) (by omega) (by omega) X.out (by omega)).mono ?_; rintro e w' ⟨rfl, hw⟩; replace hw := hw.symm; subst hw
  go_wp2_with fail
  refine (Cut_any sz4 _ _ t0 (by omega)).mono ?_; rintro e w' ⟨rfl, hw⟩; replace hw := hw.symm; subst hw
  go_wp2_with fail
  refine (bit_any _ _ _ t0 (by omega) (by decide) (by decide)).mono ?_; rintro e w' ⟨rfl, hw⟩; replace hw := hw.symm; subst hw
  go_wp2_with fail
  refine (Set_any _ _ _ _ f0 f1 fl1).mono ?_; rintro e w' ⟨rfl, hw⟩; replace hw := hw.symm; subst hw
  go_wp2_with fail
  refine (bit_any _ _ _ r0 (by omega) (by decide) (by decide)).mono ?_; rintro e w' ⟨rfl, hw⟩; replace hw := hw.symm; subst hw
  go_wp2_with fail
  refine (bit_any _ _ _ r0 (by omega) (by decide) (by decide)).mono ?_; rintro e w' ⟨rfl, hw⟩; replace hw := hw.symm; subst hw
  go_wp2_with fail
  refine (Set_any _ _ _ _ B.out.1 B.out.2 fl2048).mono ?_; rintro e w' ⟨rfl, hw⟩; replace hw := hw.symm; subst hw
  go_wp2
  go_ret2
  exact ⟨rfl, rfl⟩

theorem rc2_false (H M : Int) (W : Nat) (x : Int) (k : Nat) : mvR 2 H M W x k false = turn (W + 1) x k % M ∧ mvC 2 H M W x k false = tb (turn (W + 1) x k) W ∧ mvV 2 H M W x k false = (tb (turn (W + 1) x k) W != tb (turn (W + 1) x k % M) (W - 1)) := by
  have e : x + flg false M = x := by simp [flg]
  show turn (W + 1) (x + flg false M) k % M = _ ∧ tb (turn (W + 1) (x + flg false M) k) W = _ ∧ (tb (turn (W + 1) (x + flg false M) k) W != tb (turn (W + 1) (x + flg false M) k % M) (W - 1)) = _
  rw [e]
  exact ⟨rfl, rfl, rfl⟩

theorem rc3_false (H M : Int) (W : Nat) (x : Int) (k : Nat) : mvR 3 H M W x k false = turn (W + 1) x (4 * (W + 1) - k) % M ∧ mvC 3 H M W x k false = tb (turn (W + 1) x (4 * (W + 1) - k)) W ∧ mvV 3 H M W x k false = (tb (turn (W + 1) x (4 * (W + 1) - k) % M) (W - 1) != tb (turn (W + 1) x (4 * (W + 1) - k) % M) (W - 2)) := by
  have e : x + flg false M = x := by simp [flg]
  show turn (W + 1) (x + flg false M) (4 * (W + 1) - k) % M = _ ∧ tb (turn (W + 1) (x + flg false M) (4 * (W + 1) - k)) W = _ ∧ (tb (turn (W + 1) (x + flg false M) (4 * (W + 1) - k) % M) (W - 1) != tb (turn (W + 1) (x + flg false M) (4 * (W + 1) - k) % M) (W - 2)) = _
  rw [e]
  exact ⟨rfl, rfl, rfl⟩

theorem rotate_ok {s H M : Int} {W : Nat} (hS : Sw s H M W) (op x f : Int) (k : Nat) (w : World) (o0 : 0 ≤ op) (o1 : op ≤ 3) (x0 : 0 ≤ x) (x1 : x < M) (k1 : 1 ≤ k) (k2 : k ≤ 31) (f0 : 0 ≤ f) (f1 : f < 4294967296) :
    Calls Try.prog 22 #[.int .i64 op, .int .u64 x, .int .i64 (W : Int), .int .i64 (k : Int), .int .u32 f] w fun e w' =>
      e = .returned (.tuple #[.int .u64 (mvR op H M W x k (tb f 0)), .int .u32 (setF (setF f 1 (mvC op H M W x k (tb f 0))) 2048 (mvV op H M W x k (tb f 0)))]) ∧ w' = w := by
  have cases : op = 0 ∨ op = 1 ∨ op = 2 ∨ op = 3 := by omega
  have hh := hasF_1 f0
  rcases hS with ⟨rfl, rfl, rfl, rfl⟩ | ⟨rfl, rfl, rfl, rfl⟩ | ⟨rfl, rfl, rfl, rfl⟩ <;> rcases cases with rfl | rfl | rfl | rfl
  · exact rot_0_8 x f k w x0 x1 k1 k2 f0 f1
  · exact rot_1_8 x f k w x0 x1 k1 k2 f0 f1
  · cases hb : tb f 0
    · have h := rot_2_8_false x f k w x0 x1 k1 k2 f0 f1 (hh.trans hb)
      have q := rc2_false 128 256 8 x k
      rw [q.1, q.2.1, q.2.2]
      exact h
    · exact rot_2_8_true x f k w x0 x1 k1 k2 f0 f1 (hh.trans hb)
  · cases hb : tb f 0
    · have h := rot_3_8_false x f k w x0 x1 k1 k2 f0 f1 (hh.trans hb)
      have q := rc3_false 128 256 8 x k
      rw [q.1, q.2.1, q.2.2]
      exact h
    · exact rot_3_8_true x f k w x0 x1 k1 k2 f0 f1 (hh.trans hb)
  · exact rot_0_16 x f k w x0 x1 k1 k2 f0 f1
  · exact rot_1_16 x f k w x0 x1 k1 k2 f0 f1
  · cases hb : tb f 0
    · have h := rot_2_16_false x f k w x0 x1 k1 k2 f0 f1 (hh.trans hb)
      have q := rc2_false 32768 65536 16 x k
      rw [q.1, q.2.1, q.2.2]
      exact h
    · exact rot_2_16_true x f k w x0 x1 k1 k2 f0 f1 (hh.trans hb)
  · cases hb : tb f 0
    · have h := rot_3_16_false x f k w x0 x1 k1 k2 f0 f1 (hh.trans hb)
      have q := rc3_false 32768 65536 16 x k
      rw [q.1, q.2.1, q.2.2]
      exact h
    · exact rot_3_16_true x f k w x0 x1 k1 k2 f0 f1 (hh.trans hb)
  · exact rot_0_32 x f k w x0 x1 k1 k2 f0 f1
  · exact rot_1_32 x f k w x0 x1 k1 k2 f0 f1
  · cases hb : tb f 0
    · have h := rot_2_32_false x f k w x0 x1 k1 k2 f0 f1 (hh.trans hb)
      have q := rc2_false 2147483648 4294967296 32 x k
      rw [q.1, q.2.1, q.2.2]
      exact h
    · exact rot_2_32_true x f k w x0 x1 k1 k2 f0 f1 (hh.trans hb)
  · cases hb : tb f 0
    · have h := rot_3_32_false x f k w x0 x1 k1 k2 f0 f1 (hh.trans hb)
      have q := rc3_false 2147483648 4294967296 32 x k
      rw [q.1, q.2.1, q.2.2]
      exact h
    · exact rot_3_32_true x f k w x0 x1 k1 k2 f0 f1 (hh.trans hb)
end Go.Proofs.Ytnfbflbghlmdjaa
