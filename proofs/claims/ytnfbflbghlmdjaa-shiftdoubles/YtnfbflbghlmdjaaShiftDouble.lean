/- The contract of shift.Double: for every input within its kinds it returns the result, the flags and the error that are named, and the world has at most new blocks. -/
import Derived.Test.YtnfbflbghlmdjaaShiftDbl
namespace Go.Proofs.Ytnfbflbghlmdjaa
open Go.ChangeShapes Go.WideShapes Go.ChangeAt Go.RowKit
set_option linter.unusedVariables false

def okDbl (s : Int) : Bool := s == 2 || s == 4

theorem Sd_of {s : Int} (h : okDbl s = true) : ∃ H M W, Sd s H M W := by
  unfold okDbl at h
  simp only [Bool.or_eq_true, beq_iff_eq] at h
  rcases h with rfl | rfl
  · exact ⟨32768, 65536, 16, Or.inl ⟨rfl, rfl, rfl, rfl⟩⟩
  · exact ⟨2147483648, 4294967296, 32, Or.inr ⟨rfl, rfl, rfl, rfl⟩⟩

theorem Double_size (l : Bool) (s a b n f : Int) (w : World) (hk : okDbl s = false) :
    Calls Try.prog 12 #[.bool l, .int .i64 s, .int .u32 a, .int .u32 b, .int .u32 n, .int .u32 f] w fun e w' =>
      e = .returned (.tuple #[.int .u32 0, .int .u32 0, .int .i64 2]) ∧ Grown w w' := by
  unfold okDbl at hk
  simp only [Bool.or_eq_false_iff] at hk
  obtain ⟨h2, h4⟩ := hk
  have g2 : (s != 2) = true := by simp only [bne, h2, Bool.not_false]
  have g4 : (s != 4) = true := by simp only [bne, h4, Bool.not_false]
  go_enter Try.func12, Try.ntmps12
  go_wp2
  go_ret3
  exact ⟨rfl, Grown.refl _⟩

theorem Double_none {s H M : Int} {W : Nat} (hS : Sd s H M W) (l : Bool) (a b n f : Int) (w : World) (a0 : 0 ≤ a) (a1 : a < 4294967296) (b0 : 0 ≤ b) (b1 : b < 4294967296) (n0 : 0 ≤ n) (n1 : n < 4294967296) (hk : n % 32 = 0) :
    Calls Try.prog 12 #[.bool l, .int .i64 s, .int .u32 a, .int .u32 b, .int .u32 n, .int .u32 f] w fun e w' =>
      e = .returned (.tuple #[.int .u32 (a % M), .int .u32 f, .int .i64 0]) ∧ Grown w w' := by
  have hwa : IntKind.u64.wrap a = a := by rw [wrap_u64']; omega
  have hwb : IntKind.u64.wrap b = b := by rw [wrap_u64']; omega
  have hS' : Hid (Sw s H M W) := hS.sw
  rcases hS with ⟨rfl, rfl, rfl, rfl⟩ | ⟨rfl, rfl, rfl, rfl⟩
  all_goals
    go_enter Try.func12, Try.ntmps12
    go_wp2_with (first
      | (go_at_call 15; refine (cut_any hS'.out _ _ (by omega) (by omega)).mono ?_; rintro e w1 ⟨rfl, hw⟩; replace hw := hw.symm; subst hw)
      | (go_at_call 16; refine (lowFive_any _ _ n0 n1).mono ?_; rintro e w1 ⟨rfl, hw⟩; replace hw := hw.symm; subst hw))
    go_wp2
    go_ret3
    exact ⟨rfl, Grown.refl _⟩

set_option maxRecDepth 20000 in
set_option maxHeartbeats 1000000 in
theorem Double_16_true (a b n f : Int) (k : Nat) (w : World) (a0 : 0 ≤ a) (a1 : a < 4294967296) (b0 : 0 ≤ b) (b1 : b < 4294967296) (n0 : 0 ≤ n) (n1 : n < 4294967296) (f0 : 0 ≤ f) (f1 : f < 4294967296) (hk : n % 32 = (k : Int)) (k1 : 1 ≤ k) :
    Calls Try.prog 12 #[.bool true, .int .i64 2, .int .u32 a, .int .u32 b, .int .u32 n, .int .u32 f] w fun e w' =>
      e = .returned (.tuple #[.int .u32 (dR true 16 (a % 65536) (b % 65536) k), .int .u32 (dF true 32768 16 (a % 65536) (b % 65536) k f), .int .i64 0]) ∧ Grown w w' := by
  have hS : Sw 2 32768 65536 16 := Or.inr (Or.inl ⟨rfl, rfl, rfl, rfl⟩)
  have x0 : 0 ≤ a % 65536 := by omega
  have x1 : a % 65536 < 65536 := by omega
  have y0 : 0 ≤ b % 65536 := by omega
  have y1 : b % 65536 < 65536 := by omega
  have k2 : k ≤ 31 := by omega
  have hwa : IntKind.u64.wrap a = a := by rw [wrap_u64']; omega
  have hwb : IntKind.u64.wrap b = b := by rw [wrap_u64']; omega
  have nk : ((k : Int) == 0) = false := by simp; omega
  have HR : Hid (0 ≤ dR true 16 (a % 65536) (b % 65536) k ∧ dR true 16 (a % 65536) (b % 65536) k < 65536) := dR_bd _ _ _ _ _
  have HB : Hid _ := bd2 f0 f1 1 2048 fl1 fl2048 (dC true 16 (a % 65536) (b % 65536) k) (dV true 16 (a % 65536) (b % 65536) k)
  go_enter Try.func12, Try.ntmps12
  go_wp2_with (first
    | (go_at_call 15; refine (cut_any hS _ _ (by omega) (by omega)).mono ?_; rintro e w1 ⟨rfl, hw⟩; replace hw := hw.symm; subst hw)
    | (go_at_call 16; refine (lowFive_any _ _ n0 n1).mono ?_; rintro e w1 ⟨rfl, hw⟩; replace hw := hw.symm; subst hw))
  go_wp2_with (first
    | (go_at_call 24; refine (doubleRight_16 _ _ k _ x0 x1 y0 y1 k1 k2).mono ?_; rintro e w1 ⟨rfl, hw⟩; replace hw := hw.symm; subst hw)
    | (go_at_call 25; refine (doubleLeft_16 _ _ k _ x0 x1 y0 y1 k1 k2).mono ?_; rintro e w1 ⟨rfl, hw⟩; replace hw := hw.symm; subst hw))
  go_region_held3 (fun w' => w'.cell? ⟨w.heap.size + 1 + 1, 0, none⟩ = some (.int .u32 (dR true 16 (a % 65536) (b % 65536) k)) ∧ w'.cell? ⟨w.heap.size + 1 + 1, 1, none⟩ = some (.int .u32 (flg (dC true 16 (a % 65536) (b % 65536) k) 1)) ∧ w'.cell? ⟨w.heap.size + 1 + 1, 2, none⟩ = some (.int .u32 (flg (dV true 16 (a % 65536) (b % 65536) k) 1)))
    (simp [go_sem])
    ((first
    | (go_at_call 18; refine (marked_at _ _ _ _ _ f0 f1).mono ?_; rintro e w1 ⟨rfl, hw⟩; replace hw := hw.symm; subst hw)
    | (go_at_call 19; refine (byResult_any hS _ _ _ HR.out.1 HR.out.2 HB.out.1 HB.out.2).mono ?_; rintro e w1 ⟨rfl, hw⟩; replace hw := hw.symm; subst hw)))
  go_wp2
  go_ret3
  refine ⟨rfl, ?_⟩
  repeat (first | exact Grown.refl _ | apply Grown.drew | apply Grown.alloc)

set_option maxRecDepth 20000 in
set_option maxHeartbeats 1000000 in
theorem Double_16_false (a b n f : Int) (k : Nat) (w : World) (a0 : 0 ≤ a) (a1 : a < 4294967296) (b0 : 0 ≤ b) (b1 : b < 4294967296) (n0 : 0 ≤ n) (n1 : n < 4294967296) (f0 : 0 ≤ f) (f1 : f < 4294967296) (hk : n % 32 = (k : Int)) (k1 : 1 ≤ k) :
    Calls Try.prog 12 #[.bool false, .int .i64 2, .int .u32 a, .int .u32 b, .int .u32 n, .int .u32 f] w fun e w' =>
      e = .returned (.tuple #[.int .u32 (dR false 16 (a % 65536) (b % 65536) k), .int .u32 (dF false 32768 16 (a % 65536) (b % 65536) k f), .int .i64 0]) ∧ Grown w w' := by
  have hS : Sw 2 32768 65536 16 := Or.inr (Or.inl ⟨rfl, rfl, rfl, rfl⟩)
  have x0 : 0 ≤ a % 65536 := by omega
  have x1 : a % 65536 < 65536 := by omega
  have y0 : 0 ≤ b % 65536 := by omega
  have y1 : b % 65536 < 65536 := by omega
  have k2 : k ≤ 31 := by omega
  have hwa : IntKind.u64.wrap a = a := by rw [wrap_u64']; omega
  have hwb : IntKind.u64.wrap b = b := by rw [wrap_u64']; omega
  have nk : ((k : Int) == 0) = false := by simp; omega
  have HR : Hid (0 ≤ dR false 16 (a % 65536) (b % 65536) k ∧ dR false 16 (a % 65536) (b % 65536) k < 65536) := dR_bd _ _ _ _ _
  have HB : Hid _ := bd2 f0 f1 1 2048 fl1 fl2048 (dC false 16 (a % 65536) (b % 65536) k) (dV false 16 (a % 65536) (b % 65536) k)
  go_enter Try.func12, Try.ntmps12
  go_wp2_with (first
    | (go_at_call 15; refine (cut_any hS _ _ (by omega) (by omega)).mono ?_; rintro e w1 ⟨rfl, hw⟩; replace hw := hw.symm; subst hw)
    | (go_at_call 16; refine (lowFive_any _ _ n0 n1).mono ?_; rintro e w1 ⟨rfl, hw⟩; replace hw := hw.symm; subst hw))
  go_wp2_with (first
    | (go_at_call 24; refine (doubleRight_16 _ _ k _ x0 x1 y0 y1 k1 k2).mono ?_; rintro e w1 ⟨rfl, hw⟩; replace hw := hw.symm; subst hw)
    | (go_at_call 25; refine (doubleLeft_16 _ _ k _ x0 x1 y0 y1 k1 k2).mono ?_; rintro e w1 ⟨rfl, hw⟩; replace hw := hw.symm; subst hw))
  go_region_held3 (fun w' => w'.cell? ⟨w.heap.size + 1 + 1, 0, none⟩ = some (.int .u32 (dR false 16 (a % 65536) (b % 65536) k)) ∧ w'.cell? ⟨w.heap.size + 1 + 1, 1, none⟩ = some (.int .u32 (flg (dC false 16 (a % 65536) (b % 65536) k) 1)) ∧ w'.cell? ⟨w.heap.size + 1 + 1, 2, none⟩ = some (.int .u32 (flg (dV false 16 (a % 65536) (b % 65536) k) 1)))
    (simp [go_sem])
    ((first
    | (go_at_call 18; refine (marked_at _ _ _ _ _ f0 f1).mono ?_; rintro e w1 ⟨rfl, hw⟩; replace hw := hw.symm; subst hw)
    | (go_at_call 19; refine (byResult_any hS _ _ _ HR.out.1 HR.out.2 HB.out.1 HB.out.2).mono ?_; rintro e w1 ⟨rfl, hw⟩; replace hw := hw.symm; subst hw)))
  go_wp2
  go_ret3
  refine ⟨rfl, ?_⟩
  repeat (first | exact Grown.refl _ | apply Grown.drew | apply Grown.alloc)

set_option maxRecDepth 20000 in
set_option maxHeartbeats 1000000 in
theorem Double_32_true (a b n f : Int) (k : Nat) (w : World) (a0 : 0 ≤ a) (a1 : a < 4294967296) (b0 : 0 ≤ b) (b1 : b < 4294967296) (n0 : 0 ≤ n) (n1 : n < 4294967296) (f0 : 0 ≤ f) (f1 : f < 4294967296) (hk : n % 32 = (k : Int)) (k1 : 1 ≤ k) :
    Calls Try.prog 12 #[.bool true, .int .i64 4, .int .u32 a, .int .u32 b, .int .u32 n, .int .u32 f] w fun e w' =>
      e = .returned (.tuple #[.int .u32 (dR true 32 (a % 4294967296) (b % 4294967296) k), .int .u32 (dF true 2147483648 32 (a % 4294967296) (b % 4294967296) k f), .int .i64 0]) ∧ Grown w w' := by
  have hS : Sw 4 2147483648 4294967296 32 := Or.inr (Or.inr ⟨rfl, rfl, rfl, rfl⟩)
  have x0 : 0 ≤ a % 4294967296 := by omega
  have x1 : a % 4294967296 < 4294967296 := by omega
  have y0 : 0 ≤ b % 4294967296 := by omega
  have y1 : b % 4294967296 < 4294967296 := by omega
  have k2 : k ≤ 31 := by omega
  have hwa : IntKind.u64.wrap a = a := by rw [wrap_u64']; omega
  have hwb : IntKind.u64.wrap b = b := by rw [wrap_u64']; omega
  have nk : ((k : Int) == 0) = false := by simp; omega
  have HR : Hid (0 ≤ dR true 32 (a % 4294967296) (b % 4294967296) k ∧ dR true 32 (a % 4294967296) (b % 4294967296) k < 4294967296) := dR_bd _ _ _ _ _
  have HB : Hid _ := bd2 f0 f1 1 2048 fl1 fl2048 (dC true 32 (a % 4294967296) (b % 4294967296) k) (dV true 32 (a % 4294967296) (b % 4294967296) k)
  go_enter Try.func12, Try.ntmps12
  go_wp2_with (first
    | (go_at_call 15; refine (cut_any hS _ _ (by omega) (by omega)).mono ?_; rintro e w1 ⟨rfl, hw⟩; replace hw := hw.symm; subst hw)
    | (go_at_call 16; refine (lowFive_any _ _ n0 n1).mono ?_; rintro e w1 ⟨rfl, hw⟩; replace hw := hw.symm; subst hw))
  go_wp2_with (first
    | (go_at_call 24; refine (doubleRight_32 _ _ k _ x0 x1 y0 y1 k1 k2).mono ?_; rintro e w1 ⟨rfl, hw⟩; replace hw := hw.symm; subst hw)
    | (go_at_call 25; refine (doubleLeft_32 _ _ k _ x0 x1 y0 y1 k1 k2).mono ?_; rintro e w1 ⟨rfl, hw⟩; replace hw := hw.symm; subst hw))
  go_region_held3 (fun w' => w'.cell? ⟨w.heap.size + 1 + 1, 0, none⟩ = some (.int .u32 (dR true 32 (a % 4294967296) (b % 4294967296) k)) ∧ w'.cell? ⟨w.heap.size + 1 + 1, 1, none⟩ = some (.int .u32 (flg (dC true 32 (a % 4294967296) (b % 4294967296) k) 1)) ∧ w'.cell? ⟨w.heap.size + 1 + 1, 2, none⟩ = some (.int .u32 (flg (dV true 32 (a % 4294967296) (b % 4294967296) k) 1)))
    (simp [go_sem])
    ((first
    | (go_at_call 18; refine (marked_at _ _ _ _ _ f0 f1).mono ?_; rintro e w1 ⟨rfl, hw⟩; replace hw := hw.symm; subst hw)
    | (go_at_call 19; refine (byResult_any hS _ _ _ HR.out.1 HR.out.2 HB.out.1 HB.out.2).mono ?_; rintro e w1 ⟨rfl, hw⟩; replace hw := hw.symm; subst hw)))
  go_wp2
  go_ret3
  refine ⟨rfl, ?_⟩
  repeat (first | exact Grown.refl _ | apply Grown.drew | apply Grown.alloc)

set_option maxRecDepth 20000 in
set_option maxHeartbeats 1000000 in
theorem Double_32_false (a b n f : Int) (k : Nat) (w : World) (a0 : 0 ≤ a) (a1 : a < 4294967296) (b0 : 0 ≤ b) (b1 : b < 4294967296) (n0 : 0 ≤ n) (n1 : n < 4294967296) (f0 : 0 ≤ f) (f1 : f < 4294967296) (hk : n % 32 = (k : Int)) (k1 : 1 ≤ k) :
    Calls Try.prog 12 #[.bool false, .int .i64 4, .int .u32 a, .int .u32 b, .int .u32 n, .int .u32 f] w fun e w' =>
      e = .returned (.tuple #[.int .u32 (dR false 32 (a % 4294967296) (b % 4294967296) k), .int .u32 (dF false 2147483648 32 (a % 4294967296) (b % 4294967296) k f), .int .i64 0]) ∧ Grown w w' := by
  have hS : Sw 4 2147483648 4294967296 32 := Or.inr (Or.inr ⟨rfl, rfl, rfl, rfl⟩)
  have x0 : 0 ≤ a % 4294967296 := by omega
  have x1 : a % 4294967296 < 4294967296 := by omega
  have y0 : 0 ≤ b % 4294967296 := by omega
  have y1 : b % 4294967296 < 4294967296 := by omega
  have k2 : k ≤ 31 := by omega
  have hwa : IntKind.u64.wrap a = a := by rw [wrap_u64']; omega
  have hwb : IntKind.u64.wrap b = b := by rw [wrap_u64']; omega
  have nk : ((k : Int) == 0) = false := by simp; omega
  have HR : Hid (0 ≤ dR false 32 (a % 4294967296) (b % 4294967296) k ∧ dR false 32 (a % 4294967296) (b % 4294967296) k < 4294967296) := dR_bd _ _ _ _ _
  have HB : Hid _ := bd2 f0 f1 1 2048 fl1 fl2048 (dC false 32 (a % 4294967296) (b % 4294967296) k) (dV false 32 (a % 4294967296) (b % 4294967296) k)
  go_enter Try.func12, Try.ntmps12
  go_wp2_with (first
    | (go_at_call 15; refine (cut_any hS _ _ (by omega) (by omega)).mono ?_; rintro e w1 ⟨rfl, hw⟩; replace hw := hw.symm; subst hw)
    | (go_at_call 16; refine (lowFive_any _ _ n0 n1).mono ?_; rintro e w1 ⟨rfl, hw⟩; replace hw := hw.symm; subst hw))
  go_wp2_with (first
    | (go_at_call 24; refine (doubleRight_32 _ _ k _ x0 x1 y0 y1 k1 k2).mono ?_; rintro e w1 ⟨rfl, hw⟩; replace hw := hw.symm; subst hw)
    | (go_at_call 25; refine (doubleLeft_32 _ _ k _ x0 x1 y0 y1 k1 k2).mono ?_; rintro e w1 ⟨rfl, hw⟩; replace hw := hw.symm; subst hw))
  go_region_held3 (fun w' => w'.cell? ⟨w.heap.size + 1 + 1, 0, none⟩ = some (.int .u32 (dR false 32 (a % 4294967296) (b % 4294967296) k)) ∧ w'.cell? ⟨w.heap.size + 1 + 1, 1, none⟩ = some (.int .u32 (flg (dC false 32 (a % 4294967296) (b % 4294967296) k) 1)) ∧ w'.cell? ⟨w.heap.size + 1 + 1, 2, none⟩ = some (.int .u32 (flg (dV false 32 (a % 4294967296) (b % 4294967296) k) 1)))
    (simp [go_sem])
    ((first
    | (go_at_call 18; refine (marked_at _ _ _ _ _ f0 f1).mono ?_; rintro e w1 ⟨rfl, hw⟩; replace hw := hw.symm; subst hw)
    | (go_at_call 19; refine (byResult_any hS _ _ _ HR.out.1 HR.out.2 HB.out.1 HB.out.2).mono ?_; rintro e w1 ⟨rfl, hw⟩; replace hw := hw.symm; subst hw)))
  go_wp2
  go_ret3
  refine ⟨rfl, ?_⟩
  repeat (first | exact Grown.refl _ | apply Grown.drew | apply Grown.alloc)

theorem Double_ok {s H M : Int} {W : Nat} (hS : Sd s H M W) (l : Bool) (a b n f : Int) (k : Nat) (w : World) (a0 : 0 ≤ a) (a1 : a < 4294967296) (b0 : 0 ≤ b) (b1 : b < 4294967296) (n0 : 0 ≤ n) (n1 : n < 4294967296) (f0 : 0 ≤ f) (f1 : f < 4294967296) (hk : n % 32 = (k : Int)) (k1 : 1 ≤ k) :
    Calls Try.prog 12 #[.bool l, .int .i64 s, .int .u32 a, .int .u32 b, .int .u32 n, .int .u32 f] w fun e w' =>
      e = .returned (.tuple #[.int .u32 (dR l W (a % M) (b % M) k), .int .u32 (dF l H W (a % M) (b % M) k f), .int .i64 0]) ∧ Grown w w' := by
  rcases hS with ⟨rfl, rfl, rfl, rfl⟩ | ⟨rfl, rfl, rfl, rfl⟩ <;> cases l
  · exact Double_16_false a b n f k w a0 a1 b0 b1 n0 n1 f0 f1 hk k1
  · exact Double_16_true a b n f k w a0 a1 b0 b1 n0 n1 f0 f1 hk k1
  · exact Double_32_false a b n f k w a0 a1 b0 b1 n0 n1 f0 f1 hk k1
  · exact Double_32_true a b n f k w a0 a1 b0 b1 n0 n1 f0 f1 hk k1
end Go.Proofs.Ytnfbflbghlmdjaa
