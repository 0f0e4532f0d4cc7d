/- What the modes' functions answer; the counters' small functions. -/
import Derived.Test.YteodnlloilmoaaaPtMap
namespace Go.Proofs.Yteodnlloilmoaaa
open Go.ChangeShapes Go.WideShapes Go.ChangeAt Go.RowKit
set_option linter.unusedVariables false

theorem rem_bd {l n : Int} (l0 : 1 ≤ l) : 0 ≤ n % l ∧ n % l < l := ⟨Int.emod_nonneg _ (by omega), Int.emod_lt_of_pos _ (by omega)⟩

theorem left_any (w : World) (l n : Int) (l0 : 1 ≤ l) (l1 : l ≤ 65536) (n0 : 0 ≤ n) : Calls Try.prog 31 #[.int .u64 l, .int .u64 n] w fun e w' => e = .returned (.int .u64 (l - n % l)) ∧ w' = w := by
  have h : (l == 0) = false := by simp; omega
  have r := rem_bd (n := n) l0
  go_enter Try.func31, Try.ntmps31
  go_wp2
  go_ret
  exact ⟨ret_int (by omega), rfl⟩

theorem val0_any (w : World) (l n : Int) : Calls Try.prog 32 #[.int .u64 l, .int .u64 n] w fun e w' => e = .returned (.int .u64 ((l - n) % 18446744073709551616)) ∧ w' = w := by
  go_enter Try.func32, Try.ntmps32
  go_wp2
  go_ret
  exact ⟨rfl, rfl⟩

theorem line0_any (w : World) (l n : Int) : Calls Try.prog 33 #[.int .u64 l, .int .u64 n] w fun e w' => e = .returned (.bool (decide (l ≤ n))) ∧ w' = w := by
  go_enter Try.func33, Try.ntmps33
  go_wp2
  go_ret
  exact ⟨rfl, rfl⟩

theorem line2_any (w : World) (l n : Int) (b : Nat) (hb : w.cell? ⟨b, 0, none⟩ = some fL) (l0 : 1 ≤ l) (l1 : l ≤ 65536) (n0 : 0 ≤ n) : Calls Try.prog 34 #[.int .u64 l, .int .u64 n, .pointer (some ⟨b, 0, none⟩)] w fun e w' => e = .returned (.bool (n % l != l - 1)) ∧ w' = w := by
  have H : Hid _ := left_any w l n l0 l1 n0
  have r := rem_bd (n := n) l0
  have e1 : (l - n % l != 1) = (n % l != l - 1) := by
    by_cases e : n % l = l - 1
    · rw [e]; simp; omega
    · have e' : ¬ l - n % l = 1 := by omega
      rw [bne, bne, beq_false_of_ne e', beq_false_of_ne e]
  unfold fL at hb
  go_enter Try.func34, Try.ntmps34
  go_wp2_with fail
  refine Calls.mono H.out ?_; rintro e w1 ⟨rfl, hw⟩; replace hw := hw.symm; subst hw
  go_wp2
  go_ret
  exact ⟨rfl, rfl⟩

theorem line3_any (w : World) (l n : Int) (l0 : 1 ≤ l) (l1 : l ≤ 65536) (n0 : 0 ≤ n) : Calls Try.prog 35 #[.int .u64 l, .int .u64 n] w fun e w' => e = .returned (.bool (decide (n % l < (l + 1) / 2))) ∧ w' = w := by
  have h : (l == 0) = false := by simp; omega
  have r := rem_bd (n := n) l0
  go_enter Try.func35, Try.ntmps35
  go_wp2
  go_ret
  exact ⟨ret_bool (by congr 1), rfl⟩

section
variable {w : World} {B o : Nat} {f : Nat → Cn} {i : Nat} {c : Cn}

theorem whole_ok (h : CAt w B o f i c) (l1 : 0 ≤ c.len ∧ c.len < 65536) : Calls Try.prog 30 #[.pointer (some ⟨B, o, none⟩)] w fun e w' => e = .returned (.int .u64 c.whole) ∧ w' = w := by
  have c2 := h.c2
  obtain ⟨l0, l1⟩ := l1
  unfold Cn.whole
  by_cases e : c.len = 0
  · rw [if_pos e]
    rw [e] at c2
    go_enter Try.func30, Try.ntmps30
    go_wp2
    go_ret
    exact ⟨rfl, rfl⟩
  · rw [if_neg e]
    have e' : (c.len == 0) = false := by simp [e]
    go_enter Try.func30, Try.ntmps30
    go_wp2
    go_ret
    exact ⟨ret_int (by omega), rfl⟩

theorem begin_ok (h : CAt w B o f i c) (l now : Int) : Calls Try.prog 27 #[.pointer (some ⟨B, o, none⟩), .int .u16 l, .int .u64 now] w fun e w' => e = .returned (.tuple #[]) ∧ CAt w' B o f i (c.begin l now) ∧ Kp (isB B) w w' := by
  have c2 := h.c2
  have c3 := h.c3
  have c4 := h.c4
  have z2 := h.fz (o + 2)
  have z3 := h.fz (o + 3)
  have z4 := h.fz (o + 4)
  go_enter Try.func27, Try.ntmps27
  go_wp2
  go_end0
  exact ⟨rfl, ((h.set (k := 2) (by decide) _ { c with len := l } rfl).set (k := 3) (by decide) _ { c with len := l, began := now } rfl).set (k := 4) (by decide) _ (c.begin l now) rfl, ((kpB B w _ _).trans (kpB B _ _ _)).trans (kpB B _ _ _)⟩
end

theorem has_ok (w : World) (a : Addr) (p : Int) (p0 : 0 ≤ p) (p1 : p ≤ 3) : Calls Try.prog 18 #[.pointer (some a), .int .i64 p] w fun e w' => e = .returned (.bool true) ∧ w' = w := by
  have d0 : decide (0 ≤ p) = true := by simp [p0]
  have d1 : decide (p ≤ 3) = true := by simp [p1]
  go_enter Try.func18, Try.ntmps18
  go_wp2
  go_ret
  exact ⟨rfl, rfl⟩

theorem has_no (w : World) (x : Option Addr) (p : Int) (h : x = none ∨ p < 0 ∨ 4 ≤ p) : Calls Try.prog 18 #[.pointer x, .int .i64 p] w fun e w' => e = .returned (.bool false) ∧ w' = w := by
  cases x with
  | none =>
    go_enter Try.func18, Try.ntmps18
    go_wp2
    go_ret
    exact ⟨rfl, rfl⟩
  | some a =>
    by_cases g : p < 0
    · have d0 : decide (0 ≤ p) = false := by simp; omega
      go_enter Try.func18, Try.ntmps18
      go_wp2
      go_ret
      exact ⟨rfl, rfl⟩
    · have d0 : decide (0 ≤ p) = true := by simp; omega
      have d1 : decide (p ≤ 3) = false := by
        rcases h with h | h | h
        · cases h
        · omega
        · simp; omega
      go_enter Try.func18, Try.ntmps18
      go_wp2
      go_ret
      exact ⟨rfl, rfl⟩
end Go.Proofs.Yteodnlloilmoaaa
