/- The contracts of a chip's functions. -/
import Derived.Test.YtfpgijdfbgfkcaaPcBase
namespace Go.Proofs.Ytfpgijdfbgfkcaa
open Go.ChangeShapes Go.WideShapes Go.ChangeAt Go.RowKit
set_option linter.unusedVariables false

theorem wrap_i64' (n : Int) : IntKind.i64.wrap n = (n + 9223372036854775808) % 18446744073709551616 - 9223372036854775808 := by
  simp [IntKind.wrap, IntKind.bits, IntKind.signed]
  have := Int.bmod_def n 18446744073709551616
  omega

theorem tz_any (w : World) (x : Int) (h : By x) : Calls Try.prog 42 #[.int .u8 x] w fun e w' => e = .returned (.int .i64 (tz x)) ∧ w' = w := by
  obtain ⟨h0, h1⟩ := h
  have h1' : x ≤ 255 := by omega
  have e := Lib.ntz8_int x h0 (by omega)
  have e' : wrap64 (Lib.ntz8 x) = tz x := by
    unfold tz
    rw [← e]
    unfold wrap64
    omega
  go_enter Try.func42, Try.ntmps42
  go_wp2
  go_ret
  exact ⟨ret_int e', rfl⟩

theorem and8_7' : ∀ n : Fin 256, bits .and .u8 (n.val : Int) 7 = (n.val : Int) % 8 := by decide +kernel
theorem and8_7 {v : Int} (v0 : 0 ≤ v) (v1 : v < 256) : bits .and .u8 v 7 = v % 8 := by
  have := and8_7' ⟨v.toNat, by omega⟩
  simp only [Int.toNat_of_nonneg v0] at this
  exact this

theorem not8_7' : ∀ n : Fin 256, bits .andNot .u8 (n.val : Int) 7 = (n.val : Int) - (n.val : Int) % 8 := by decide +kernel
theorem not8_7 {v : Int} (v0 : 0 ≤ v) (v1 : v < 256) : bits .andNot .u8 v 7 = v - v % 8 := by
  have := not8_7' ⟨v.toNat, by omega⟩
  simp only [Int.toNat_of_nonneg v0] at this
  exact this

theorem or8_7' : ∀ n : Fin 32, bits .or .u8 (8 * (n.val : Int)) 7 = 8 * (n.val : Int) + 7 := by decide +kernel
theorem or8_7 {v : Int} (h : By v) (h8 : v % 8 = 0) : bits .or .u8 v 7 = v + 7 := by
  obtain ⟨v0, v1⟩ := h
  have := or8_7' ⟨(v / 8).toNat, by omega⟩
  have e : ((v / 8).toNat : Int) = v / 8 := by omega
  have e' : 8 * (v / 8) = v := by omega
  simp only [e, e'] at this
  exact this

theorem or64_n' : ∀ n : Fin 32, ∀ k : Fin 8, bits .or .i64 (8 * (n.val : Int)) (k.val : Int) = 8 * (n.val : Int) + (k.val : Int) := by decide +kernel
theorem or64_n {v n : Int} (h : By v) (h8 : v % 8 = 0) (n0 : 0 ≤ n) (n1 : n < 8) : bits .or .i64 v n = v + n := by
  obtain ⟨v0, v1⟩ := h
  have := or64_n' ⟨(v / 8).toNat, by omega⟩ ⟨n.toNat, by omega⟩
  have e : ((v / 8).toNat : Int) = v / 8 := by omega
  have e' : 8 * (v / 8) = v := by omega
  have e2 : (n.toNat : Int) = n := by omega
  simp only [e, e', e2] at this
  exact this

theorem pw_mod {n : Int} (n0 : 0 ≤ n) (n1 : n < 8) : (2 : Int) ^ n.toNat % 256 = pw n := by
  have h := by_pw n0 n1
  have e : pw n = (2 : Int) ^ n.toNat := by unfold pw; simp
  rw [← e]
  obtain ⟨h0, h1⟩ := h
  omega

theorem setUp_any (w : World) (v : Int) : Calls Try.prog 40 #[.int .u8 v] w fun e w' => e = .returned (.int .u8 (setUpD v)) ∧ w' = w := by
  unfold setUpD
  have h2 : (bits .and .u8 v 2 == 0) = !bt v 2 := by unfold bt; simp [bne]
  have h1 : (bits .and .u8 v 1 != 0) = bt v 1 := rfl
  cases e2 : bt v 2 <;> cases e1 : bt v 1
  all_goals
    rw [e2] at h2
    rw [e1] at h1
    go_enter Try.func40, Try.ntmps40
    go_wp2
    go_ret
    exact ⟨ret_int (by decide), rfl⟩


theorem next_a (w : World) (B : Nat) (m : M2) (h : PAt w B m) (k : m.a.Ok) : Calls Try.prog 35 #[.pointer (some ⟨B, 0, none⟩)] w fun e w' => e = .returned (.int .i64 m.a.next) ∧ Kp noB w w' := by
  have k1 : Hid (∀ w, _) := fun w => tz_any w _ (by_andNot k.asks k.msk)
  have k2 : Hid (∀ w, _) := fun w => tz_any w _ k.srv
  have c1 := h.c1
  have c2 := h.c2
  have c3 := h.c3
  have b1 := tz_bd (by_andNot k.asks k.msk)
  have b2 := tz_bd k.srv
  obtain ⟨N, hN⟩ : ∃ N, N = m.a.next := ⟨_, rfl⟩
  rw [← hN]
  unfold Ch.next nextZ at hN
  obtain ⟨t1, ht1⟩ : ∃ t, t = tz (bits .andNot .u8 m.a.asks m.a.msk) := ⟨_, rfl⟩
  obtain ⟨t2, ht2⟩ : ∃ t, t = tz m.a.srv := ⟨_, rfl⟩
  rw [← ht1] at k1 b1 hN
  rw [← ht2] at k2 b2 hN
  clear ht1 ht2
  obtain ⟨b1, b1'⟩ := b1
  obtain ⟨b2, b2'⟩ := b2
  by_cases g : t2 ≤ t1
  · rw [if_pos g] at hN
    subst hN
    go_enter Try.func35, Try.ntmps35
    go_wp2
    go_quiet ((go_at_call 42; exact Calls.quiet_of_same (k1.out _)))
    go_wp2_with fail
    refine (k2.out _).mono ?_; rintro e w1 ⟨rfl, hw⟩; replace hw := hw.symm; subst hw
    go_wp2
    go_ret
    exact ⟨rfl, (Kp.refl _ _).drewN _⟩
  · have g' : decide (t1 ≥ t2) = false := by simp; omega
    rw [if_neg g] at hN
    subst hN
    go_enter Try.func35, Try.ntmps35
    go_wp2
    go_quiet ((go_at_call 42; exact Calls.quiet_of_same (k1.out _)))
    go_wp2_with fail
    refine (k2.out _).mono ?_; rintro e w1 ⟨rfl, hw⟩; replace hw := hw.symm; subst hw
    go_wp2
    go_ret
    exact ⟨rfl, (Kp.refl _ _).drewN _⟩

theorem next_b (w : World) (B : Nat) (m : M2) (h : PAt w B m) (k : m.b.Ok) : Calls Try.prog 35 #[.pointer (some ⟨B, 8, none⟩)] w fun e w' => e = .returned (.int .i64 m.b.next) ∧ Kp noB w w' := by
  have k1 : Hid (∀ w, _) := fun w => tz_any w _ (by_andNot k.asks k.msk)
  have k2 : Hid (∀ w, _) := fun w => tz_any w _ k.srv
  have c1 := h.c9
  have c2 := h.c10
  have c3 := h.c11
  have b1 := tz_bd (by_andNot k.asks k.msk)
  have b2 := tz_bd k.srv
  obtain ⟨N, hN⟩ : ∃ N, N = m.b.next := ⟨_, rfl⟩
  rw [← hN]
  unfold Ch.next nextZ at hN
  obtain ⟨t1, ht1⟩ : ∃ t, t = tz (bits .andNot .u8 m.b.asks m.b.msk) := ⟨_, rfl⟩
  obtain ⟨t2, ht2⟩ : ∃ t, t = tz m.b.srv := ⟨_, rfl⟩
  rw [← ht1] at k1 b1 hN
  rw [← ht2] at k2 b2 hN
  clear ht1 ht2
  obtain ⟨b1, b1'⟩ := b1
  obtain ⟨b2, b2'⟩ := b2
  by_cases g : t2 ≤ t1
  · rw [if_pos g] at hN
    subst hN
    go_enter Try.func35, Try.ntmps35
    go_wp2
    go_quiet ((go_at_call 42; exact Calls.quiet_of_same (k1.out _)))
    go_wp2_with fail
    refine (k2.out _).mono ?_; rintro e w1 ⟨rfl, hw⟩; replace hw := hw.symm; subst hw
    go_wp2
    go_ret
    exact ⟨rfl, (Kp.refl _ _).drewN _⟩
  · have g' : decide (t1 ≥ t2) = false := by simp; omega
    rw [if_neg g] at hN
    subst hN
    go_enter Try.func35, Try.ntmps35
    go_wp2
    go_quiet ((go_at_call 42; exact Calls.quiet_of_same (k1.out _)))
    go_wp2_with fail
    refine (k2.out _).mono ?_; rintro e w1 ⟨rfl, hw⟩; replace hw := hw.symm; subst hw
    go_wp2
    go_ret
    exact ⟨rfl, (Kp.refl _ _).drewN _⟩

theorem shown_a (w : World) (B : Nat) (m : M2) (h : PAt w B m) : Calls Try.prog 29 #[.pointer (some ⟨B, 0, none⟩)] w fun e w' => e = .returned (.int .u8 m.a.shown) ∧ w' = w := by
  have c1 := h.c1
  have c2 := h.c2
  have c6 := h.c6
  unfold Ch.shown
  cases e6 : m.a.sh
  all_goals
    rw [e6] at c6
    go_enter Try.func29, Try.ntmps29
    go_wp2
    go_ret
    exact ⟨rfl, rfl⟩

theorem shown_b (w : World) (B : Nat) (m : M2) (h : PAt w B m) : Calls Try.prog 29 #[.pointer (some ⟨B, 8, none⟩)] w fun e w' => e = .returned (.int .u8 m.b.shown) ∧ w' = w := by
  have c1 := h.c9
  have c2 := h.c10
  have c6 := h.c14
  unfold Ch.shown
  cases e6 : m.b.sh
  all_goals
    rw [e6] at c6
    go_enter Try.func29, Try.ntmps29
    go_wp2
    go_ret
    exact ⟨rfl, rfl⟩

end Go.Proofs.Ytfpgijdfbgfkcaa
