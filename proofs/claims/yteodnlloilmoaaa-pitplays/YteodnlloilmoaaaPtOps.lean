/- The contracts of the timer's calls: command, Out, In. -/
import Derived.Test.YteodnlloilmoaaaPtRead
namespace Go.Proofs.Yteodnlloilmoaaa
open Go.ChangeShapes Go.WideShapes Go.ChangeAt Go.RowKit
set_option linter.unusedVariables false

theorem and8_3' : ∀ n : Fin 256, bits .and .u8 (n.val : Int) 3 = (n.val : Int) % 4 := by decide +kernel
theorem and8_3 {v : Int} (v0 : 0 ≤ v) (v1 : v < 256) : bits .and .u8 v 3 = v % 4 := by
  have := and8_3' ⟨v.toNat, by omega⟩
  simp only [Int.toNat_of_nonneg v0] at this
  exact this
theorem and8_7' : ∀ n : Fin 256, bits .and .u8 (n.val : Int) 7 = (n.val : Int) % 8 := by decide +kernel
theorem and8_7 {v : Int} (v0 : 0 ≤ v) (v1 : v < 256) : bits .and .u8 v 7 = v % 8 := by
  have := and8_7' ⟨v.toNat, by omega⟩
  simp only [Int.toNat_of_nonneg v0] at this
  exact this

theorem PAt.at {w : World} {B : Nat} {f : Nat → Cn} (h : PAt w B f) (i o : Nat) (hi : i < 3) (ho : o = 10 * i) : CAt w B o f i (f i) := ⟨by rw [upd_self]; exact h, hi, ho⟩

section
variable {w : World} {B : Nat} {f : Nat → Cn}

theorem cmd_3 (h : PAt w B f) (v now : Int) (hn : v / 64 = 3) : Calls Try.prog 19 #[.pointer (some ⟨B, 0, none⟩), .int .u8 v, .int .u64 now] w fun e w' => e = .returned (.tuple #[]) ∧ PAt w' B f ∧ Kp (isB B) w w' := by
  go_enter Try.func19, Try.ntmps19
  go_wp2
  refine bodyPost_ret (results_none rfl _ _ _) rfl ?_
  exact ⟨rfl, h, Kp.refl _ _⟩

theorem cmdH_0 (h : PAt w B f) (k : Oks f) (v now : Int) (v0 : 0 ≤ v) (v1 : v < 256) (hn : v / 64 = 0) (hb : v / 16 % 4 = 0) : Calls Try.prog 19 #[.pointer (some ⟨B, 0, none⟩), .int .u8 v, .int .u64 now] w fun e w' => e = .returned (.tuple #[]) ∧ PAt w' B (upd f 0 ((f 0).hold now)) ∧ Kp (isB B) w w' := by
  have H : Hid (Calls _ _ #[.pointer (some ⟨B, 0, none⟩), .int .u64 now] w _) := hold_ok (h.at 0 0 (by decide) (by decide)) (k 0) now
  have a3 : bits .and .u8 (v / 16) 3 = v / 16 % 4 := and8_3 (by omega) (by omega)
  rw [hb] at a3
  go_enter Try.func19, Try.ntmps19
  go_wp2_with fail
  refine Calls.mono H.out ?_; rintro e w1 ⟨rfl, h1, k1⟩
  go_wp2
  go_end0
  exact ⟨rfl, h1.pit, k1⟩

theorem cmdS_0 (h : PAt w B f) (k : Oks f) (v now : Int) (v0 : 0 ≤ v) (v1 : v < 256) (hn : v / 64 = 0) (b : Int) (hb : v / 16 % 4 = b) (hb0 : ¬ b = 0) : Calls Try.prog 19 #[.pointer (some ⟨B, 0, none⟩), .int .u8 v, .int .u64 now] w fun e w' => e = .returned (.tuple #[]) ∧ PAt w' B (upd f 0 ((f 0).setUp b (v / 2 % 8))) ∧ Kp (isB B) w w' := by
  have H : Hid (Calls _ _ #[.pointer (some ⟨B, 0, none⟩), .int .u8 b, .int .u8 (v / 2 % 8)] w _) := setUp_ok (h.at 0 0 (by decide) (by decide)) b (v / 2 % 8) (by omega) (by omega)
  have a3 : bits .and .u8 (v / 16) 3 = v / 16 % 4 := and8_3 (by omega) (by omega)
  have a7 : bits .and .u8 (v / 2) 7 = v / 2 % 8 := and8_7 (by omega) (by omega)
  rw [hb] at a3
  have hz : (b == 0) = false := by simp [hb0]
  clear hb hb0
  go_enter Try.func19, Try.ntmps19
  go_wp2_with fail
  refine Calls.mono H.out ?_; rintro e w1 ⟨rfl, h1, k1⟩
  go_wp2
  go_end0
  exact ⟨rfl, h1.pit, k1⟩

theorem cmdH_1 (h : PAt w B f) (k : Oks f) (v now : Int) (v0 : 0 ≤ v) (v1 : v < 256) (hn : v / 64 = 1) (hb : v / 16 % 4 = 0) : Calls Try.prog 19 #[.pointer (some ⟨B, 0, none⟩), .int .u8 v, .int .u64 now] w fun e w' => e = .returned (.tuple #[]) ∧ PAt w' B (upd f 1 ((f 1).hold now)) ∧ Kp (isB B) w w' := by
  have H : Hid (Calls _ _ #[.pointer (some ⟨B, 10, none⟩), .int .u64 now] w _) := hold_ok (h.at 1 10 (by decide) (by decide)) (k 1) now
  have a3 : bits .and .u8 (v / 16) 3 = v / 16 % 4 := and8_3 (by omega) (by omega)
  rw [hb] at a3
  go_enter Try.func19, Try.ntmps19
  go_wp2_with fail
  refine Calls.mono H.out ?_; rintro e w1 ⟨rfl, h1, k1⟩
  go_wp2
  go_end0
  exact ⟨rfl, h1.pit, k1⟩

theorem cmdS_1 (h : PAt w B f) (k : Oks f) (v now : Int) (v0 : 0 ≤ v) (v1 : v < 256) (hn : v / 64 = 1) (b : Int) (hb : v / 16 % 4 = b) (hb0 : ¬ b = 0) : Calls Try.prog 19 #[.pointer (some ⟨B, 0, none⟩), .int .u8 v, .int .u64 now] w fun e w' => e = .returned (.tuple #[]) ∧ PAt w' B (upd f 1 ((f 1).setUp b (v / 2 % 8))) ∧ Kp (isB B) w w' := by
  have H : Hid (Calls _ _ #[.pointer (some ⟨B, 10, none⟩), .int .u8 b, .int .u8 (v / 2 % 8)] w _) := setUp_ok (h.at 1 10 (by decide) (by decide)) b (v / 2 % 8) (by omega) (by omega)
  have a3 : bits .and .u8 (v / 16) 3 = v / 16 % 4 := and8_3 (by omega) (by omega)
  have a7 : bits .and .u8 (v / 2) 7 = v / 2 % 8 := and8_7 (by omega) (by omega)
  rw [hb] at a3
  have hz : (b == 0) = false := by simp [hb0]
  clear hb hb0
  go_enter Try.func19, Try.ntmps19
  go_wp2_with fail
  refine Calls.mono H.out ?_; rintro e w1 ⟨rfl, h1, k1⟩
  go_wp2
  go_end0
  exact ⟨rfl, h1.pit, k1⟩

theorem cmdH_2 (h : PAt w B f) (k : Oks f) (v now : Int) (v0 : 0 ≤ v) (v1 : v < 256) (hn : v / 64 = 2) (hb : v / 16 % 4 = 0) : Calls Try.prog 19 #[.pointer (some ⟨B, 0, none⟩), .int .u8 v, .int .u64 now] w fun e w' => e = .returned (.tuple #[]) ∧ PAt w' B (upd f 2 ((f 2).hold now)) ∧ Kp (isB B) w w' := by
  have H : Hid (Calls _ _ #[.pointer (some ⟨B, 20, none⟩), .int .u64 now] w _) := hold_ok (h.at 2 20 (by decide) (by decide)) (k 2) now
  have a3 : bits .and .u8 (v / 16) 3 = v / 16 % 4 := and8_3 (by omega) (by omega)
  rw [hb] at a3
  go_enter Try.func19, Try.ntmps19
  go_wp2_with fail
  refine Calls.mono H.out ?_; rintro e w1 ⟨rfl, h1, k1⟩
  go_wp2
  go_end0
  exact ⟨rfl, h1.pit, k1⟩

theorem cmdS_2 (h : PAt w B f) (k : Oks f) (v now : Int) (v0 : 0 ≤ v) (v1 : v < 256) (hn : v / 64 = 2) (b : Int) (hb : v / 16 % 4 = b) (hb0 : ¬ b = 0) : Calls Try.prog 19 #[.pointer (some ⟨B, 0, none⟩), .int .u8 v, .int .u64 now] w fun e w' => e = .returned (.tuple #[]) ∧ PAt w' B (upd f 2 ((f 2).setUp b (v / 2 % 8))) ∧ Kp (isB B) w w' := by
  have H : Hid (Calls _ _ #[.pointer (some ⟨B, 20, none⟩), .int .u8 b, .int .u8 (v / 2 % 8)] w _) := setUp_ok (h.at 2 20 (by decide) (by decide)) b (v / 2 % 8) (by omega) (by omega)
  have a3 : bits .and .u8 (v / 16) 3 = v / 16 % 4 := and8_3 (by omega) (by omega)
  have a7 : bits .and .u8 (v / 2) 7 = v / 2 % 8 := and8_7 (by omega) (by omega)
  rw [hb] at a3
  have hz : (b == 0) = false := by simp [hb0]
  clear hb hb0
  go_enter Try.func19, Try.ntmps19
  go_wp2_with fail
  refine Calls.mono H.out ?_; rintro e w1 ⟨rfl, h1, k1⟩
  go_wp2
  go_end0
  exact ⟨rfl, h1.pit, k1⟩

theorem cmd_ok (h : PAt w B f) (k : Oks f) (v now : Int) (v0 : 0 ≤ v) (v1 : v < 256) : Calls Try.prog 19 #[.pointer (some ⟨B, 0, none⟩), .int .u8 v, .int .u64 now] w fun e w' => e = .returned (.tuple #[]) ∧ PAt w' B (cmdF f v now) ∧ Kp (isB B) w w' := by
  unfold cmdF
  by_cases e3 : v / 64 = 3
  · rw [if_pos e3]; exact cmd_3 h v now e3
  · rw [if_neg e3]
    have hn : v / 64 = 0 ∨ v / 64 = 1 ∨ v / 64 = 2 := by omega
    by_cases eb : v / 16 % 4 = 0
    · rw [if_pos eb]
      rcases hn with e | e | e
      · rw [e]; exact cmdH_0 h k v now v0 v1 e eb
      · rw [e]; exact cmdH_1 h k v now v0 v1 e eb
      · rw [e]; exact cmdH_2 h k v now v0 v1 e eb
    · rw [if_neg eb]
      rcases hn with e | e | e
      · rw [e]; exact cmdS_0 h k v now v0 v1 e _ rfl eb
      · rw [e]; exact cmdS_1 h k v now v0 v1 e _ rfl eb
      · rw [e]; exact cmdS_2 h k v now v0 v1 e _ rfl eb

theorem out_3 (h : PAt w B f) (k : Oks f) (v now : Int) (v0 : 0 ≤ v) (v1 : v < 256) : Calls Try.prog 11 #[.pointer (some ⟨B, 0, none⟩), .int .i64 3, .int .u8 v, .int .u64 now] w fun e w' => e = .returned (.int .i64 0) ∧ PAt w' B (cmdF f v now) ∧ Kp (isB B) w w' := by
  have HH : Hid _ := has_ok w ⟨B, 0, none⟩ 3 (by decide) (by decide)
  have H : Hid _ := cmd_ok h k v now v0 v1
  go_enter Try.func11, Try.ntmps11
  go_wp2_with fail
  refine Calls.mono HH.out ?_; rintro e w1 ⟨rfl, hw⟩; replace hw := hw.symm; subst hw
  go_wp2_with fail
  refine Calls.mono H.out ?_; rintro e w1 ⟨rfl, h1, k1⟩
  go_wp2
  go_ret
  exact ⟨rfl, h1, k1⟩

theorem in_3 (h : PAt w B f) (now : Int) : Calls Try.prog 13 #[.pointer (some ⟨B, 0, none⟩), .int .i64 3, .int .u64 now] w fun e w' => e = .returned (.tuple #[.int .u8 255, .int .i64 0]) ∧ PAt w' B f ∧ Kp (isB B) w w' := by
  have HH : Hid _ := has_ok w ⟨B, 0, none⟩ 3 (by decide) (by decide)
  go_enter Try.func13, Try.ntmps13
  go_wp2_with fail
  refine Calls.mono HH.out ?_; rintro e w1 ⟨rfl, hw⟩; replace hw := hw.symm; subst hw
  go_wp2
  go_ret2
  exact ⟨rfl, h, Kp.refl _ _⟩

theorem out_0 (h : PAt w B f) (k : Oks f) (v now : Int) (v0 : 0 ≤ v) (v1 : v < 256) : Calls Try.prog 11 #[.pointer (some ⟨B, 0, none⟩), .int .i64 0, .int .u8 v, .int .u64 now] w fun e w' => e = .returned (.int .i64 0) ∧ PAt w' B (upd f 0 ((f 0).write v now)) ∧ Kp (isB B) w w' := by
  have HH : Hid _ := has_ok w ⟨B, 0, none⟩ 0 (by decide) (by decide)
  have H : Hid (Calls _ _ #[.pointer (some ⟨B, 0, none⟩), .int .u8 v, .int .u64 now] w _) := write_ok (h.at 0 0 (by decide) (by decide)) (k 0) v now v0 v1
  go_enter Try.func11, Try.ntmps11
  go_wp2_with fail
  refine Calls.mono HH.out ?_; rintro e w1 ⟨rfl, hw⟩; replace hw := hw.symm; subst hw
  go_wp2_with fail
  refine Calls.mono H.out ?_; rintro e w1 ⟨rfl, h1, k1⟩
  go_wp2
  go_ret
  exact ⟨rfl, h1.pit, k1⟩

theorem in_0 (h : PAt w B f) (k : Oks f) (now : Int) : Calls Try.prog 13 #[.pointer (some ⟨B, 0, none⟩), .int .i64 0, .int .u64 now] w fun e w' => e = .returned (.tuple #[.int .u8 ((f 0).told now), .int .i64 0]) ∧ PAt w' B (upd f 0 (f 0).read) ∧ Kp (isB B) w w' := by
  have HH : Hid _ := has_ok w ⟨B, 0, none⟩ 0 (by decide) (by decide)
  have H : Hid (Calls _ _ #[.pointer (some ⟨B, 0, none⟩), .int .u64 now] w _) := read_ok (h.at 0 0 (by decide) (by decide)) (k 0) now
  go_enter Try.func13, Try.ntmps13
  go_wp2_with fail
  refine Calls.mono HH.out ?_; rintro e w1 ⟨rfl, hw⟩; replace hw := hw.symm; subst hw
  go_wp2_with fail
  refine Calls.mono H.out ?_; rintro e w1 ⟨rfl, h1, k1⟩
  go_wp2
  go_ret2
  exact ⟨rfl, h1.pit, k1⟩

theorem out_1 (h : PAt w B f) (k : Oks f) (v now : Int) (v0 : 0 ≤ v) (v1 : v < 256) : Calls Try.prog 11 #[.pointer (some ⟨B, 0, none⟩), .int .i64 1, .int .u8 v, .int .u64 now] w fun e w' => e = .returned (.int .i64 0) ∧ PAt w' B (upd f 1 ((f 1).write v now)) ∧ Kp (isB B) w w' := by
  have HH : Hid _ := has_ok w ⟨B, 0, none⟩ 1 (by decide) (by decide)
  have H : Hid (Calls _ _ #[.pointer (some ⟨B, 10, none⟩), .int .u8 v, .int .u64 now] w _) := write_ok (h.at 1 10 (by decide) (by decide)) (k 1) v now v0 v1
  go_enter Try.func11, Try.ntmps11
  go_wp2_with fail
  refine Calls.mono HH.out ?_; rintro e w1 ⟨rfl, hw⟩; replace hw := hw.symm; subst hw
  go_wp2_with fail
  refine Calls.mono H.out ?_; rintro e w1 ⟨rfl, h1, k1⟩
  go_wp2
  go_ret
  exact ⟨rfl, h1.pit, k1⟩

theorem in_1 (h : PAt w B f) (k : Oks f) (now : Int) : Calls Try.prog 13 #[.pointer (some ⟨B, 0, none⟩), .int .i64 1, .int .u64 now] w fun e w' => e = .returned (.tuple #[.int .u8 ((f 1).told now), .int .i64 0]) ∧ PAt w' B (upd f 1 (f 1).read) ∧ Kp (isB B) w w' := by
  have HH : Hid _ := has_ok w ⟨B, 0, none⟩ 1 (by decide) (by decide)
  have H : Hid (Calls _ _ #[.pointer (some ⟨B, 10, none⟩), .int .u64 now] w _) := read_ok (h.at 1 10 (by decide) (by decide)) (k 1) now
  go_enter Try.func13, Try.ntmps13
  go_wp2_with fail
  refine Calls.mono HH.out ?_; rintro e w1 ⟨rfl, hw⟩; replace hw := hw.symm; subst hw
  go_wp2_with fail
  refine Calls.mono H.out ?_; rintro e w1 ⟨rfl, h1, k1⟩
  go_wp2
  go_ret2
  exact ⟨rfl, h1.pit, k1⟩

theorem out_2 (h : PAt w B f) (k : Oks f) (v now : Int) (v0 : 0 ≤ v) (v1 : v < 256) : Calls Try.prog 11 #[.pointer (some ⟨B, 0, none⟩), .int .i64 2, .int .u8 v, .int .u64 now] w fun e w' => e = .returned (.int .i64 0) ∧ PAt w' B (upd f 2 ((f 2).write v now)) ∧ Kp (isB B) w w' := by
  have HH : Hid _ := has_ok w ⟨B, 0, none⟩ 2 (by decide) (by decide)
  have H : Hid (Calls _ _ #[.pointer (some ⟨B, 20, none⟩), .int .u8 v, .int .u64 now] w _) := write_ok (h.at 2 20 (by decide) (by decide)) (k 2) v now v0 v1
  go_enter Try.func11, Try.ntmps11
  go_wp2_with fail
  refine Calls.mono HH.out ?_; rintro e w1 ⟨rfl, hw⟩; replace hw := hw.symm; subst hw
  go_wp2_with fail
  refine Calls.mono H.out ?_; rintro e w1 ⟨rfl, h1, k1⟩
  go_wp2
  go_ret
  exact ⟨rfl, h1.pit, k1⟩

theorem in_2 (h : PAt w B f) (k : Oks f) (now : Int) : Calls Try.prog 13 #[.pointer (some ⟨B, 0, none⟩), .int .i64 2, .int .u64 now] w fun e w' => e = .returned (.tuple #[.int .u8 ((f 2).told now), .int .i64 0]) ∧ PAt w' B (upd f 2 (f 2).read) ∧ Kp (isB B) w w' := by
  have HH : Hid _ := has_ok w ⟨B, 0, none⟩ 2 (by decide) (by decide)
  have H : Hid (Calls _ _ #[.pointer (some ⟨B, 20, none⟩), .int .u64 now] w _) := read_ok (h.at 2 20 (by decide) (by decide)) (k 2) now
  go_enter Try.func13, Try.ntmps13
  go_wp2_with fail
  refine Calls.mono HH.out ?_; rintro e w1 ⟨rfl, hw⟩; replace hw := hw.symm; subst hw
  go_wp2_with fail
  refine Calls.mono H.out ?_; rintro e w1 ⟨rfl, h1, k1⟩
  go_wp2
  go_ret2
  exact ⟨rfl, h1.pit, k1⟩

theorem out_ok (h : PAt w B f) (k : Oks f) (p v now : Int) (p0 : 0 ≤ p) (p1 : p < 4) (v0 : 0 ≤ v) (v1 : v < 256) : Calls Try.prog 11 #[.pointer (some ⟨B, 0, none⟩), .int .i64 p, .int .u8 v, .int .u64 now] w fun e w' => e = .returned (.int .i64 0) ∧ PAt w' B (outF f p v now) ∧ Kp (isB B) w w' := by
  rcases (by omega : p = 0 ∨ p = 1 ∨ p = 2 ∨ p = 3) with rfl | rfl | rfl | rfl
  · exact out_0 h k v now v0 v1
  · exact out_1 h k v now v0 v1
  · exact out_2 h k v now v0 v1
  · exact out_3 h k v now v0 v1

theorem in_ok (h : PAt w B f) (k : Oks f) (p now : Int) (p0 : 0 ≤ p) (p1 : p < 4) : Calls Try.prog 13 #[.pointer (some ⟨B, 0, none⟩), .int .i64 p, .int .u64 now] w fun e w' => e = .returned (.tuple #[.int .u8 (innV f p now), .int .i64 0]) ∧ PAt w' B (innF f p) ∧ Kp (isB B) w w' := by
  rcases (by omega : p = 0 ∨ p = 1 ∨ p = 2 ∨ p = 3) with rfl | rfl | rfl | rfl
  · exact in_0 h k now
  · exact in_1 h k now
  · exact in_2 h k now
  · exact in_3 h now
end

theorem out_no (w : World) (x : Option Addr) (p v now : Int) (h : x = none ∨ p < 0 ∨ 4 ≤ p) : Calls Try.prog 11 #[.pointer x, .int .i64 p, .int .u8 v, .int .u64 now] w fun e w' => e = .returned (.int .i64 1) ∧ w' = w := by
  have HH : Hid _ := has_no w x p h
  go_enter Try.func11, Try.ntmps11
  go_wp2_with fail
  refine Calls.mono HH.out ?_; rintro e w1 ⟨rfl, hw⟩; replace hw := hw.symm; subst hw
  go_wp2
  go_ret
  exact ⟨rfl, rfl⟩

theorem in_no (w : World) (x : Option Addr) (p now : Int) (h : x = none ∨ p < 0 ∨ 4 ≤ p) : Calls Try.prog 13 #[.pointer x, .int .i64 p, .int .u64 now] w fun e w' => e = .returned (.tuple #[.int .u8 0, .int .i64 1]) ∧ w' = w := by
  have HH : Hid _ := has_no w x p h
  go_enter Try.func13, Try.ntmps13
  go_wp2_with fail
  refine Calls.mono HH.out ?_; rintro e w1 ⟨rfl, hw⟩; replace hw := hw.symm; subst hw
  go_wp2
  go_ret2
  exact ⟨rfl, rfl⟩
end Go.Proofs.Yteodnlloilmoaaa
