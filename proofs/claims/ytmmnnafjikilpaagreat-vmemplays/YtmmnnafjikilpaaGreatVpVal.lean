/- The document's value and put: a value's bytes, read and written one by one. -/
import Derived.Test.YtmmnnafjikilpaaGreatVpPlaces
import Derived.Test.YtmmnnafjikilpaaGreatVi
namespace Go.Proofs.YtmmnnafjikilpaaGreat
open Go.ChangeShapes Go.WideShapes Go.ChangeAt Go.RowKit Go.Maps
set_option linter.unusedVariables false
set_option maxRecDepth 20000

def VaQ (w : World) (RK : Nat → Int) (n : Nat) (k : Nat) (s5 s6 : Value) (wr : World) : Prop := ∃ i : Nat, s6 = .int .i64 i ∧ s5 = .int .u32 (RK i) ∧ i ≤ n ∧ n - i ≤ k ∧ Kp noB w wr
def PuQ (w : World) (R : Rf) (MK : Nat → Mem) (n : Nat) (k : Nat) (s6 : Value) (wr : World) : Prop := ∃ i : Nat, s6 = .int .i64 i ∧ i ≤ n ∧ n - i ≤ k ∧ RefAt wr R (MK i) ∧ Kp R.has w wr

theorem value_nil (w : World) (r : Option Addr) : Calls Tryz.prog 44 #[.pointer r, .slice none 0 0] w fun e w' => e = .returned (.int .u32 0) ∧ w' = w := by
  go_enter Tryz.func44, Tryz.ntmps44
  go_wp2_with fail
  go_loopg [5, 6] 0 (fun _ s5 s6 wr => s5 = .int .u32 0 ∧ s6 = .int .i64 0 ∧ wr = w)
  case atStart => exact ⟨rfl, rfl, rfl⟩
  case round =>
    obtain ⟨rfl, rfl, rfl⟩ := hrel
    go_wp2_with fail
    go_ret
    exact ⟨rfl, rfl⟩
theorem put_nil (w : World) (r : Option Addr) (v : Int) : Calls Tryz.prog 45 #[.pointer r, .slice none 0 0, .int .u32 v] w fun e w' => e = .returned (.tuple #[]) ∧ w' = w := by
  go_enter Tryz.func45, Tryz.ntmps45
  go_wp2_with fail
  go_loopg [6] 0 (fun _ s6 wr => s6 = .int .i64 0 ∧ wr = w)
  case atStart => exact ⟨rfl, rfl⟩
  case round =>
    obtain ⟨rfl, rfl⟩ := hrel
    go_wp2_with fail
    go_end0
    exact ⟨rfl, rfl⟩

set_option maxHeartbeats 4000000 in
theorem value_ok (w : World) (R : Rf) (M : Mem) (h : RefAt w R M) (hb : RdB M) (s : Sp) (hn : s.n = 1 ∨ s.n = 2 ∨ s.n = 4) (base : Nat) (v : Value) (hv : PlA w base v s.n s.at) :
    Calls Tryz.prog 44 #[.pointer (some ⟨R.r, 0, none⟩), v] w fun e w' => e = .returned (.int .u32 (M.rdS s)) ∧ Kp noB w w' := by
  obtain ⟨g, cap, rfl, _, hg, hc⟩ := hv
  have HR : Hid (M.rdK s s.n = M.rdS s) := rdK_all M s hn
  have HB : Hid (∀ j, 0 ≤ s.at j ∧ s.at j < 4294967296) := s.at_bd
  have HD : Hid (∀ j, 0 ≤ M.rd (s.at j) ∧ M.rd (s.at j) < 256) := fun j => hb _ (s.at_bd j).1 (s.at_bd j).2
  have HK : Hid (∀ i, i < 4 → 0 ≤ M.rdK s i ∧ M.rdK s i < 256 ^ i) := fun i hi => rdK_bd hb s i hi
  have HT : Hid (∀ i, M.rdK s (i + 1) = M.rdK s i + M.rd (s.at i) * 256 ^ i) := fun i => rfl
  have H0 : Hid (M.rdK s 0 = 0) := rfl
  generalize M.rdK s = RK at *
  generalize M.rdS s = rs at *
  generalize s.at = AT at *
  obtain ⟨a, b, hh, n⟩ := s
  simp only at *
  have HM : Hid (RefAt w R M) := h
  have HCc : Hid (∀ j, j < n → w.cell? ⟨g, j, none⟩ = some (.int .u32 (AT j))) := hc
  clear h hc hb
  go_enter Tryz.func44, Tryz.ntmps44
  go_wp2_with fail
  go_loopg [5, 6] n (VaQ w RK n)
  case atStart => exact ⟨0, rfl, by rw [H0.out], Nat.zero_le _, Nat.le_refl _, Kp.refl _ _⟩
  case round =>
    obtain ⟨i, rfl, rfl, hi, hik, kk⟩ := hrel
    by_cases hlt : i < n
    · have hz : (i : Int) < (n : Int) := by omega
      have hz2 : (0 : Int) ≤ i ∧ (i : Int) < (n : Int) := by omega
      have cc := cell_kp (HCc.out i hlt) kk (fun f => f)
      have HC : Hid _ := refByte_any wr R M (HM.out.kp kk (fun _ _ f => f)) (AT i) (HB.out i).1 (HB.out i).2
      have hD := HD.out i
      have hK := HK.out i (by omega)
      have HT1 : Hid (RK (i + 1) = RK i + M.rd (AT i) * 256 ^ i) := HT.out i
      generalize M.rd (AT i) = bv at *
      generalize RK i = sv at *
      generalize AT i = at' at *
      obtain ⟨j, hj⟩ : ∃ j, j = i + 1 := ⟨_, rfl⟩
      have HJ : Hid (j = i + 1) := hj
      have HKk : Hid (n - i ≤ gk) := hik
      obtain ⟨b0, b1⟩ := hD
      clear hik hj HT HK HD HB
      rcases (by omega : i = 0 ∨ i = 1 ∨ i = 2 ∨ i = 3) with rfl | rfl | rfl | rfl
      all_goals
        simp at hK
        go_wp2_with fail
        refine Calls.mono HC.out ?_; rintro e w4 ⟨rfl, k4⟩
        go_wp2_with fail
        go_roundg (n - j)
        case measure => have := HJ.out; have := HKk.out; omega
        case rel => exact ⟨j, by rw [HJ.out]; rfl, by rw [HJ.out, HT1.out]; first | rfl | (congr 1; done) | (congr 1; omega), by have := HJ.out; omega, Nat.le_refl _, kk.trans k4⟩
    · have hz : ¬ (i : Int) < (n : Int) := by omega
      obtain rfl : i = n := by omega
      rw [HR.out]
      clear hik
      go_wp2_with fail
      go_ret
      exact ⟨rfl, kk⟩

theorem byte_of {v : Int} (v0 : 0 ≤ v) (v1 : v < 4294967296) {i : Nat} (hi : i < 4) : (bytesV v).getD i 0 = v / 256 ^ i % 256 := by
  rcases (by omega : i = 0 ∨ i = 1 ∨ i = 2 ∨ i = 3) with rfl | rfl | rfl | rfl
  · show v % 256 = v / 1 % 256; omega
  · rfl
  · rfl
  · show v / 16777216 = v / 16777216 % 256; omega

set_option maxHeartbeats 4000000 in
theorem put_ok (w : World) (R : Rf) (M : Mem) (h : RefAt w R M) (s : Sp) (hn : s.n = 1 ∨ s.n = 2 ∨ s.n = 4) (base : Nat) (v : Value) (hv : PlA w base v s.n s.at) (hR : ∀ k, R.has k → k < base) (x : Int) (x0 : 0 ≤ x) (x1 : x < 4294967296) :
    Calls Tryz.prog 45 #[.pointer (some ⟨R.r, 0, none⟩), v, .int .u32 x] w fun e w' => e = .returned (.tuple #[]) ∧ RefAt w' R (M.wrS s x) ∧ Kp R.has w w' := by
  obtain ⟨g, cap, rfl, hgb, hg, hc⟩ := hv
  have HB : Hid (∀ j, 0 ≤ s.at j ∧ s.at j < 4294967296) := s.at_bd
  have HT : Hid (∀ i, i < 4 → M.wrK s x (i + 1) = (M.wrK s x i).put false (s.at i) (x / 256 ^ i % 256)) := fun i hi => by
    show (M.wrK s x i).put false (s.at i) ((bytesV x).getD i 0) = _
    rw [byte_of x0 x1 hi]
  have HR : Hid (M.wrK s x s.n = M.wrS s x) := rfl
  have H0 : Hid (RefAt w R (M.wrK s x 0)) := h
  generalize M.wrK s x = MK at *
  generalize M.wrS s x = ms at *
  generalize s.at = AT at *
  obtain ⟨a, b, hh, n⟩ := s
  simp only at *
  have HCc : Hid (∀ j, j < n → w.cell? ⟨g, j, none⟩ = some (.int .u32 (AT j))) := hc
  have HG : Hid (¬ R.has g) := fun f => by have := hR g f; omega
  clear h hc hR
  go_enter Tryz.func45, Tryz.ntmps45
  go_wp2_with fail
  go_loopg [6] n (PuQ w R MK n)
  case atStart => exact ⟨0, rfl, Nat.zero_le _, Nat.le_refl _, H0.out, Kp.refl _ _⟩
  case round =>
    obtain ⟨i, rfl, hi, hik, hr, kk⟩ := hrel
    by_cases hlt : i < n
    · have hz : (i : Int) < (n : Int) := by omega
      have hz2 : (0 : Int) ≤ i ∧ (i : Int) < (n : Int) := by omega
      have cc := cell_kp (HCc.out i hlt) kk HG.out
      have HC : Hid _ := refPut_any wr R (MK i) hr (AT i) (x / 256 ^ i % 256) false (HB.out i).1 (HB.out i).2
      rw [← HT.out i (by omega)] at HC
      obtain ⟨b, hbb⟩ : ∃ b, x / 256 ^ i % 256 = b := ⟨_, rfl⟩
      have hb0 : 0 ≤ b ∧ b < 256 := by rw [← hbb]; omega
      rw [hbb] at HC
      obtain ⟨b0, b1⟩ := hb0
      generalize AT i = at' at *
      obtain ⟨j, hj⟩ : ∃ j, j = i + 1 := ⟨_, rfl⟩
      have HJ : Hid (j = i + 1) := hj
      have HKk : Hid (n - i ≤ gk) := hik
      clear hik hj HT HB hr
      rcases (by omega : i = 0 ∨ i = 1 ∨ i = 2 ∨ i = 3) with rfl | rfl | rfl | rfl
      all_goals
        simp at hbb
        go_wp2_with fail
        refine Calls.mono HC.out ?_; rintro e w4 ⟨rfl, hr4, k4⟩
        go_wp2_with fail
        go_roundg (n - j)
        case measure => have := HJ.out; have := HKk.out; omega
        case rel => exact ⟨j, by rw [HJ.out]; rfl, by have := HJ.out; omega, Nat.le_refl _, by rw [HJ.out]; exact hr4, kk.trans k4⟩
    · have hz : ¬ (i : Int) < (n : Int) := by omega
      obtain rfl : i = n := by omega
      rw [HR.out] at hr
      clear hik
      go_wp2_with fail
      go_end0
      exact ⟨rfl, hr, kk⟩
end Go.Proofs.YtmmnnafjikilpaaGreat
