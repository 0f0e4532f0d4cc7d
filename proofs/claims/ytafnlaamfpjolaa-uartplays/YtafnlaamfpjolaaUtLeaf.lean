/- The contracts of the port's small functions. -/
import Derived.Test.YtafnlaamfpjolaaUtBase
import Derived.Conc.LoneSelectN
namespace Go.Proofs.Ytafnlaamfpjolaa
open Go.ChangeShapes Go.WideShapes Go.ChangeAt Go.RowKit
set_option linter.unusedVariables false

theorem and128' : ∀ n : Fin 256, (bits .and .u8 (n.val : Int) 128 != 0) = decide (128 ≤ (n.val : Int)) := by decide +kernel
theorem and1' : ∀ n : Fin 256, (bits .and .u8 (n.val : Int) 1 != 0) = b0 (n.val : Int) := by decide +kernel
theorem and2' : ∀ n : Fin 256, (bits .and .u8 (n.val : Int) 2 != 0) = b1 (n.val : Int) := by decide +kernel
theorem and15' : ∀ n : Fin 256, bits .and .u8 (n.val : Int) 15 = (n.val : Int) % 16 := by decide +kernel
theorem and31' : ∀ n : Fin 256, bits .and .u8 (n.val : Int) 31 = (n.val : Int) % 32 := by decide +kernel
theorem want' : ∀ n m : Fin 16, (bits .and .u8 (bits .andNot .u8 (n.val : Int) (m.val : Int)) 2 != 0) = (b1 (n.val : Int) && !b1 (m.val : Int)) := by decide +kernel

theorem byFin {p : Int → Prop} (h : ∀ n : Fin 256, p (n.val : Int)) {v : Int} (hv : By v) : p v := by
  have := h ⟨v.toNat, by have := hv.1; have := hv.2; omega⟩
  simp only [Int.toNat_of_nonneg hv.1] at this
  exact this

theorem and128 {v : Int} (h : By v) : (bits .and .u8 v 128 != 0) = decide (128 ≤ v) := byFin (p := fun v => (bits .and .u8 v 128 != 0) = decide (128 ≤ v)) and128' h
theorem and1 {v : Int} (h : By v) : (bits .and .u8 v 1 != 0) = b0 v := byFin (p := fun v => (bits .and .u8 v 1 != 0) = b0 v) and1' h
theorem and2 {v : Int} (h : By v) : (bits .and .u8 v 2 != 0) = b1 v := byFin (p := fun v => (bits .and .u8 v 2 != 0) = b1 v) and2' h
theorem and15 {v : Int} (h : By v) : bits .and .u8 v 15 = v % 16 := byFin (p := fun v => bits .and .u8 v 15 = v % 16) and15' h
theorem and31 {v : Int} (h : By v) : bits .and .u8 v 31 = v % 32 := byFin (p := fun v => bits .and .u8 v 31 = v % 32) and31' h
theorem wantsB {v m : Int} (h : 0 ≤ v ∧ v < 16) (g : 0 ≤ m ∧ m < 16) : (bits .and .u8 (bits .andNot .u8 v m) 2 != 0) = (b1 v && !b1 m) := by
  have := want' ⟨v.toNat, by omega⟩ ⟨m.toNat, by omega⟩
  simp only [Int.toNat_of_nonneg h.1, Int.toNat_of_nonneg g.1] at this
  exact this

theorem by16 {v : Int} (h : 0 ≤ v ∧ v < 16) : By v := ⟨h.1, by omega⟩

section
variable {w : World} {B : Nat} {cv : Option Nat} {sv : Value} {u : U}

theorem has_ok (w : World) (a : Addr) (p : Int) (p0 : 0 ≤ p) (p1 : p < 8) : Calls Try.prog 21 #[.pointer (some a), .int .i64 p] w fun e w' => e = .returned (.bool true) ∧ w' = w := by
  have d0 : decide (0 ≤ p) = true := by simp [p0]
  have d1 : decide (p < 8) = true := by simp [p1]
  go_enter Try.func21, Try.ntmps21
  go_wp2
  go_ret
  exact ⟨rfl, rfl⟩

theorem has_no (w : World) (x : Option Addr) (p : Int) (h : x = none ∨ p < 0 ∨ 8 ≤ p) : Calls Try.prog 21 #[.pointer x, .int .i64 p] w fun e w' => e = .returned (.bool false) ∧ w' = w := by
  cases x with
  | none =>
    go_enter Try.func21, Try.ntmps21
    go_wp2
    go_ret
    exact ⟨rfl, rfl⟩
  | some a =>
    by_cases g : p < 0
    · have d0 : decide (0 ≤ p) = false := by simp; omega
      go_enter Try.func21, Try.ntmps21
      go_wp2
      go_ret
      exact ⟨rfl, rfl⟩
    · have d0 : decide (0 ≤ p) = true := by simp; omega
      have d1 : decide (p < 8) = false := by
        rcases h with h | h | h
        · cases h
        · omega
        · simp; omega
      go_enter Try.func21, Try.ntmps21
      go_wp2
      go_ret
      exact ⟨rfl, rfl⟩

theorem divides_any (h : UAt w B cv sv u) (k : By u.line) (n : Int) : Calls Try.prog 22 #[.pointer (some ⟨B, 0, none⟩), .int .i64 n] w fun e w' => e = .returned (.bool (u.lat && decide (n < 2))) ∧ w' = w := by
  have c8 := h.c8
  have e1 := and128 k
  unfold U.lat
  cases e : decide (128 ≤ u.line)
  · rw [e] at e1
    go_enter Try.func22, Try.ntmps22
    go_wp2
    go_ret
    exact ⟨rfl, rfl⟩
  · rw [e] at e1
    go_enter Try.func22, Try.ntmps22
    go_wp2
    go_ret
    exact ⟨rfl, rfl⟩

theorem len_nil (w : World) (ty : TypeId) : (Builtin.len_ #[41] ty #[.chan none]).run Try.prog w = .ok (goInt 0) w := by
  simp [Builtin.len_, run_underlying Try.underlying41]

theorem len_chan {l : List Int} (h : ChAt w cv l) (ty : TypeId) : (Builtin.len_ #[41] ty #[.chan cv]).run Try.prog w = .ok (.int .i64 l.length) w := by
  cases h with
  | no => exact len_nil w ty
  | on c s r l h hl =>
    have := Conc.run_len_chan (P := Try.prog) 41 ty Try.underlying41 h
    rw [this]
    simp [goInt]

theorem there_any (h : UAt w B cv sv u) : Calls Try.prog 27 #[.pointer (some ⟨B, 0, none⟩)] w fun e w' => e = .returned (.bool u.there) ∧ w' = w := by
  have c0 := h.c0
  have hl := fun ty => len_chan h.chn ty
  go_enter Try.func27, Try.ntmps27
  go_wp2
  go_ret
  exact ⟨rfl, rfl⟩
end
end Go.Proofs.Ytafnlaamfpjolaa
