/- The walk of the statement BitopWidths: for every input within its kinds it returns true, and the world has at most new blocks. -/
import Derived.Test.YtelclgelooljlabBitAwake
namespace Go.Proofs.Ytelclgelooljlab
open Go.ChangeShapes Go.WideShapes Go.ChangeAt Go.RowKit
set_option linter.unusedVariables false

/-- bitop.Extend answers so, whatever the world -/
def ExtIs (sg : Bool) (s t a r : Int) : Prop := ∀ w, Calls Try.prog 5 #[.bool sg, .int .i64 s, .int .i64 t, .int .u32 a] w fun e w' => e = .returned (.tuple #[.int .u32 r, .int .i64 0]) ∧ w' = w

theorem widths_core (sg : Bool) (a b d m : Int) (w : World) (h1 : ExtIs sg 1 2 a b) (h2 : ExtIs sg 2 4 b d) (h3 : ExtIs sg 1 4 a d) (h4 : ExtIs sg 4 4 a a) (a0 : 0 ≤ a) (b0 : 0 ≤ b) (d0 : 0 ≤ d) (e1 : d % 256 = m) (e2 : b % 256 = m) (e3 : a % 256 = m) :
    Calls Try.prog 3 #[.bool sg, .int .u32 a] w fun e w' => e = .returned (.bool true) ∧ Grown w w' := by
  go_enter Try.func3, Try.ntmps3
  go_wp2_with fail
  refine (awake_any _).mono ?_; rintro e w1 ⟨rfl, hg⟩
  go_wp2_with fail
  refine (h1 _).mono ?_; rintro e w2 ⟨rfl, hw⟩; replace hw := hw.symm; subst hw
  go_wp2_with fail
  refine (h2 _).mono ?_; rintro e w2 ⟨rfl, hw⟩; replace hw := hw.symm; subst hw
  go_wp2_with fail
  refine (h3 _).mono ?_; rintro e w2 ⟨rfl, hw⟩; replace hw := hw.symm; subst hw
  go_wp2_with fail
  refine (h4 _).mono ?_; rintro e w2 ⟨rfl, hw⟩; replace hw := hw.symm; subst hw
  go_wp2
  go_ret
  exact ⟨rfl, hg⟩

theorem ext_twice (sg : Bool) {x : Int} (x0 : 0 ≤ x) (x1 : x < 256) :
    extR sg 65536 4294967296 32768 (extR sg 256 65536 128 x % 65536) = extR sg 256 4294967296 128 x ∧ extR sg 256 4294967296 128 x % 256 = x ∧ extR sg 256 65536 128 x % 256 = x := by
  unfold extR sgn
  cases sg
  · simp; omega
  · by_cases h : 128 ≤ x
    · simp only [h, decide_true, Bool.and_self, if_true]
      have e : (x + 65536 - 256) % 65536 = x + 65536 - 256 := by omega
      rw [e]
      have g : 32768 ≤ x + 65536 - 256 := by omega
      simp only [g, decide_true, Bool.and_self, if_true]
      omega
    · have e : x % 65536 = x := by omega
      have g : ¬ 32768 ≤ x := by omega
      simp [h, e, g]; omega

theorem BitopWidths_walk (a0 : Bool) (a1 : Int) (w1 : (Lit.int .u32 a1).wf = true) (w : World) :
    Calls Try.prog 3 #[.bool a0, .int .u32 a1] w fun e w' => e = .returned (.bool true) ∧ Grown w w' := by
  have b1 := bounds_u32 w1
  have x0 : 0 ≤ a1 := b1.1
  have x1 : a1 < 4294967296 := by omega
  clear w1 b1
  have y0 : 0 ≤ a1 % 256 := by omega
  have y1 : a1 % 256 < 256 := by omega
  have hb := ext_bd sw1 sw2 (by decide) a0 y0 y1
  have hd := ext_bd sw1 sw4 (by decide) a0 y0 y1
  have ht := ext_twice a0 y0 y1
  have h1 : ExtIs a0 1 2 a1 _ := fun w => btExt_ok sw1 sw2 (by decide) a0 a1 w x0 x1
  have h2 : ExtIs a0 2 4 _ _ := fun w => btExt_ok sw2 sw4 (by decide) a0 (extR a0 256 65536 128 (a1 % 256)) w hb.1 (by omega)
  have h3 : ExtIs a0 1 4 a1 _ := fun w => btExt_ok sw1 sw4 (by decide) a0 a1 w x0 x1
  have h4 : ExtIs a0 4 4 a1 _ := fun w => btExt_ok sw4 sw4 (by decide) a0 a1 w x0 x1
  rw [ht.1] at h2
  have e4 : extR a0 4294967296 4294967296 2147483648 (a1 % 4294967296) = a1 := by
    unfold extR; split <;> omega
  rw [e4] at h4
  exact widths_core a0 a1 _ _ _ w h1 h2 h3 h4 x0 hb.1 hd.1 ht.2.1 ht.2.2 rfl
end Go.Proofs.Ytelclgelooljlab
