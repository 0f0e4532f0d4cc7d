/- The contract of the statements' sector. -/
import Derived.Test.YtlgbbgodffkimaaIdSt
import Derived.Test.YtlgbbgodffkimaaIdTl
namespace Go.Proofs.Ytlgbbgodffkimaa
open Go.ChangeShapes Go.WideShapes Go.ChangeAt Go.RowKit
set_option linter.unusedVariables false

theorem sector_ok {W w : World} {B : Nat} {sd : List (Nat × Obj)} {d : Id} (h : St W w B sd d) (k p : Int) (k0 : 0 ≤ k) (k1 : k < 4294967296) (p0 : 0 ≤ p) (p1 : p < 256) (hw : d.work < 1000000) : Calls Try.prog 23 #[.pointer (some ⟨B, 0, none⟩), .int .u32 k, .int .i64 p] w fun e w' => e = .returned (.tuple #[]) ∧ St W w' B sd (d.sector k p) := by
  have w1 := o_work h.ok 6 1 64
  have w2 := o_work (h.ok.o 6 1 64) 5 1 0
  have w3 := o_work ((h.ok.o 6 1 64).o 5 1 0) 4 1 0
  have w4 := o_work (((h.ok.o 6 1 64).o 5 1 0).o 4 1 0) 3 1 p
  have w5 := o_work ((((h.ok.o 6 1 64).o 5 1 0).o 4 1 0).o 3 1 p) 2 1 1
  have HA : Hid _ := h.out 6 1 64 (by decide) (by decide) (by omega)
  have HB : Hid (∀ w, St W w B sd (d.o 6 1 64) → _) := fun w h => h.out 5 1 0 (by decide) (by decide) (by omega)
  have HC : Hid (∀ w, St W w B sd ((d.o 6 1 64).o 5 1 0) → _) := fun w h => h.out 4 1 0 (by decide) (by decide) (by omega)
  have HD : Hid (∀ w, St W w B sd (((d.o 6 1 64).o 5 1 0).o 4 1 0) → _) := fun w h => h.out 3 1 p (by omega) (by omega) (by omega)
  have HE : Hid (∀ w, St W w B sd ((((d.o 6 1 64).o 5 1 0).o 4 1 0).o 3 1 p) → _) := fun w h => h.out 2 1 1 (by decide) (by decide) (by omega)
  have HF : Hid (∀ w, St W w B sd (((((d.o 6 1 64).o 5 1 0).o 4 1 0).o 3 1 p).o 2 1 1) → _) := fun w h => h.out 7 1 k k0 k1 (by omega)
  rw [← sector_o]
  clear w1 w2 w3 w4 w5 h hw
  go_enter Try.func23, Try.ntmps23
  go_wp2_with fail
  refine Calls.mono HA.out ?_; rintro e z1 ⟨rfl, h1⟩
  go_wp2_with fail
  refine Calls.mono (HB.out _ h1) ?_; rintro e z2 ⟨rfl, h2⟩
  clear h1
  go_wp2_with fail
  refine Calls.mono (HC.out _ h2) ?_; rintro e z3 ⟨rfl, h3⟩
  clear h2
  go_wp2_with fail
  refine Calls.mono (HD.out _ h3) ?_; rintro e z4 ⟨rfl, h4⟩
  clear h3
  go_wp2_with fail
  refine Calls.mono (HE.out _ h4) ?_; rintro e z5 ⟨rfl, h5⟩
  clear h4
  go_wp2_with fail
  refine Calls.mono (HF.out _ h5) ?_; rintro e z6 ⟨rfl, h6⟩
  clear h5
  go_wp2
  go_end0
  exact ⟨rfl, h6⟩
end Go.Proofs.Ytlgbbgodffkimaa
