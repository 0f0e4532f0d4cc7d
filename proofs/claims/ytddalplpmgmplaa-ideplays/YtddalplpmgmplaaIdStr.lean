/- Bytes in their order: plain facts; bytes as a string. -/
import Derived.Test.YtddalplpmgmplaaIdOpen
import Derived.Test.YtddalplpmgmplaaIdFacts
import Derived.Test.YtddalplpmgmplaaIdeNilLaw
import Derived.Laws.BytesArg
namespace Go.Proofs.Ytddalplpmgmplaa
open Go.ChangeShapes Go.WideShapes Go.ChangeAt Go.RowKit
set_option linter.unusedVariables false

/-- n bytes from the i-th on. -/
def sg (bt : Nat → Int) (i n : Nat) : List Int := (List.range' i n).map bt
theorem sg_len (bt : Nat → Int) (i n : Nat) : (sg bt i n).length = n := by simp [sg]
theorem sg_snoc (bt : Nat → Int) (n : Nat) : sg bt 0 n ++ [bt n] = sg bt 0 (n + 1) := by
  unfold sg
  rw [List.range'_1_concat, List.map_append, Nat.zero_add]
  rfl
theorem sg_cons (bt : Nat → Int) (i n : Nat) : sg bt i (n + 1) = bt i :: sg bt (i + 1) n := by
  unfold sg
  rw [List.range'_succ]
  rfl
theorem sg_get (bt : Nat → Int) {n j : Nat} (h : j < n) : (sg bt 0 n).getD j 0 = bt j := by
  unfold sg
  rw [List.getD_eq_getElem?_getD, List.getElem?_map, List.getElem?_range' h]
  simp

/-- The value is a slice whose bytes make this string. -/
def StrAt (w : World) (v : Value) (l : List Int) : Prop := (convert 22 9 v).run Try.prog w = .ok (.string (strOfNums l)) w

theorem BytAt.str {w : World} {a : Option Addr} {L c : Nat} {bt : Nat → Int} (h : BytAt w a L bt) : StrAt w (.slice a L c) (sg bt 0 L) := by
  unfold StrAt
  cases L with
  | zero =>
    cases a with
    | none => exact run_convert_bytes_nil w _ 5 Try.underlying22 Try.underlying5 0 c _ Try.underlying9
    | some x =>
      rw [run_convert_bytes_string w _ _ 5 _ _ _ Try.underlying22 Try.underlying5 Try.underlying9, run_bytesToString w x 0 c [] (by simpa using run_loadCells_list (P := Try.prog) w x [] (fun j v hv => by simp at hv))]
      rfl
  | succ L =>
    obtain ⟨b, o, rfl, hb, hc⟩ := h 0 (by omega)
    refine run_convert_bytes_arg w _ 5 Try.underlying22 Try.underlying5 b o (L + 1) c _ (sg_len _ _ _) (fun i hi => ?_) _ Try.underlying9
    obtain ⟨b', o', e, hb, hc⟩ := h i hi
    injection e with e
    injection e with e1 e2
    subst e1; subst e2
    rw [sg_get bt hi]
    exact hc

/-- The bytes of a row, as a string. -/
def strR (L : Nat) (bt : Nat → Int) : List Int := sg bt 0 L

theorem RowB.str {w : World} {g L c : Nat} {bt : Nat → Int} (h : RowB w g L bt) : StrAt w (.slice (some ⟨g, 0, none⟩) L c) (strR L bt) := h.at.str

theorem strR_same {L : Nat} {a b : Nat → Int} (h : ∀ j, j < L → a j = b j) : strR L a = strR L b := by
  unfold strR sg
  apply List.map_congr_left
  intro x hx
  rw [List.mem_range'_1] at hx
  exact h x (by omega)
end Go.Proofs.Ytddalplpmgmplaa
