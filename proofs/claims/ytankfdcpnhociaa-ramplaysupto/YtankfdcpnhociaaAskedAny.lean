/- A call of both memories, whatever it is. -/
import Derived.Test.YtankfdcpnhociaaAsked1
import Derived.Test.YtankfdcpnhociaaAsked2
import Derived.Test.YtankfdcpnhociaaAsked3
import Derived.Test.YtankfdcpnhociaaAsked4
import Derived.Test.YtankfdcpnhociaaAsked6
import Derived.Test.YtankfdcpnhociaaAsked7
import Derived.Test.YtankfdcpnhociaaAsked8
namespace Go.Proofs.Ytankfdcpnhociaa
open Go.ChangeShapes Go.WideShapes Go.ChangeAt Go.RowKit Go.Maps Go.Shelf
set_option linter.unusedVariables false

/-- What is asked of a call's own bytes: they are there, and outside both memories. -/
def ByIn (w : World) (T : Nat → Prop) (p : Option Addr) (S o L c : Nat) (vs : List Int) : Prop :=
  vs.length = L ∧ L ≤ 1048576 ∧ (0 < L → p = some ⟨S, o, none⟩ ∧ L ≤ c ∧ T S ∧ S < w.heap.size ∧ ∀ j, j < L → w.cell? ⟨S, o + j, none⟩ = some (.int .u8 (vs.getD j 0))) ∧ ∀ j, j < L → 0 ≤ vs.getD j 0 ∧ vs.getD j 0 < 256

theorem asked_any (w : World) (B : Nat) (R : Rf) (M : Mem) (h : Both w B R M) (k a s v : Int) (p : Option Addr) (S o L c : Nat) (b : Bool) (vs : List Int) (a0 : 0 ≤ a) (a1 : a < 4294967296) (s0 : -9223372036854775808 ≤ s) (s1 : s ≤ 9223372036854775807) (v0 : 0 ≤ v) (v1 : v < 4294967296)
    (hb : ByIn w (fun q => ¬ both B M.n R q) p S o L c vs) :
    Calls Try.prog 11 #[.pointer (some ⟨B + 3, 0, none⟩), .pointer (some ⟨R.r, 0, none⟩), .agg (opCells k a s v (.slice p L c) b)] w (AskPost w B R M.n) := by
  obtain ⟨b1, b2, b3, b4⟩ := hb
  by_cases e1 : k = 1
  · subst e1; exact asked_1 w B R M h a s v (.slice p L c) b rfl a0 a1 s0 s1
  by_cases e2 : k = 2
  · subst e2; exact asked_2 w B R M h a s v (.slice p L c) b rfl a0 a1 s0 s1 v0 v1
  by_cases e3 : k = 3
  · subst e3; exact asked_3 w B R M h a s v (.slice p L c) b rfl a0 a1
  by_cases e4 : k = 4
  · subst e4; exact asked_4 w B R M h a s v (.slice p L c) b rfl a0 a1 s0 s1 v0 v1
  by_cases e5 : k = 5
  · subst e5; exact asked_5 w B R M h a s v (.slice p L c) b rfl a0 a1
  by_cases e6 : k = 6
  · subst e6; exact asked_6 w B R M h a s v (.slice p L c) b rfl
  by_cases e7 : k = 7
  · subst e7; exact asked_7 w B R M h a s v p S o L c vs b a0 a1 b1 (by omega) b3 b4
  by_cases e8 : k = 8
  · subst e8
    by_cases hL : L ≤ 1
    · exact asked_8_no w B R M h a s v p L c b hL
    · exact asked_8_yes w B R M h a s v p L c (L - 1) b a0 a1 (by omega) (by omega) (by omega)
  exact asked_else w B R M h k a s v (.slice p L c) b rfl a0 a1 (fun j j1 j8 e => by omega)
end Go.Proofs.Ytankfdcpnhociaa
