/- A call of a script (the struct Op), as it is read: its six cells. -/
import Derived.Test.YtankfdcpnhociaaRows
import Derived.WalkKit
import Derived.ProofKit
import Derived.OpenShut
import Derived.Carry
namespace Go.Proofs.Ytankfdcpnhociaa
open Go.ChangeShapes Go.WideShapes Go.ChangeAt Go.RowKit
set_option linter.unusedVariables false

theorem op_size : Try.prog.cellsOf 35 = 6 := by kernel_rfl
theorem one_int : Try.prog.cellsOf 3 = 1 := by kernel_rfl
theorem one_u32 : Try.prog.cellsOf 32 = 1 := by kernel_rfl
theorem one_bytes : Try.prog.cellsOf 33 = 1 := by kernel_rfl
theorem one_bool : Try.prog.cellsOf 4 = 1 := by kernel_rfl

theorem list_six {α : Type} : ∀ (l : List α), l.length = 6 → ∃ a b c d e f, l = [a, b, c, d, e, f]
  | [a, b, c, d, e, f], _ => ⟨a, b, c, d, e, f, rfl⟩

theorem op_cells {H : Type} {enc : TypeId × Value → H} {w : World} {base : Nat} {sp : Nat → Bool} {held : Bool} {fuel : Nat} {cs : List Value} {x : DataW H × List MemPlace} (h : DataW.trod enc Try.prog w base sp held fuel 35 cs = some x) :
    ∃ (k a s v : Int) (sl : Value) (b : Bool) (n : Nat) (y : DataW H × List MemPlace), cs = [.int .i64 k, .int .u32 a, .int .i64 s, .int .u32 v, sl, .bool b] ∧ (Lit.int .i64 k).wf = true ∧ (Lit.int .u32 a).wf = true ∧ (Lit.int .i64 s).wf = true ∧ (Lit.int .u32 v).wf = true ∧
      DataW.trod enc Try.prog w base sp held n 33 [sl] = some y ∧ x = (.agg [.lit (.int .i64 k), .lit (.int .u32 a), .lit (.int .i64 s), .lit (.int .u32 v), y.1, .lit (.bool b)], y.2) := by
  cases fuel with
  | zero => simp [DataW.trod] at h
  | succ n =>
    rw [DataW.trod_step] at h
    unfold DataW.trodStep at h
    simp only [Try.underlying35] at h
    split at h
    · rename_i hl
      rw [op_size] at hl
      obtain ⟨c0, c1, c2, c3, c4, c5, rfl⟩ := list_six cs hl
      · simp only [Option.map_eq_some_iff] at h
        obtain ⟨xs, hx, e1⟩ := h
        simp only [List.mapM_cons, List.mapM_nil, bind, Option.bind_eq_some_iff, pure, Option.some.injEq, one_int, one_u32, one_bytes, one_bool, List.drop_zero, List.drop_succ_cons, List.take_succ_cons, List.take_zero] at hx
        obtain ⟨y0, h0, _, ⟨y1, h1, _, ⟨y2, h2, _, ⟨y3, h3, _, ⟨y4, h4, _, ⟨y5, h5, _, rfl, rfl⟩, rfl⟩, rfl⟩, rfl⟩, rfl⟩, rfl⟩ := hx
        obtain ⟨k, ea, rfl, wk⟩ := DataW.trod_int Try.underlying3 h0
        obtain ⟨a, eb, rfl, wa⟩ := DataW.trod_int Try.underlying32 h1
        obtain ⟨s, ec, rfl, ws⟩ := DataW.trod_int Try.underlying3 h2
        obtain ⟨v, ed, rfl, wv⟩ := DataW.trod_int Try.underlying32 h3
        obtain ⟨b, ef, rfl⟩ := DataW.trod_bool Try.underlying4 h5
        simp at ea eb ec ed ef
        subst ea; subst eb; subst ec; subst ed; subst ef
        exact ⟨k, a, s, v, c4, b, n, y4, rfl, wk, wa, ws, wv, h4, by rw [← e1]; simp⟩
    · cases h

/-- A slice of bytes is one cell. -/
theorem bytes_cell {H : Type} {enc : TypeId × Value → H} {w : World} {base : Nat} {sp : Nat → Bool} {held : Bool} {fuel : Nat} {sl : Value} {x : DataW H × List MemPlace} (h : DataW.trod enc Try.prog w base sp held fuel 33 [sl] = some x) : sl.oneCell' = true := by
  rcases DataW.trod_slice Try.underlying33 h with ⟨e, _⟩ | ⟨a, len, cap, _, _, _, _, e, _⟩
  · simp at e; subst e; rfl
  · simp at e; subst e; rfl
end Go.Proofs.Ytankfdcpnhociaa
