/- A descriptor (the struct Desc), as it is read: its seven cells; what was read is read again where the world has at most new blocks. -/
import Derived.Test.YtpgionhhjmlmmaaRows
import Derived.Test.YtpgionhhjmlmmaaGrow
import Derived.WalkKit
import Derived.ProofKit
import Derived.OpenShut
import Derived.Carry
namespace Go.Proofs.Ytpgionhhjmlmmaa
open Go.ChangeShapes Go.WideShapes Go.ChangeAt Go.RowKit
set_option linter.unusedVariables false

theorem desc_size : Try.prog.cellsOf 25 = 7 := by kernel_rfl
theorem one_int : Try.prog.cellsOf 3 = 1 := by kernel_rfl
theorem one_u32 : Try.prog.cellsOf 23 = 1 := by kernel_rfl
theorem one_bool : Try.prog.cellsOf 4 = 1 := by kernel_rfl

theorem list_seven {α : Type} : ∀ (l : List α), l.length = 7 → ∃ a b c d e f g, l = [a, b, c, d, e, f, g]
  | [a, b, c, d, e, f, g], _ => ⟨a, b, c, d, e, f, g, rfl⟩

theorem desc_cells {H : Type} {enc : TypeId × Value → H} {w : World} {base : Nat} {sp : Nat → Bool} {held : Bool} {fuel : Nat} {cs : List Value} {x : DataW H × List MemPlace} (h : DataW.trod enc Try.prog w base sp held fuel 25 cs = some x) :
    ∃ (b l t : Int) (s : Bool) (d : Int) (p g : Bool), cs = [.int .u32 b, .int .u32 l, .int .i64 t, .bool s, .int .i64 d, .bool p, .bool g] ∧ (Lit.int .u32 b).wf = true ∧ (Lit.int .u32 l).wf = true ∧ (Lit.int .i64 t).wf = true ∧ (Lit.int .i64 d).wf = true := by
  cases fuel with
  | zero => simp [DataW.trod] at h
  | succ n =>
    rw [DataW.trod_step] at h
    unfold DataW.trodStep at h
    simp only [Try.underlying25] at h
    split at h
    · rename_i hl
      rw [desc_size] at hl
      obtain ⟨c0, c1, c2, c3, c4, c5, c6, rfl⟩ := list_seven cs hl
      · simp only [Option.map_eq_some_iff] at h
        obtain ⟨xs, hx, e1⟩ := h
        simp only [List.mapM_cons, List.mapM_nil, bind, Option.bind_eq_some_iff, pure, Option.some.injEq, one_int, one_u32, one_bool, List.drop_zero, List.drop_succ_cons, List.take_succ_cons, List.take_zero] at hx
        obtain ⟨y0, h0, _, ⟨y1, h1, _, ⟨y2, h2, _, ⟨y3, h3, _, ⟨y4, h4, _, ⟨y5, h5, _, ⟨y6, h6, _, rfl, rfl⟩, rfl⟩, rfl⟩, rfl⟩, rfl⟩, rfl⟩, rfl⟩ := hx
        obtain ⟨b, ea, rfl, wb⟩ := DataW.trod_int Try.underlying23 h0
        obtain ⟨l, eb, rfl, wl⟩ := DataW.trod_int Try.underlying23 h1
        obtain ⟨t, ec, rfl, wt⟩ := DataW.trod_int Try.underlying3 h2
        obtain ⟨s, ed, rfl⟩ := DataW.trod_bool Try.underlying4 h3
        obtain ⟨d, ee, rfl, wd⟩ := DataW.trod_int Try.underlying3 h4
        obtain ⟨p, ef, rfl⟩ := DataW.trod_bool Try.underlying4 h5
        obtain ⟨g, eg, rfl⟩ := DataW.trod_bool Try.underlying4 h6
        simp at ea eb ec ed ee ef eg
        subst ea; subst eb; subst ec; subst ed; subst ee; subst ef; subst eg
        exact ⟨b, l, t, s, d, p, g, rfl, wb, wl, wt, wd⟩
    · cases h

theorem Grown.same {W w' : World} (h : Grown W w') {p : MemPlace} (hp : p.block < W.heap.size) : W.sameAt w' p := by
  cases p with
  | cell b o => exact World.cell?_of_block (w := W) (Grown.block h hp)
  | map b => exact Grown.block h hp

theorem Grown.trod {H : Type} {enc : TypeId × Value → H} {t : TypeId} (hl : laidOutB Try.prog = true) (hr : Try.prog.readableRec t = true) (hrow : t < Try.prog.types.size) {W W' : World} {v : Value} {d : DataW H} {ps : List MemPlace}
    (h : DataW.Trod enc Try.prog W 0 (fun _ => true) true t v d ps) (hb : Grown W W') (hlt : ∀ x ∈ ps, x.block < W.heap.size) :
    DataW.Trod enc Try.prog W' 0 (fun b => decide (b < W.heap.size)) true t v d ps :=
  WideElems.Trod_stays hl hr hrow h (fun x hx => Grown.same hb (hlt x hx)) (fun x hx => by simpa using hlt x hx)
end Go.Proofs.Ytpgionhhjmlmmaa
