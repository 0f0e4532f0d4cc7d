/- A function that comes to a 'select' which never waits: its walk by pieces. -/
import Derived.Test.YtafnlaamfpjolaaUtBase
import Derived.Conc.LoneSelectN
import Derived.Conc.LoneSelect
namespace Go.Proofs.Ytafnlaamfpjolaa
open Go.ChangeShapes Go.WideShapes Go.ChangeAt Go.RowKit Go.Conc
set_option linter.unusedVariables false

/-- From here, in a frame of an ordinary call of f, the rest of the body leads to R. -/
def LoneB (P : Program) (f : FuncId) (R : Ending → World → Prop) (c : Code) (a : Act) (w : World) : Prop :=
  ∀ cs, LoneTo P (fun g' w' => ∃ e fr, g' = G fr cs ∧ (R e w' ∧ e ≠ .outgrown) ∧ fr.fn = f ∧ fr.leaving P w' e) (G ((base f).at a [.code c]) cs) w

section
variable {P : Program} {f : FuncId} {fn : Func} {R : Ending → World → Prop} {a : Act} {w : World}

theorem calls_of_loneB {c : Code} {args : Array Value} (hf : P.funcs[f]? = some fn) (hb : fn.body = some c)
    (h : LoneB P f R c { tmps := args ++ Array.replicate (fn.ntmps - args.size) undef, defers := [] } w) : Calls P f args w R := by
  refine Calls.mono (calls_of_loneTo (R := fun e w' => R e w' ∧ e ≠ .outgrown) (fun cs => ?_) (fun w' g => g.2 rfl)) (fun e w' g => g.1)
  have henter : Frame.enter P f args .normal = (base f).at { tmps := args ++ Array.replicate (fn.ntmps - args.size) undef, defers := [] } [.code c] := by
    simp [Frame.enter, Frame.at, hf, hb, base]
  rw [henter]
  exact h cs

theorem LoneTo.steps {Q : Goroutine → World → Prop} {g g' : Goroutine} {w w' : World} (h : Steps P (solo g w) (solo g' w')) (h' : LoneTo P Q g' w') : LoneTo P Q g w :=
  let ⟨g₂, w₂, hs, hq⟩ := h'; ⟨g₂, w₂, h.trans hs, hq⟩

/-- A piece that goes straight on. -/
theorem loneB_seq {x y : Code} (h : x.wp P (fun e a' w' => e = .normal ∧ LoneB P f R y a' w') a w) : LoneB P f R (x.seq y) a w := by
  intro cs
  obtain ⟨e, a', w', ⟨rfl, hq⟩, harr⟩ := h (base f) [.code y] cs
  exact LoneTo.step step_seq (LoneTo.steps harr (hq cs))

/-- The body's last piece. -/
theorem loneB_end {c : Code} (hf : P.funcs[f]? = some fn) (h : c.wp P (bodyPost P fn fun e w' => R e w' ∧ e ≠ .outgrown) a w) : LoneB P f R c a w := by
  intro cs
  obtain ⟨e, a', w', hq, harr⟩ := h (base f) [] cs
  cases e with
  | normal =>
    obtain ⟨hd, v, hr, hR⟩ := hq
    exact LoneTo.steps (Steps.trans harr (.one step_end)) (LoneTo.done ⟨.returned v, _, rfl, hR, rfl, rfl, hd, rfl, fn, hf, hr⟩)
  | ret =>
    obtain ⟨hd, v, hr, hR⟩ := hq
    obtain ⟨todo, hs⟩ := harr
    exact LoneTo.steps hs (LoneTo.done ⟨.returned v, _, rfl, hR, rfl, rfl, hd, rfl, fn, hf, hr⟩)
  | panic chain =>
    obtain ⟨hd, hR⟩ := hq
    obtain ⟨todo, hs⟩ := harr
    exact LoneTo.steps hs (LoneTo.done ⟨.panicked chain, _, rfl, hR, rfl, rfl, hd, fn, hf⟩)
  | exit id => exact hq.elim
  | goto l => exact hq.elim
  | outgrown => exact (hq.2 rfl).elim

/-- A region that opens with a select; its step is known. -/
theorem loneB_sel {id : Nat} {l : List Oper} {o : Oper} {y : Code} (v : Value) (w' : World)
    (hs : ∀ (k : List Item) cs, step P (solo (G ((base f).at a (.inRegion (o :: l).toArray (0 :: List.range' 1 l.length) :: k)) cs) w) = .next (solo (G (((base f).at a (.inRegion (o :: l).toArray (0 :: List.range' 1 l.length) :: k)).finish v) cs) w'))
    (h : wpList P (o :: l).toArray (fun e a' w'' => e = .normal ∧ LoneB P f R y a' w'') l (a.put o.dst v) w') : LoneB P f R ((Code.region id (o :: l).toArray false).seq y) a w := by
  intro cs
  refine LoneTo.step step_seq (LoneTo.step step_region ?_)
  have hr : List.range (o :: l).toArray.size = 0 :: List.range' 1 l.length := by
    rw [List.range_eq_range', List.size_toArray, List.length_cons, List.range'_succ]
  rw [hr]
  refine LoneTo.step (hs _ cs) ?_
  rw [Frame.finish_at]
  have ho : ((o :: l).toArray[0]?).bind (·.dst) = o.dst := by simp
  rw [ho]
  rw [← wpOps_eq_wpList (ops := (o :: l).toArray) l 1 (fun j => by simp [Nat.add_comm 1 j])] at h
  obtain ⟨e, a', w₂, ⟨rfl, hq⟩, harr⟩ := wp_ops _ _ _ h (base f) [.code y] cs
  exact LoneTo.steps harr (hq cs)
end
end Go.Proofs.Ytafnlaamfpjolaa
