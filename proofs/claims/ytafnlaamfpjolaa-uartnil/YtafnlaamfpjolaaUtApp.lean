/- A byte joined to the bytes that were sent. -/
import Derived.Test.YtafnlaamfpjolaaUtLeaf
namespace Go.Proofs.Ytafnlaamfpjolaa
open Go.ChangeShapes Go.WideShapes Go.ChangeAt Go.RowKit
set_option linter.unusedVariables false

/-- The block of the slice. -/
def isO (v : Value) (k : Nat) : Prop := v.ownBlock = some k

theorem kp_grown {w w' : World} {v : Value} (g : w.grownBy w' v.ownBlock) : Kp (isO v) w w' :=
  ⟨g.os, g.tape, g.output, g.size, fun k hk hs => g.block k hk (fun e => hs e.symm)⟩

/-- One byte in a block of its own. -/
def wB (w : World) (v : Int) : World := w.alloc (.cells #[.int .u8 v] 5)

theorem appB {w : World} {sv : Value} {l : List Int} (h : OwnB w sv l) (v : Int) (hs : l.length < 140737488355328) :
    ∃ v' w', (Builtin.append_ #[35, 35] 35 #[sv, .slice (some ⟨w.heap.size, 0, none⟩) 1 1]).run Try.prog (wB w v) = .ok v' w' ∧ OwnB w' v' (l ++ [v]) ∧ Kp (isO sv) w w' ∧ (∀ g, v'.ownBlock = some g → sv.ownBlock = some g ∨ w.heap.size ≤ g) := by
  have h' : OwnB (wB w v) sv l := h.kept (Kp.alloc noB _ _) (fun _ _ => id)
  have hc : (wB w v).cell? ⟨w.heap.size, 0, none⟩ = some (.int .u8 v) := by
    have := heap_new w (.cells #[.int .u8 v] 5)
    unfold wB World.cell?
    simp only [this]
    rfl
  obtain ⟨v', w', hr, h2, h3, h4, h5⟩ := run_append_own_at (P := Try.prog) (wB w v) 0 35 35 5 _ (.int .u8 0) 1 1 Try.underlying35 (show Try.prog.info? 5 = some _ from Try.type5) (by kernel_rfl) (by kernel_rfl) (by kernel_rfl) (by kernel_rfl) (by decide)
    sv l.length (l.map (Value.int .u8)) h' ⟨w.heap.size, 0, none⟩ 1 1 [.int .u8 v] (by simp) (by
      intro j u hu
      cases j with
      | zero => simp only [List.getElem?_cons_zero, Option.some.injEq] at hu; subst hu; exact hc
      | succ j => simp at hu) (by simp [Value.oneCell']) (by unfold maxLen; omega) (by omega) (Nat.zero_le _)
  refine ⟨v', w', hr, ?_, (Kp.alloc _ _ _).trans (kp_grown h3), fun g e => ?_⟩
  · unfold OwnB
    rw [List.length_append, List.map_append]
    exact h2
  · rcases h5 with e5 | e5
    · exact .inl (e5 ▸ e)
    · rw [e5] at e
      simp only [Option.some.injEq] at e
      right
      subst e
      simp [wB]

/-- At a plain region's list: the append whose answer is known. -/
theorem wpList_appB {ops : Array Oper} {rest : List Oper} {o : Oper} {a : Act} {w w' : World} {Q : Exit → Act → World → Prop} {v v' x : Value} (hgd : o.guard = none) (s y : Operand)
    (ho : o.op = .call { callee := .builtin .append, args := #[s, y], argTypes := #[35, 35] }) (hty : o.type = 35) (hs : a.eval s = v) (hx : a.eval y = x)
    (hr : (Builtin.append_ #[35, 35] 35 #[v, x]).run Try.prog w = .ok v' w') (h : wpList Try.prog ops Q rest (a.put o.dst v') w') : wpList Try.prog ops Q (o :: rest) a w := by
  refine wpList_plain hgd fun K hK => ?_
  unfold Oper.wp execOp
  simp only [ho, hty, resolve, invoke, builtin, Sem.run_bind, Sem.run_pure, Result.andThen_ok, List.map_toArray, List.map_cons, List.map_nil, hs, hx, hr]
  exact hK _ _ h
end Go.Proofs.Ytafnlaamfpjolaa
