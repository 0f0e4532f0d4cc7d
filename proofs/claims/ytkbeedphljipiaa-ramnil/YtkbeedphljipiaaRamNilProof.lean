/- RamNil returns true for every call of a script, and its input reads as it did: no condition. -/
import Derived.Test.YtkbeedphljipiaaRows
import Derived.WalkKit
import Derived.ProofKit
import Derived.OpenShut
import Derived.Test.YtkbeedphljipiaaRamNilLaw
import Derived.Test.YtkbeedphljipiaaOpOpen
namespace Go.Proofs.Ytkbeedphljipiaa.ramNil
open Go.ChangeShapes Go.WideShapes Go.ChangeAt Go.RowKit
set_option linter.unusedVariables false

theorem own : ownKnob Try.prog.godebug = none := by kernel_rfl
theorem laid : laidOutB Try.prog = true := by kernel_rfl

set_option maxRecDepth 100000 in
theorem lifted (os : Os) (started : os.Started) (H : Type) (enc : TypeId × Value → H) :
    ReturnsInHanded {} Try.checked os 6 .any (Rows.ramNilSpec.pre6 enc Try.prog Try.f6 Rows.ramNilRow.domain false) (Rows.ramNilSpec.post enc Try.prog Try.f6 false true false false) := by
  refine returnsInHanded_of_change (C := Try.checked) own started (by kernel_rfl) Try.func6
    (ChangeSpec.witness6 (enc := enc) (C := Try.checked) false ⟨#[], #[.agg #[.int .i64 0, .int .u32 0, .int .i64 0, .int .u32 0, .slice none 0 0, .bool false]], []⟩ 8 (by kernel_rfl) (by kernel_rfl) (by kernel_rfl) (by kernel_rfl)) ?_
  intro W base args ds gs before hval0 hW hcnd _
  have hval : ∀ (j : Nat) t v, Try.f6.params[j]? = some t → args[j]? = some v → Value.okWide Try.prog W .any base t v := hval0
  have hW' := hW
  obtain ⟨p, q, hA0, hV, rfl, hfz, hnd⟩ := hW
  have hA : DataW.TrodAll enc Try.prog W 0 (fun _ => true) true Try.f6.params.toList args.toList ds p := hA0
  rw [Try.params6] at hA hval
  obtain ⟨v0, vs0, d0, ds0, p0, q0, hargs, rfl, rfl, h0, r0⟩ := trodAll_cons hA
  obtain ⟨rfl, rfl, rfl⟩ := trodAll_nil r0
  obtain rfl : args = #[v0] := by cases args; simp_all
  obtain ⟨rfl, rfl⟩ := trodVars_none hV
  have hv := hval 0 35 v0 rfl rfl
  unfold Value.okWide at hv
  rw [Try.underlying35] at hv
  obtain ⟨cs, rfl, hsz, _⟩ := hv
  have h0' := h0
  obtain ⟨fuel, hf⟩ := h0'
  obtain ⟨k, a, s, v, sl, b, n, y, hc, wk, wa, ws, wv, hy, _⟩ := op_cells hf
  have hcs : cs = #[.int .i64 k, .int .u32 a, .int .i64 s, .int .u32 v, sl, .bool b] := by
    have : cs.toList = [.int .i64 k, .int .u32 a, .int .i64 s, .int .u32 v, sl, .bool b] := by simpa [Value.cells] using hc
    exact Array.ext' this
  subst hcs
  have hlt := hW'.lt
  clear hA0 hval0
  refine (RamNil_walk k a s v sl b (bytes_cell hy) W).mono fun e W' ⟨he, hg⟩ => ?_
  subst he
  have ht := Below.trod laid (by kernel_rfl) (of_decide_eq_true (by kernel_rfl)) h0 hg (fun x hx => hlt x (by simpa using hx))
  exact ⟨_, rfl, _, _, _, [], _, [], hW', trodAll_cons_mk (shut_bool Try.underlying4 _) trodAll_mk0, trodAll_cons_mk ht trodAll_mk0, rfl, hg.frame _, fun h => by cases h⟩

theorem over : Rows.ramNilRow.holds Try.pinned (OpenSpec.ofChange Rows.ramNilSpec) :=
  OpenClaim.holds_of_wide 6 Try.f6 rfl rfl rfl rfl rfl rfl rfl ⟨rfl, rfl, rfl, rfl, rfl⟩ rfl rfl rfl rfl rfl (by kernel_rfl) Try.func6 (by kernel_rfl)
    (of_decide_eq_true (by kernel_rfl)) (by unfold Func.isWrapper; first | (rw [if_pos (by decide +kernel)]; kernel_rfl) | (rw [if_neg (by decide +kernel)]; exact ⟨rfl, rfl⟩))
    (fun os started H enc _ => lifted os started H enc)

theorem proved : Rows.RamNilSaid :=
  over
end Go.Proofs.Ytkbeedphljipiaa.ramNil

namespace Go.Proofs.Ytkbeedphljipiaa
theorem ramNil_holds : Rows.RamNilSaid := ramNil.proved
end Go.Proofs.Ytkbeedphljipiaa
