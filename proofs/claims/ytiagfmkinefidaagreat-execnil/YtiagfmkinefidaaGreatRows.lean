/-
  No cell of these rows narrows 'for every input' (looked for: loops, veiled, ifaces, maps, wideKeys, modest, calm, conditions, laid).
  DERIVED. THE GIVEN ROWS OF THIS SEAT. 6 by the template 'for every input the law returns true; each argument reads behind the call as it read before'; 0 by the template 'total and deterministic' (their statements: YtiagfmkinefidaaGreatTotals.lean).
  GIVEN WITH THE SEED: the statements are not yours to turn. If you find one false, say at which input.
  Laid BY PROGRAM, IN A SANDBOX (cutbox-rows.mjs): the forced cells as the released guide's own fill.sh prints them over the translation a339178da7e100a2… (all of the seat's roots in one cut). By AI agents, Wed Nov 11 2026. No macro, syntax, notation, axiom, sorry.
-/
import Derived.Test.YtiagfmkinefidaaGreatChecked
import GoSem.Claim
import GoSem.ClaimJoined
import GoSem.ClaimMapViews
import Derived.JoinedTies
import Derived.KernelRfl
namespace Go.Proofs.YtiagfmkinefidaaGreat
/- THE CELL 'sum', in the pinned program and in every row, IS THE sha256 OF THE DUMP (.gsa) THAT YtiagfmkinefidaaGreatProg.lean LOADS. Nothing in Lean hashes anything: it is a label: what it is worth is what the hold of that sum in a sandbox is worth. -/
noncomputable def Tryz.pinned : Pinned := { name := "ytiagfmkinefidaagreat", sum := "a339178da7e100a2c8594b5919b4a87245c0460cb7686e2e7daca74e0e40830b", checked := Tryz.checked }
namespace Rows
def none {H : Type} : Left H := { results := [], args := [] }

/-- 'drawloomlaw17.ExecNames': WHATEVER THE INPUT: true; the input reads as it did. -/
def execNamesSpec : ChangeSpec := { name := "execNames", fn := fun _ => fun
  | [] => { results := [.lit (.bool true)], args := [] }
  | _ => none }
def execNamesRow : OpenClaim := { program := "ytiagfmkinefidaagreat", sum := "a339178da7e100a2c8594b5919b4a87245c0460cb7686e2e7daca74e0e40830b", func := "drawloom/drawloomlaw17.ExecNames", spec := "execNames", unfollowed := true, recurses := true, plainKeys := false, apart := false }
def ExecNamesSaid : Prop := execNamesRow.holds Tryz.pinned (OpenSpec.ofChange execNamesSpec)

/-- ITS FALSE NEIGHBOUR: 'it returns false'. Refute it at one input. -/
def execNamesWrong : ChangeSpec := { name := "execNames", fn := fun _ => fun
  | [] => { results := [.lit (.bool false)], args := [] }
  | _ => none }
def ExecNamesWrongFalsely : Prop := execNamesRow.holds Tryz.pinned (OpenSpec.ofChange execNamesWrong)

/-- 'drawloomlaw17.ExecNil': WHATEVER THE INPUT: true; the input reads as it did. -/
def execNilSpec : ChangeSpec := { name := "execNil", fn := fun _ => fun
  | [d1, d2] => { results := [.lit (.bool true)], args := [d1, d2] }
  | _ => none }
def execNilRow : OpenClaim := { program := "ytiagfmkinefidaagreat", sum := "a339178da7e100a2c8594b5919b4a87245c0460cb7686e2e7daca74e0e40830b", func := "drawloom/drawloomlaw17.ExecNil", spec := "execNil", unfollowed := true, recurses := true, plainKeys := false, apart := false }
def ExecNilSaid : Prop := execNilRow.holds Tryz.pinned (OpenSpec.ofChange execNilSpec)

/-- ITS FALSE NEIGHBOUR: 'it returns false'. Refute it at one input. -/
def execNilWrong : ChangeSpec := { name := "execNil", fn := fun _ => fun
  | [d1, d2] => { results := [.lit (.bool false)], args := [d1, d2] }
  | _ => none }
def ExecNilWrongFalsely : Prop := execNilRow.holds Tryz.pinned (OpenSpec.ofChange execNilWrong)

/-- 'drawloomlaw17.ExecJumps': WHATEVER THE INPUT: true; the input reads as it did. -/
def execJumpsSpec : ChangeSpec := { name := "execJumps", fn := fun _ => fun
  | [d1, d2, d3] => { results := [.lit (.bool true)], args := [d1, d2, d3] }
  | _ => none }
def execJumpsRow : OpenClaim := { program := "ytiagfmkinefidaagreat", sum := "a339178da7e100a2c8594b5919b4a87245c0460cb7686e2e7daca74e0e40830b", func := "drawloom/drawloomlaw17.ExecJumps", spec := "execJumps", unfollowed := true, recurses := true, plainKeys := false, apart := false }
def ExecJumpsSaid : Prop := execJumpsRow.holds Tryz.pinned (OpenSpec.ofChange execJumpsSpec)

/-- ITS FALSE NEIGHBOUR: 'it returns false'. Refute it at one input. -/
def execJumpsWrong : ChangeSpec := { name := "execJumps", fn := fun _ => fun
  | [d1, d2, d3] => { results := [.lit (.bool false)], args := [d1, d2, d3] }
  | _ => none }
def ExecJumpsWrongFalsely : Prop := execJumpsRow.holds Tryz.pinned (OpenSpec.ofChange execJumpsWrong)

/-- 'drawloomlaw17.ExecMoves': WHATEVER THE INPUT: true; the input reads as it did. -/
def execMovesSpec : ChangeSpec := { name := "execMoves", fn := fun _ => fun
  | [d1, d2, d3, d4] => { results := [.lit (.bool true)], args := [d1, d2, d3, d4] }
  | _ => none }
def execMovesRow : OpenClaim := { program := "ytiagfmkinefidaagreat", sum := "a339178da7e100a2c8594b5919b4a87245c0460cb7686e2e7daca74e0e40830b", func := "drawloom/drawloomlaw17.ExecMoves", spec := "execMoves", unfollowed := true, recurses := true, plainKeys := false, apart := false }
def ExecMovesSaid : Prop := execMovesRow.holds Tryz.pinned (OpenSpec.ofChange execMovesSpec)

/-- ITS FALSE NEIGHBOUR: 'it returns false'. Refute it at one input. -/
def execMovesWrong : ChangeSpec := { name := "execMoves", fn := fun _ => fun
  | [d1, d2, d3, d4] => { results := [.lit (.bool false)], args := [d1, d2, d3, d4] }
  | _ => none }
def ExecMovesWrongFalsely : Prop := execMovesRow.holds Tryz.pinned (OpenSpec.ofChange execMovesWrong)

/-- 'drawloomlaw17.ExecStacks': WHATEVER THE INPUT: true; the input reads as it did. -/
def execStacksSpec : ChangeSpec := { name := "execStacks", fn := fun _ => fun
  | [d1, d2, d3] => { results := [.lit (.bool true)], args := [d1, d2, d3] }
  | _ => none }
def execStacksRow : OpenClaim := { program := "ytiagfmkinefidaagreat", sum := "a339178da7e100a2c8594b5919b4a87245c0460cb7686e2e7daca74e0e40830b", func := "drawloom/drawloomlaw17.ExecStacks", spec := "execStacks", unfollowed := true, recurses := true, plainKeys := false, apart := false }
def ExecStacksSaid : Prop := execStacksRow.holds Tryz.pinned (OpenSpec.ofChange execStacksSpec)

/-- ITS FALSE NEIGHBOUR: 'it returns false'. Refute it at one input. -/
def execStacksWrong : ChangeSpec := { name := "execStacks", fn := fun _ => fun
  | [d1, d2, d3] => { results := [.lit (.bool false)], args := [d1, d2, d3] }
  | _ => none }
def ExecStacksWrongFalsely : Prop := execStacksRow.holds Tryz.pinned (OpenSpec.ofChange execStacksWrong)

/-- 'drawloomlaw17.ExecRepeats': WHATEVER THE INPUT: true; the input reads as it did. -/
def execRepeatsSpec : ChangeSpec := { name := "execRepeats", fn := fun _ => fun
  | [d1, d2, d3, d4] => { results := [.lit (.bool true)], args := [d1, d2, d3, d4] }
  | _ => none }
def execRepeatsRow : OpenClaim := { program := "ytiagfmkinefidaagreat", sum := "a339178da7e100a2c8594b5919b4a87245c0460cb7686e2e7daca74e0e40830b", func := "drawloom/drawloomlaw17.ExecRepeats", spec := "execRepeats", unfollowed := true, recurses := true, plainKeys := false, apart := false }
def ExecRepeatsSaid : Prop := execRepeatsRow.holds Tryz.pinned (OpenSpec.ofChange execRepeatsSpec)

/-- ITS FALSE NEIGHBOUR: 'it returns false'. Refute it at one input. -/
def execRepeatsWrong : ChangeSpec := { name := "execRepeats", fn := fun _ => fun
  | [d1, d2, d3, d4] => { results := [.lit (.bool false)], args := [d1, d2, d3, d4] }
  | _ => none }
def ExecRepeatsWrongFalsely : Prop := execRepeatsRow.holds Tryz.pinned (OpenSpec.ofChange execRepeatsWrong)

/- THE SECOND FORM. 'bulk': how many values and letters a reading holds, each counted each time it is reached (what is shared counts as often as it is met; a slice's spare places count too). A statement '..UptoSaid' is the law's where the arguments, and the package variables that the reading takes, are together of bulk at most 1048576: NARROWER than '..Said'. Prove '..Said' where nothing that the law and all that it calls make is longer than what came in: it says more and counts as full. Else prove '..UptoSaid'. A law counts once. -/
mutual
def uptoBulk {H : Type} : DataW H → Nat
  | .lit (.string bytes) => bytes.length + 1
  | .lit _ => 1
  | .nil => 1
  | .ptr d => uptoBulk d + 1
  | .slice elems spare => uptoBulkAll elems + uptoBulkAll spare + 1
  | .agg parts => uptoBulkAll parts + 1
  | .iface _ d => uptoBulk d + 1
  | .map entries => uptoBulkEntries entries + 1
  | .held _ => 1
def uptoBulkAll {H : Type} : List (DataW H) → Nat
  | [] => 0
  | d :: r => uptoBulk d + uptoBulkAll r
def uptoBulkEntries {H : Type} : List (Lit × DataW H) → Nat
  | [] => 0
  | x :: r => uptoBulkEntry x + uptoBulkEntries r
def uptoBulkEntry {H : Type} : Lit × DataW H → Nat
  | (.string bytes, d) => bytes.length + uptoBulk d + 1
  | (_, d) => uptoBulk d + 1
 end
def uptoSmall : (H : Type) → List (DataW H) → Bool := fun _ ds => decide (uptoBulkAll ds ≤ 1048576)
def OpenSpec.upto (s : _root_.Go.ChangeSpec) : _root_.Go.OpenSpec := { _root_.Go.OpenSpec.ofChange s with cond := some uptoSmall }

/-- 'drawloomlaw17.ExecNames', WHERE WHAT IT READS IS OF BULK AT MOST 1048576: true; the input reads as it did. -/
def execNamesUptoRow : OpenClaim := { program := "ytiagfmkinefidaagreat", sum := "a339178da7e100a2c8594b5919b4a87245c0460cb7686e2e7daca74e0e40830b", func := "drawloom/drawloomlaw17.ExecNames", spec := "execNames", unfollowed := true, recurses := true, plainKeys := false, apart := false, narrowed := true }
def ExecNamesUptoSaid : Prop := execNamesUptoRow.holds Tryz.pinned (OpenSpec.upto execNamesSpec)

/-- 'drawloomlaw17.ExecNil', WHERE WHAT IT READS IS OF BULK AT MOST 1048576: true; the input reads as it did. -/
def execNilUptoRow : OpenClaim := { program := "ytiagfmkinefidaagreat", sum := "a339178da7e100a2c8594b5919b4a87245c0460cb7686e2e7daca74e0e40830b", func := "drawloom/drawloomlaw17.ExecNil", spec := "execNil", unfollowed := true, recurses := true, plainKeys := false, apart := false, narrowed := true }
def ExecNilUptoSaid : Prop := execNilUptoRow.holds Tryz.pinned (OpenSpec.upto execNilSpec)

/-- 'drawloomlaw17.ExecJumps', WHERE WHAT IT READS IS OF BULK AT MOST 1048576: true; the input reads as it did. -/
def execJumpsUptoRow : OpenClaim := { program := "ytiagfmkinefidaagreat", sum := "a339178da7e100a2c8594b5919b4a87245c0460cb7686e2e7daca74e0e40830b", func := "drawloom/drawloomlaw17.ExecJumps", spec := "execJumps", unfollowed := true, recurses := true, plainKeys := false, apart := false, narrowed := true }
def ExecJumpsUptoSaid : Prop := execJumpsUptoRow.holds Tryz.pinned (OpenSpec.upto execJumpsSpec)

/-- 'drawloomlaw17.ExecMoves', WHERE WHAT IT READS IS OF BULK AT MOST 1048576: true; the input reads as it did. -/
def execMovesUptoRow : OpenClaim := { program := "ytiagfmkinefidaagreat", sum := "a339178da7e100a2c8594b5919b4a87245c0460cb7686e2e7daca74e0e40830b", func := "drawloom/drawloomlaw17.ExecMoves", spec := "execMoves", unfollowed := true, recurses := true, plainKeys := false, apart := false, narrowed := true }
def ExecMovesUptoSaid : Prop := execMovesUptoRow.holds Tryz.pinned (OpenSpec.upto execMovesSpec)

/-- 'drawloomlaw17.ExecStacks', WHERE WHAT IT READS IS OF BULK AT MOST 1048576: true; the input reads as it did. -/
def execStacksUptoRow : OpenClaim := { program := "ytiagfmkinefidaagreat", sum := "a339178da7e100a2c8594b5919b4a87245c0460cb7686e2e7daca74e0e40830b", func := "drawloom/drawloomlaw17.ExecStacks", spec := "execStacks", unfollowed := true, recurses := true, plainKeys := false, apart := false, narrowed := true }
def ExecStacksUptoSaid : Prop := execStacksUptoRow.holds Tryz.pinned (OpenSpec.upto execStacksSpec)

/-- 'drawloomlaw17.ExecRepeats', WHERE WHAT IT READS IS OF BULK AT MOST 1048576: true; the input reads as it did. -/
def execRepeatsUptoRow : OpenClaim := { program := "ytiagfmkinefidaagreat", sum := "a339178da7e100a2c8594b5919b4a87245c0460cb7686e2e7daca74e0e40830b", func := "drawloom/drawloomlaw17.ExecRepeats", spec := "execRepeats", unfollowed := true, recurses := true, plainKeys := false, apart := false, narrowed := true }
def ExecRepeatsUptoSaid : Prop := execRepeatsUptoRow.holds Tryz.pinned (OpenSpec.upto execRepeatsSpec)

end Rows
end Go.Proofs.YtiagfmkinefidaaGreat
