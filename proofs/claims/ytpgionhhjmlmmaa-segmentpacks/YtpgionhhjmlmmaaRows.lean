/-
  No cell of these rows narrows 'for every input' (looked for: loops, veiled, ifaces, maps, wideKeys, modest, calm, conditions, laid).
  DERIVED. THE GIVEN ROWS OF THIS SEAT. 6 by the template 'for every input the law returns true; each argument reads behind the call as it read before'; 0 by the template 'total and deterministic' (their statements: YtpgionhhjmlmmaaTotals.lean).
  GIVEN WITH THE SEED: the statements are not yours to turn. If you find one false, say at which input.
  Laid BY PROGRAM, IN A SANDBOX (cutbox-rows.mjs): the forced cells as the released guide's own fill.sh prints them over the translation fd96cf564546f621… (all of the seat's roots in one cut). By AI agents, Wed Nov 11 2026. No macro, syntax, notation, axiom, sorry.
-/
import Derived.Test.YtpgionhhjmlmmaaChecked
import GoSem.Claim
import GoSem.ClaimJoined
import GoSem.ClaimMapViews
import Derived.JoinedTies
import Derived.KernelRfl
namespace Go.Proofs.Ytpgionhhjmlmmaa
/- THE CELL 'sum', in the pinned program and in every row, IS THE sha256 OF THE DUMP (.gsa) THAT YtpgionhhjmlmmaaProg.lean LOADS. Nothing in Lean hashes anything: it is a label: what it is worth is what the hold of that sum in a sandbox is worth. -/
noncomputable def Try.pinned : Pinned := { name := "ytpgionhhjmlmmaa", sum := "fd96cf564546f621e40421cb45e2b5c3c99288421be92d8d6c6f86439466ae22", checked := Try.checked }
namespace Rows
def none {H : Type} : Left H := { results := [], args := [] }

/-- 'drawloomlaw08.SegmentNames': WHATEVER THE INPUT: true; the input reads as it did. -/
def segmentNamesSpec : ChangeSpec := { name := "segmentNames", fn := fun _ => fun
  | [] => { results := [.lit (.bool true)], args := [] }
  | _ => none }
def segmentNamesRow : OpenClaim := { program := "ytpgionhhjmlmmaa", sum := "fd96cf564546f621e40421cb45e2b5c3c99288421be92d8d6c6f86439466ae22", func := "drawloom/drawloomlaw08.SegmentNames", spec := "segmentNames", plainKeys := false, apart := false }
def SegmentNamesSaid : Prop := segmentNamesRow.holds Try.pinned (OpenSpec.ofChange segmentNamesSpec)

/-- ITS FALSE NEIGHBOUR: 'it returns false'. Refute it at one input. -/
def segmentNamesWrong : ChangeSpec := { name := "segmentNames", fn := fun _ => fun
  | [] => { results := [.lit (.bool false)], args := [] }
  | _ => none }
def SegmentNamesWrongFalsely : Prop := segmentNamesRow.holds Try.pinned (OpenSpec.ofChange segmentNamesWrong)

/-- 'drawloomlaw08.SegmentParses': WHATEVER THE INPUT: true; the input reads as it did. -/
def segmentParsesSpec : ChangeSpec := { name := "segmentParses", fn := fun _ => fun
  | [d1, d2] => { results := [.lit (.bool true)], args := [d1, d2] }
  | _ => none }
def segmentParsesRow : OpenClaim := { program := "ytpgionhhjmlmmaa", sum := "fd96cf564546f621e40421cb45e2b5c3c99288421be92d8d6c6f86439466ae22", func := "drawloom/drawloomlaw08.SegmentParses", spec := "segmentParses", plainKeys := false, apart := false }
def SegmentParsesSaid : Prop := segmentParsesRow.holds Try.pinned (OpenSpec.ofChange segmentParsesSpec)

/-- ITS FALSE NEIGHBOUR: 'it returns false'. Refute it at one input. -/
def segmentParsesWrong : ChangeSpec := { name := "segmentParses", fn := fun _ => fun
  | [d1, d2] => { results := [.lit (.bool false)], args := [d1, d2] }
  | _ => none }
def SegmentParsesWrongFalsely : Prop := segmentParsesRow.holds Try.pinned (OpenSpec.ofChange segmentParsesWrong)

/-- 'drawloomlaw08.SegmentPacks': WHATEVER THE INPUT: true; the input reads as it did. -/
def segmentPacksSpec : ChangeSpec := { name := "segmentPacks", fn := fun _ => fun
  | [d] => { results := [.lit (.bool true)], args := [d] }
  | _ => none }
def segmentPacksRow : OpenClaim := { program := "ytpgionhhjmlmmaa", sum := "fd96cf564546f621e40421cb45e2b5c3c99288421be92d8d6c6f86439466ae22", func := "drawloom/drawloomlaw08.SegmentPacks", spec := "segmentPacks", plainKeys := false, apart := false }
def SegmentPacksSaid : Prop := segmentPacksRow.holds Try.pinned (OpenSpec.ofChange segmentPacksSpec)

/-- ITS FALSE NEIGHBOUR: 'it returns false'. Refute it at one input. -/
def segmentPacksWrong : ChangeSpec := { name := "segmentPacks", fn := fun _ => fun
  | [d] => { results := [.lit (.bool false)], args := [d] }
  | _ => none }
def SegmentPacksWrongFalsely : Prop := segmentPacksRow.holds Try.pinned (OpenSpec.ofChange segmentPacksWrong)

/-- 'drawloomlaw08.SegmentLets': WHATEVER THE INPUT: true; the input reads as it did. -/
def segmentLetsSpec : ChangeSpec := { name := "segmentLets", fn := fun _ => fun
  | [d1, d2, d3, d4, d5, d6, d7] => { results := [.lit (.bool true)], args := [d1, d2, d3, d4, d5, d6, d7] }
  | _ => none }
def segmentLetsRow : OpenClaim := { program := "ytpgionhhjmlmmaa", sum := "fd96cf564546f621e40421cb45e2b5c3c99288421be92d8d6c6f86439466ae22", func := "drawloom/drawloomlaw08.SegmentLets", spec := "segmentLets", plainKeys := false, apart := false }
def SegmentLetsSaid : Prop := segmentLetsRow.holds Try.pinned (OpenSpec.ofChange segmentLetsSpec)

/-- ITS FALSE NEIGHBOUR: 'it returns false'. Refute it at one input. -/
def segmentLetsWrong : ChangeSpec := { name := "segmentLets", fn := fun _ => fun
  | [d1, d2, d3, d4, d5, d6, d7] => { results := [.lit (.bool false)], args := [d1, d2, d3, d4, d5, d6, d7] }
  | _ => none }
def SegmentLetsWrongFalsely : Prop := segmentLetsRow.holds Try.pinned (OpenSpec.ofChange segmentLetsWrong)

/-- 'drawloomlaw08.SegmentFalls': WHATEVER THE INPUT: true; the input reads as it did. -/
def segmentFallsSpec : ChangeSpec := { name := "segmentFalls", fn := fun _ => fun
  | [d1, d2, d3] => { results := [.lit (.bool true)], args := [d1, d2, d3] }
  | _ => none }
def segmentFallsRow : OpenClaim := { program := "ytpgionhhjmlmmaa", sum := "fd96cf564546f621e40421cb45e2b5c3c99288421be92d8d6c6f86439466ae22", func := "drawloom/drawloomlaw08.SegmentFalls", spec := "segmentFalls", plainKeys := false, apart := false }
def SegmentFallsSaid : Prop := segmentFallsRow.holds Try.pinned (OpenSpec.ofChange segmentFallsSpec)

/-- ITS FALSE NEIGHBOUR: 'it returns false'. Refute it at one input. -/
def segmentFallsWrong : ChangeSpec := { name := "segmentFalls", fn := fun _ => fun
  | [d1, d2, d3] => { results := [.lit (.bool false)], args := [d1, d2, d3] }
  | _ => none }
def SegmentFallsWrongFalsely : Prop := segmentFallsRow.holds Try.pinned (OpenSpec.ofChange segmentFallsWrong)

/-- 'drawloomlaw08.SegmentRings': WHATEVER THE INPUT: true; the input reads as it did. -/
def segmentRingsSpec : ChangeSpec := { name := "segmentRings", fn := fun _ => fun
  | [d1, d2, d3, d4] => { results := [.lit (.bool true)], args := [d1, d2, d3, d4] }
  | _ => none }
def segmentRingsRow : OpenClaim := { program := "ytpgionhhjmlmmaa", sum := "fd96cf564546f621e40421cb45e2b5c3c99288421be92d8d6c6f86439466ae22", func := "drawloom/drawloomlaw08.SegmentRings", spec := "segmentRings", plainKeys := false, apart := false }
def SegmentRingsSaid : Prop := segmentRingsRow.holds Try.pinned (OpenSpec.ofChange segmentRingsSpec)

/-- ITS FALSE NEIGHBOUR: 'it returns false'. Refute it at one input. -/
def segmentRingsWrong : ChangeSpec := { name := "segmentRings", fn := fun _ => fun
  | [d1, d2, d3, d4] => { results := [.lit (.bool false)], args := [d1, d2, d3, d4] }
  | _ => none }
def SegmentRingsWrongFalsely : Prop := segmentRingsRow.holds Try.pinned (OpenSpec.ofChange segmentRingsWrong)

/- THE SECOND FORM. 'bulk': how many values and letters a reading holds, each counted each time it is reached (what is shared counts as often as it is met; a slice's spare places count too). A statement '..UptoSaid' is the law's where the arguments, and the package variables that the reading takes, are together of bulk at most 1048576: NARROWER than '..Said'. Prove '..Said' where nothing that the law and all that it calls make is longer than what came in: it says more and counts as full. Else prove '..UptoSaid'. A law counts once. -/
mutual
def uptoBulk {H : Type} : DataW H → Nat
  | .lit (.string bytes) => bytes.length + 1
  | .lit _ => 1
  | .nil => 1
  | .ptr d => uptoBulk d + 1
  | .slice elems spare => uptoBulkAll elems + uptoBulkAll spare + 1
  | .agg parts => uptoBulkAll parts + 1
  | .iface _ d => uptoBulk d + 1
  | .map entries => uptoBulkEntries entries + 1
  | .held _ => 1
def uptoBulkAll {H : Type} : List (DataW H) → Nat
  | [] => 0
  | d :: r => uptoBulk d + uptoBulkAll r
def uptoBulkEntries {H : Type} : List (Lit × DataW H) → Nat
  | [] => 0
  | x :: r => uptoBulkEntry x + uptoBulkEntries r
def uptoBulkEntry {H : Type} : Lit × DataW H → Nat
  | (.string bytes, d) => bytes.length + uptoBulk d + 1
  | (_, d) => uptoBulk d + 1
 end
def uptoSmall : (H : Type) → List (DataW H) → Bool := fun _ ds => decide (uptoBulkAll ds ≤ 1048576)
def OpenSpec.upto (s : _root_.Go.ChangeSpec) : _root_.Go.OpenSpec := { _root_.Go.OpenSpec.ofChange s with cond := some uptoSmall }

/-- 'drawloomlaw08.SegmentNames', WHERE WHAT IT READS IS OF BULK AT MOST 1048576: true; the input reads as it did. -/
def segmentNamesUptoRow : OpenClaim := { program := "ytpgionhhjmlmmaa", sum := "fd96cf564546f621e40421cb45e2b5c3c99288421be92d8d6c6f86439466ae22", func := "drawloom/drawloomlaw08.SegmentNames", spec := "segmentNames", plainKeys := false, apart := false, narrowed := true }
def SegmentNamesUptoSaid : Prop := segmentNamesUptoRow.holds Try.pinned (OpenSpec.upto segmentNamesSpec)

/-- 'drawloomlaw08.SegmentParses', WHERE WHAT IT READS IS OF BULK AT MOST 1048576: true; the input reads as it did. -/
def segmentParsesUptoRow : OpenClaim := { program := "ytpgionhhjmlmmaa", sum := "fd96cf564546f621e40421cb45e2b5c3c99288421be92d8d6c6f86439466ae22", func := "drawloom/drawloomlaw08.SegmentParses", spec := "segmentParses", plainKeys := false, apart := false, narrowed := true }
def SegmentParsesUptoSaid : Prop := segmentParsesUptoRow.holds Try.pinned (OpenSpec.upto segmentParsesSpec)

/-- 'drawloomlaw08.SegmentPacks', WHERE WHAT IT READS IS OF BULK AT MOST 1048576: true; the input reads as it did. -/
def segmentPacksUptoRow : OpenClaim := { program := "ytpgionhhjmlmmaa", sum := "fd96cf564546f621e40421cb45e2b5c3c99288421be92d8d6c6f86439466ae22", func := "drawloom/drawloomlaw08.SegmentPacks", spec := "segmentPacks", plainKeys := false, apart := false, narrowed := true }
def SegmentPacksUptoSaid : Prop := segmentPacksUptoRow.holds Try.pinned (OpenSpec.upto segmentPacksSpec)

/-- 'drawloomlaw08.SegmentLets', WHERE WHAT IT READS IS OF BULK AT MOST 1048576: true; the input reads as it did. -/
def segmentLetsUptoRow : OpenClaim := { program := "ytpgionhhjmlmmaa", sum := "fd96cf564546f621e40421cb45e2b5c3c99288421be92d8d6c6f86439466ae22", func := "drawloom/drawloomlaw08.SegmentLets", spec := "segmentLets", plainKeys := false, apart := false, narrowed := true }
def SegmentLetsUptoSaid : Prop := segmentLetsUptoRow.holds Try.pinned (OpenSpec.upto segmentLetsSpec)

/-- 'drawloomlaw08.SegmentFalls', WHERE WHAT IT READS IS OF BULK AT MOST 1048576: true; the input reads as it did. -/
def segmentFallsUptoRow : OpenClaim := { program := "ytpgionhhjmlmmaa", sum := "fd96cf564546f621e40421cb45e2b5c3c99288421be92d8d6c6f86439466ae22", func := "drawloom/drawloomlaw08.SegmentFalls", spec := "segmentFalls", plainKeys := false, apart := false, narrowed := true }
def SegmentFallsUptoSaid : Prop := segmentFallsUptoRow.holds Try.pinned (OpenSpec.upto segmentFallsSpec)

/-- 'drawloomlaw08.SegmentRings', WHERE WHAT IT READS IS OF BULK AT MOST 1048576: true; the input reads as it did. -/
def segmentRingsUptoRow : OpenClaim := { program := "ytpgionhhjmlmmaa", sum := "fd96cf564546f621e40421cb45e2b5c3c99288421be92d8d6c6f86439466ae22", func := "drawloom/drawloomlaw08.SegmentRings", spec := "segmentRings", plainKeys := false, apart := false, narrowed := true }
def SegmentRingsUptoSaid : Prop := segmentRingsUptoRow.holds Try.pinned (OpenSpec.upto segmentRingsSpec)

end Rows
end Go.Proofs.Ytpgionhhjmlmmaa
