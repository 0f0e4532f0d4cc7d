/-
  No cell of these rows narrows 'for every input' (looked for: loops, veiled, ifaces, maps, wideKeys, modest, calm, conditions, laid).
  DERIVED. THE GIVEN ROWS OF THIS SEAT. 6 by the template 'for every input the law returns true; each argument reads behind the call as it read before'; 0 by the template 'total and deterministic' (their statements: YtopeccjghamjmaaGreatTotals.lean).
  GIVEN WITH THE SEED: the statements are not yours to turn. If you find one false, say at which input.
  Laid BY PROGRAM, IN A SANDBOX (cutbox-rows.mjs): the forced cells as the released guide's own fill.sh prints them over the translation 6a2f89f0afda0da6… (all of the seat's roots in one cut). By AI agents, Wed Nov 11 2026. No macro, syntax, notation, axiom, sorry.
-/
import Derived.Test.YtopeccjghamjmaaGreatChecked
import GoSem.Claim
import GoSem.ClaimJoined
import GoSem.ClaimMapViews
import Derived.JoinedTies
import Derived.KernelRfl
namespace Go.Proofs.YtopeccjghamjmaaGreat
/- THE CELL 'sum', in the pinned program and in every row, IS THE sha256 OF THE DUMP (.gsa) THAT YtopeccjghamjmaaGreatProg.lean LOADS. Nothing in Lean hashes anything: it is a label: what it is worth is what the hold of that sum in a sandbox is worth. -/
noncomputable def Tryz.pinned : Pinned := { name := "ytopeccjghamjmaagreat", sum := "6a2f89f0afda0da6fb27575514421647aef16921f0141422138be9f23392095c", checked := Tryz.checked }
namespace Rows
def none {H : Type} : Left H := { results := [], args := [] }

/-- 'drawloomlaw06.DecodeNames': WHATEVER THE INPUT: true; the input reads as it did. -/
def decodeNamesSpec : ChangeSpec := { name := "decodeNames", fn := fun _ => fun
  | [] => { results := [.lit (.bool true)], args := [] }
  | _ => none }
def decodeNamesRow : OpenClaim := { program := "ytopeccjghamjmaagreat", sum := "6a2f89f0afda0da6fb27575514421647aef16921f0141422138be9f23392095c", func := "drawloom/drawloomlaw06.DecodeNames", spec := "decodeNames", unfollowed := true, recurses := true, apart := false }
def DecodeNamesSaid : Prop := decodeNamesRow.holds Tryz.pinned (OpenSpec.ofChange decodeNamesSpec)

/-- ITS FALSE NEIGHBOUR: 'it returns false'. Refute it at one input. -/
def decodeNamesWrong : ChangeSpec := { name := "decodeNames", fn := fun _ => fun
  | [] => { results := [.lit (.bool false)], args := [] }
  | _ => none }
def DecodeNamesWrongFalsely : Prop := decodeNamesRow.holds Tryz.pinned (OpenSpec.ofChange decodeNamesWrong)

/-- 'drawloomlaw06.DecodeReads': WHATEVER THE INPUT: true; the input reads as it did. -/
def decodeReadsSpec : ChangeSpec := { name := "decodeReads", fn := fun _ => fun
  | [d] => { results := [.lit (.bool true)], args := [d] }
  | _ => none }
def decodeReadsRow : OpenClaim := { program := "ytopeccjghamjmaagreat", sum := "6a2f89f0afda0da6fb27575514421647aef16921f0141422138be9f23392095c", func := "drawloom/drawloomlaw06.DecodeReads", spec := "decodeReads", unfollowed := true, recurses := true, apart := false }
def DecodeReadsSaid : Prop := decodeReadsRow.holds Tryz.pinned (OpenSpec.ofChange decodeReadsSpec)

/-- ITS FALSE NEIGHBOUR: 'it returns false'. Refute it at one input. -/
def decodeReadsWrong : ChangeSpec := { name := "decodeReads", fn := fun _ => fun
  | [d] => { results := [.lit (.bool false)], args := [d] }
  | _ => none }
def DecodeReadsWrongFalsely : Prop := decodeReadsRow.holds Tryz.pinned (OpenSpec.ofChange decodeReadsWrong)

/-- 'drawloomlaw06.DecodeEnds': WHATEVER THE INPUT: true; the input reads as it did. -/
def decodeEndsSpec : ChangeSpec := { name := "decodeEnds", fn := fun _ => fun
  | [d1, d2] => { results := [.lit (.bool true)], args := [d1, d2] }
  | _ => none }
def decodeEndsRow : OpenClaim := { program := "ytopeccjghamjmaagreat", sum := "6a2f89f0afda0da6fb27575514421647aef16921f0141422138be9f23392095c", func := "drawloom/drawloomlaw06.DecodeEnds", spec := "decodeEnds", unfollowed := true, recurses := true, apart := false }
def DecodeEndsSaid : Prop := decodeEndsRow.holds Tryz.pinned (OpenSpec.ofChange decodeEndsSpec)

/-- ITS FALSE NEIGHBOUR: 'it returns false'. Refute it at one input. -/
def decodeEndsWrong : ChangeSpec := { name := "decodeEnds", fn := fun _ => fun
  | [d1, d2] => { results := [.lit (.bool false)], args := [d1, d2] }
  | _ => none }
def DecodeEndsWrongFalsely : Prop := decodeEndsRow.holds Tryz.pinned (OpenSpec.ofChange decodeEndsWrong)

/-- 'drawloomlaw06.DecodePrefixes': WHATEVER THE INPUT: true; the input reads as it did. -/
def decodePrefixesSpec : ChangeSpec := { name := "decodePrefixes", fn := fun _ => fun
  | [d1, d2, d3] => { results := [.lit (.bool true)], args := [d1, d2, d3] }
  | _ => none }
def decodePrefixesRow : OpenClaim := { program := "ytopeccjghamjmaagreat", sum := "6a2f89f0afda0da6fb27575514421647aef16921f0141422138be9f23392095c", func := "drawloom/drawloomlaw06.DecodePrefixes", spec := "decodePrefixes", unfollowed := true, recurses := true, apart := false }
def DecodePrefixesSaid : Prop := decodePrefixesRow.holds Tryz.pinned (OpenSpec.ofChange decodePrefixesSpec)

/-- ITS FALSE NEIGHBOUR: 'it returns false'. Refute it at one input. -/
def decodePrefixesWrong : ChangeSpec := { name := "decodePrefixes", fn := fun _ => fun
  | [d1, d2, d3] => { results := [.lit (.bool false)], args := [d1, d2, d3] }
  | _ => none }
def DecodePrefixesWrongFalsely : Prop := decodePrefixesRow.holds Tryz.pinned (OpenSpec.ofChange decodePrefixesWrong)

/-- 'drawloomlaw06.DecodeFits': WHATEVER THE INPUT: true; the input reads as it did. -/
def decodeFitsSpec : ChangeSpec := { name := "decodeFits", fn := fun _ => fun
  | [d] => { results := [.lit (.bool true)], args := [d] }
  | _ => none }
def decodeFitsRow : OpenClaim := { program := "ytopeccjghamjmaagreat", sum := "6a2f89f0afda0da6fb27575514421647aef16921f0141422138be9f23392095c", func := "drawloom/drawloomlaw06.DecodeFits", spec := "decodeFits", unfollowed := true, recurses := true, apart := false }
def DecodeFitsSaid : Prop := decodeFitsRow.holds Tryz.pinned (OpenSpec.ofChange decodeFitsSpec)

/-- ITS FALSE NEIGHBOUR: 'it returns false'. Refute it at one input. -/
def decodeFitsWrong : ChangeSpec := { name := "decodeFits", fn := fun _ => fun
  | [d] => { results := [.lit (.bool false)], args := [d] }
  | _ => none }
def DecodeFitsWrongFalsely : Prop := decodeFitsRow.holds Tryz.pinned (OpenSpec.ofChange decodeFitsWrong)

/-- 'drawloomlaw06.DecodeWidths': WHATEVER THE INPUT: true; the input reads as it did. -/
def decodeWidthsSpec : ChangeSpec := { name := "decodeWidths", fn := fun _ => fun
  | [d] => { results := [.lit (.bool true)], args := [d] }
  | _ => none }
def decodeWidthsRow : OpenClaim := { program := "ytopeccjghamjmaagreat", sum := "6a2f89f0afda0da6fb27575514421647aef16921f0141422138be9f23392095c", func := "drawloom/drawloomlaw06.DecodeWidths", spec := "decodeWidths", unfollowed := true, recurses := true, apart := false }
def DecodeWidthsSaid : Prop := decodeWidthsRow.holds Tryz.pinned (OpenSpec.ofChange decodeWidthsSpec)

/-- ITS FALSE NEIGHBOUR: 'it returns false'. Refute it at one input. -/
def decodeWidthsWrong : ChangeSpec := { name := "decodeWidths", fn := fun _ => fun
  | [d] => { results := [.lit (.bool false)], args := [d] }
  | _ => none }
def DecodeWidthsWrongFalsely : Prop := decodeWidthsRow.holds Tryz.pinned (OpenSpec.ofChange decodeWidthsWrong)

/- THE SECOND FORM. 'bulk': how many values and letters a reading holds, each counted each time it is reached (what is shared counts as often as it is met; a slice's spare places count too). A statement '..UptoSaid' is the law's where the arguments, and the package variables that the reading takes, are together of bulk at most 1048576: NARROWER than '..Said'. Prove '..Said' where nothing that the law and all that it calls make is longer than what came in: it says more and counts as full. Else prove '..UptoSaid'. A law counts once. -/
mutual
def uptoBulk {H : Type} : DataW H → Nat
  | .lit (.string bytes) => bytes.length + 1
  | .lit _ => 1
  | .nil => 1
  | .ptr d => uptoBulk d + 1
  | .slice elems spare => uptoBulkAll elems + uptoBulkAll spare + 1
  | .agg parts => uptoBulkAll parts + 1
  | .iface _ d => uptoBulk d + 1
  | .map entries => uptoBulkEntries entries + 1
  | .held _ => 1
def uptoBulkAll {H : Type} : List (DataW H) → Nat
  | [] => 0
  | d :: r => uptoBulk d + uptoBulkAll r
def uptoBulkEntries {H : Type} : List (Lit × DataW H) → Nat
  | [] => 0
  | x :: r => uptoBulkEntry x + uptoBulkEntries r
def uptoBulkEntry {H : Type} : Lit × DataW H → Nat
  | (.string bytes, d) => bytes.length + uptoBulk d + 1
  | (_, d) => uptoBulk d + 1
 end
def uptoSmall : (H : Type) → List (DataW H) → Bool := fun _ ds => decide (uptoBulkAll ds ≤ 1048576)
def OpenSpec.upto (s : _root_.Go.ChangeSpec) : _root_.Go.OpenSpec := { _root_.Go.OpenSpec.ofChange s with cond := some uptoSmall }

/-- 'drawloomlaw06.DecodeNames', WHERE WHAT IT READS IS OF BULK AT MOST 1048576: true; the input reads as it did. -/
def decodeNamesUptoRow : OpenClaim := { program := "ytopeccjghamjmaagreat", sum := "6a2f89f0afda0da6fb27575514421647aef16921f0141422138be9f23392095c", func := "drawloom/drawloomlaw06.DecodeNames", spec := "decodeNames", unfollowed := true, recurses := true, apart := false, narrowed := true }
def DecodeNamesUptoSaid : Prop := decodeNamesUptoRow.holds Tryz.pinned (OpenSpec.upto decodeNamesSpec)

/-- 'drawloomlaw06.DecodeReads', WHERE WHAT IT READS IS OF BULK AT MOST 1048576: true; the input reads as it did. -/
def decodeReadsUptoRow : OpenClaim := { program := "ytopeccjghamjmaagreat", sum := "6a2f89f0afda0da6fb27575514421647aef16921f0141422138be9f23392095c", func := "drawloom/drawloomlaw06.DecodeReads", spec := "decodeReads", unfollowed := true, recurses := true, apart := false, narrowed := true }
def DecodeReadsUptoSaid : Prop := decodeReadsUptoRow.holds Tryz.pinned (OpenSpec.upto decodeReadsSpec)

/-- 'drawloomlaw06.DecodeEnds', WHERE WHAT IT READS IS OF BULK AT MOST 1048576: true; the input reads as it did. -/
def decodeEndsUptoRow : OpenClaim := { program := "ytopeccjghamjmaagreat", sum := "6a2f89f0afda0da6fb27575514421647aef16921f0141422138be9f23392095c", func := "drawloom/drawloomlaw06.DecodeEnds", spec := "decodeEnds", unfollowed := true, recurses := true, apart := false, narrowed := true }
def DecodeEndsUptoSaid : Prop := decodeEndsUptoRow.holds Tryz.pinned (OpenSpec.upto decodeEndsSpec)

/-- 'drawloomlaw06.DecodePrefixes', WHERE WHAT IT READS IS OF BULK AT MOST 1048576: true; the input reads as it did. -/
def decodePrefixesUptoRow : OpenClaim := { program := "ytopeccjghamjmaagreat", sum := "6a2f89f0afda0da6fb27575514421647aef16921f0141422138be9f23392095c", func := "drawloom/drawloomlaw06.DecodePrefixes", spec := "decodePrefixes", unfollowed := true, recurses := true, apart := false, narrowed := true }
def DecodePrefixesUptoSaid : Prop := decodePrefixesUptoRow.holds Tryz.pinned (OpenSpec.upto decodePrefixesSpec)

/-- 'drawloomlaw06.DecodeFits', WHERE WHAT IT READS IS OF BULK AT MOST 1048576: true; the input reads as it did. -/
def decodeFitsUptoRow : OpenClaim := { program := "ytopeccjghamjmaagreat", sum := "6a2f89f0afda0da6fb27575514421647aef16921f0141422138be9f23392095c", func := "drawloom/drawloomlaw06.DecodeFits", spec := "decodeFits", unfollowed := true, recurses := true, apart := false, narrowed := true }
def DecodeFitsUptoSaid : Prop := decodeFitsUptoRow.holds Tryz.pinned (OpenSpec.upto decodeFitsSpec)

/-- 'drawloomlaw06.DecodeWidths', WHERE WHAT IT READS IS OF BULK AT MOST 1048576: true; the input reads as it did. -/
def decodeWidthsUptoRow : OpenClaim := { program := "ytopeccjghamjmaagreat", sum := "6a2f89f0afda0da6fb27575514421647aef16921f0141422138be9f23392095c", func := "drawloom/drawloomlaw06.DecodeWidths", spec := "decodeWidths", unfollowed := true, recurses := true, apart := false, narrowed := true }
def DecodeWidthsUptoSaid : Prop := decodeWidthsUptoRow.holds Tryz.pinned (OpenSpec.upto decodeWidthsSpec)

end Rows
end Go.Proofs.YtopeccjghamjmaaGreat
