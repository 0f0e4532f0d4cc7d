/-
  No cell of these rows narrows 'for every input' (looked for: loops, veiled, ifaces, maps, wideKeys, modest, calm, conditions, laid).
  DERIVED. THE GIVEN ROWS OF THIS SEAT. 5 by the template 'for every input the law returns true; each argument reads behind the call as it read before'; 0 by the template 'total and deterministic' (their statements: YtafnlaamfpjolaaTotals.lean).
  GIVEN WITH THE SEED: the statements are not yours to turn. If you find one false, say at which input.
  Laid BY PROGRAM, IN A SANDBOX (cutbox-rows.mjs): the forced cells as the released guide's own fill.sh prints them over the translation 27639c1e33e506bc… (all of the seat's roots in one cut). By AI agents, Wed Nov 11 2026. No macro, syntax, notation, axiom, sorry.
-/
import Derived.Test.YtafnlaamfpjolaaChecked
import GoSem.Claim
import GoSem.ClaimJoined
import GoSem.ClaimMapViews
import Derived.JoinedTies
import Derived.KernelRfl
namespace Go.Proofs.Ytafnlaamfpjolaa
/- THE CELL 'sum', in the pinned program and in every row, IS THE sha256 OF THE DUMP (.gsa) THAT YtafnlaamfpjolaaProg.lean LOADS. Nothing in Lean hashes anything: it is a label: what it is worth is what the hold of that sum in a sandbox is worth. -/
noncomputable def Try.pinned : Pinned := { name := "ytafnlaamfpjolaa", sum := "27639c1e33e506bc22339770dfc6592aeecbb17240ab83a4b16447e2e47dba45", checked := Try.checked }
namespace Rows
def none {H : Type} : Left H := { results := [], args := [] }

/-- 'drawloomlaw13.UartNames': WHATEVER THE INPUT: true; the input reads as it did. -/
def uartNamesSpec : ChangeSpec := { name := "uartNames", fn := fun _ => fun
  | [] => { results := [.lit (.bool true)], args := [] }
  | _ => none }
def uartNamesRow : OpenClaim := { program := "ytafnlaamfpjolaa", sum := "27639c1e33e506bc22339770dfc6592aeecbb17240ab83a4b16447e2e47dba45", func := "drawloom/drawloomlaw13.UartNames", spec := "uartNames", apart := false }
def UartNamesSaid : Prop := uartNamesRow.holds Try.pinned (OpenSpec.ofChange uartNamesSpec)

/-- ITS FALSE NEIGHBOUR: 'it returns false'. Refute it at one input. -/
def uartNamesWrong : ChangeSpec := { name := "uartNames", fn := fun _ => fun
  | [] => { results := [.lit (.bool false)], args := [] }
  | _ => none }
def UartNamesWrongFalsely : Prop := uartNamesRow.holds Try.pinned (OpenSpec.ofChange uartNamesWrong)

/-- 'drawloomlaw13.UartPlays': WHATEVER THE INPUT: true; the input reads as it did. -/
def uartPlaysSpec : ChangeSpec := { name := "uartPlays", fn := fun _ => fun
  | [d] => { results := [.lit (.bool true)], args := [d] }
  | _ => none }
def uartPlaysRow : OpenClaim := { program := "ytafnlaamfpjolaa", sum := "27639c1e33e506bc22339770dfc6592aeecbb17240ab83a4b16447e2e47dba45", func := "drawloom/drawloomlaw13.UartPlays", spec := "uartPlays", apart := false }
def UartPlaysSaid : Prop := uartPlaysRow.holds Try.pinned (OpenSpec.ofChange uartPlaysSpec)

/-- ITS FALSE NEIGHBOUR: 'it returns false'. Refute it at one input. -/
def uartPlaysWrong : ChangeSpec := { name := "uartPlays", fn := fun _ => fun
  | [d] => { results := [.lit (.bool false)], args := [d] }
  | _ => none }
def UartPlaysWrongFalsely : Prop := uartPlaysRow.holds Try.pinned (OpenSpec.ofChange uartPlaysWrong)

/-- 'drawloomlaw13.UartOrders': WHATEVER THE INPUT: true; the input reads as it did. -/
def uartOrdersSpec : ChangeSpec := { name := "uartOrders", fn := fun _ => fun
  | [d1, d2] => { results := [.lit (.bool true)], args := [d1, d2] }
  | _ => none }
def uartOrdersRow : OpenClaim := { program := "ytafnlaamfpjolaa", sum := "27639c1e33e506bc22339770dfc6592aeecbb17240ab83a4b16447e2e47dba45", func := "drawloom/drawloomlaw13.UartOrders", spec := "uartOrders", apart := false }
def UartOrdersSaid : Prop := uartOrdersRow.holds Try.pinned (OpenSpec.ofChange uartOrdersSpec)

/-- ITS FALSE NEIGHBOUR: 'it returns false'. Refute it at one input. -/
def uartOrdersWrong : ChangeSpec := { name := "uartOrders", fn := fun _ => fun
  | [d1, d2] => { results := [.lit (.bool false)], args := [d1, d2] }
  | _ => none }
def UartOrdersWrongFalsely : Prop := uartOrdersRow.holds Try.pinned (OpenSpec.ofChange uartOrdersWrong)

/-- 'drawloomlaw13.UartNil': WHATEVER THE INPUT: true; the input reads as it did. -/
def uartNilSpec : ChangeSpec := { name := "uartNil", fn := fun _ => fun
  | [d] => { results := [.lit (.bool true)], args := [d] }
  | _ => none }
def uartNilRow : OpenClaim := { program := "ytafnlaamfpjolaa", sum := "27639c1e33e506bc22339770dfc6592aeecbb17240ab83a4b16447e2e47dba45", func := "drawloom/drawloomlaw13.UartNil", spec := "uartNil", apart := false }
def UartNilSaid : Prop := uartNilRow.holds Try.pinned (OpenSpec.ofChange uartNilSpec)

/-- ITS FALSE NEIGHBOUR: 'it returns false'. Refute it at one input. -/
def uartNilWrong : ChangeSpec := { name := "uartNil", fn := fun _ => fun
  | [d] => { results := [.lit (.bool false)], args := [d] }
  | _ => none }
def UartNilWrongFalsely : Prop := uartNilRow.holds Try.pinned (OpenSpec.ofChange uartNilWrong)

/-- 'drawloomlaw13.UartLatches': WHATEVER THE INPUT: true; the input reads as it did. -/
def uartLatchesSpec : ChangeSpec := { name := "uartLatches", fn := fun _ => fun
  | [d1, d2, d3, d4] => { results := [.lit (.bool true)], args := [d1, d2, d3, d4] }
  | _ => none }
def uartLatchesRow : OpenClaim := { program := "ytafnlaamfpjolaa", sum := "27639c1e33e506bc22339770dfc6592aeecbb17240ab83a4b16447e2e47dba45", func := "drawloom/drawloomlaw13.UartLatches", spec := "uartLatches", apart := false }
def UartLatchesSaid : Prop := uartLatchesRow.holds Try.pinned (OpenSpec.ofChange uartLatchesSpec)

/-- ITS FALSE NEIGHBOUR: 'it returns false'. Refute it at one input. -/
def uartLatchesWrong : ChangeSpec := { name := "uartLatches", fn := fun _ => fun
  | [d1, d2, d3, d4] => { results := [.lit (.bool false)], args := [d1, d2, d3, d4] }
  | _ => none }
def UartLatchesWrongFalsely : Prop := uartLatchesRow.holds Try.pinned (OpenSpec.ofChange uartLatchesWrong)

/- THE SECOND FORM. 'bulk': how many values and letters a reading holds, each counted each time it is reached (what is shared counts as often as it is met; a slice's spare places count too). A statement '..UptoSaid' is the law's where the arguments, and the package variables that the reading takes, are together of bulk at most 1048576: NARROWER than '..Said'. Prove '..Said' where nothing that the law and all that it calls make is longer than what came in: it says more and counts as full. Else prove '..UptoSaid'. A law counts once. -/
mutual
def uptoBulk {H : Type} : DataW H → Nat
  | .lit (.string bytes) => bytes.length + 1
  | .lit _ => 1
  | .nil => 1
  | .ptr d => uptoBulk d + 1
  | .slice elems spare => uptoBulkAll elems + uptoBulkAll spare + 1
  | .agg parts => uptoBulkAll parts + 1
  | .iface _ d => uptoBulk d + 1
  | .map entries => uptoBulkEntries entries + 1
  | .held _ => 1
def uptoBulkAll {H : Type} : List (DataW H) → Nat
  | [] => 0
  | d :: r => uptoBulk d + uptoBulkAll r
def uptoBulkEntries {H : Type} : List (Lit × DataW H) → Nat
  | [] => 0
  | x :: r => uptoBulkEntry x + uptoBulkEntries r
def uptoBulkEntry {H : Type} : Lit × DataW H → Nat
  | (.string bytes, d) => bytes.length + uptoBulk d + 1
  | (_, d) => uptoBulk d + 1
 end
def uptoSmall : (H : Type) → List (DataW H) → Bool := fun _ ds => decide (uptoBulkAll ds ≤ 1048576)
def OpenSpec.upto (s : _root_.Go.ChangeSpec) : _root_.Go.OpenSpec := { _root_.Go.OpenSpec.ofChange s with cond := some uptoSmall }

/-- 'drawloomlaw13.UartNames', WHERE WHAT IT READS IS OF BULK AT MOST 1048576: true; the input reads as it did. -/
def uartNamesUptoRow : OpenClaim := { program := "ytafnlaamfpjolaa", sum := "27639c1e33e506bc22339770dfc6592aeecbb17240ab83a4b16447e2e47dba45", func := "drawloom/drawloomlaw13.UartNames", spec := "uartNames", apart := false, narrowed := true }
def UartNamesUptoSaid : Prop := uartNamesUptoRow.holds Try.pinned (OpenSpec.upto uartNamesSpec)

/-- 'drawloomlaw13.UartPlays', WHERE WHAT IT READS IS OF BULK AT MOST 1048576: true; the input reads as it did. -/
def uartPlaysUptoRow : OpenClaim := { program := "ytafnlaamfpjolaa", sum := "27639c1e33e506bc22339770dfc6592aeecbb17240ab83a4b16447e2e47dba45", func := "drawloom/drawloomlaw13.UartPlays", spec := "uartPlays", apart := false, narrowed := true }
def UartPlaysUptoSaid : Prop := uartPlaysUptoRow.holds Try.pinned (OpenSpec.upto uartPlaysSpec)

/-- 'drawloomlaw13.UartOrders', WHERE WHAT IT READS IS OF BULK AT MOST 1048576: true; the input reads as it did. -/
def uartOrdersUptoRow : OpenClaim := { program := "ytafnlaamfpjolaa", sum := "27639c1e33e506bc22339770dfc6592aeecbb17240ab83a4b16447e2e47dba45", func := "drawloom/drawloomlaw13.UartOrders", spec := "uartOrders", apart := false, narrowed := true }
def UartOrdersUptoSaid : Prop := uartOrdersUptoRow.holds Try.pinned (OpenSpec.upto uartOrdersSpec)

/-- 'drawloomlaw13.UartNil', WHERE WHAT IT READS IS OF BULK AT MOST 1048576: true; the input reads as it did. -/
def uartNilUptoRow : OpenClaim := { program := "ytafnlaamfpjolaa", sum := "27639c1e33e506bc22339770dfc6592aeecbb17240ab83a4b16447e2e47dba45", func := "drawloom/drawloomlaw13.UartNil", spec := "uartNil", apart := false, narrowed := true }
def UartNilUptoSaid : Prop := uartNilUptoRow.holds Try.pinned (OpenSpec.upto uartNilSpec)

/-- 'drawloomlaw13.UartLatches', WHERE WHAT IT READS IS OF BULK AT MOST 1048576: true; the input reads as it did. -/
def uartLatchesUptoRow : OpenClaim := { program := "ytafnlaamfpjolaa", sum := "27639c1e33e506bc22339770dfc6592aeecbb17240ab83a4b16447e2e47dba45", func := "drawloom/drawloomlaw13.UartLatches", spec := "uartLatches", apart := false, narrowed := true }
def UartLatchesUptoSaid : Prop := uartLatchesUptoRow.holds Try.pinned (OpenSpec.upto uartLatchesSpec)

end Rows
end Go.Proofs.Ytafnlaamfpjolaa
