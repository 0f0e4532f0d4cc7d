/-
  DERIVED. GIVEN WITH THE SEED: THE CARDS: each row of YtolnaodlghahlaaGreatDoorRows.lean that lists a variable, with what it lists TIED to the program's text (the seventh form; the later family's looks); each row that meets fmt, with fmt's text TOLD by the authors' own Lean function (tested against real Go, not proved from fmt's source: count such statements apart). THE CARD IS WHAT COUNTS. Prove the row's statement (the work); the ties are given (YtolnaodlghahlaaGreatDoorTie.lean); close each card by the builder's one call (the guide's Derived/Test/ToyasCard.lean, 'card_holds'). Laid BY PROGRAM, IN A SANDBOX (cutbox-door.mjs). By AI agents, Wed Nov 11 2026. No macro, syntax, notation, axiom, sorry.
-/
import Derived.Test.YtolnaodlghahlaaGreatDoorRows
import GoSem.ClaimSeven
namespace Go.Proofs.YtolnaodlghahlaaGreatDoor
namespace Rows

/-- THE TIED CARD OF 'drawloomlaw07.EncodeNames'. -/
def encodeNamesCard : Claim7 := { stood := { row := encodeNamesRow, standIns := [], harness := (true, "eb2254306b422c08e211deaa7ab621223b7aea35273f6c840c1be23ccc514092"), looks := false }, kinds := [], alts := [], laidByText := true, laidKinds := [.data, .data], laidTests := true, laidLooks := .later }
def EncodeNamesCardSaid : Prop := Claim7.holds Tryz.pinned (.plain (OpenSpec.ofChange encodeNamesSpec)) encodeNamesCard

/-- THE TIED CARD OF 'drawloomlaw07.EncodeBack'. -/
def encodeBackCard : Claim7 := { stood := { row := encodeBackRow, standIns := [], harness := (true, "eb2254306b422c08e211deaa7ab621223b7aea35273f6c840c1be23ccc514092"), looks := false }, kinds := [], alts := [], laidByText := true, laidKinds := [.data, .data], laidTests := true, laidLooks := .later }
def EncodeBackCardSaid : Prop := Claim7.holds Tryz.pinned (.plain (OpenSpec.ofChange encodeBackSpec)) encodeBackCard

/-- THE TIED CARD OF 'drawloomlaw07.EncodeMeans'. -/
def encodeMeansCard : Claim7 := { stood := { row := encodeMeansRow, standIns := [], harness := (true, "eb2254306b422c08e211deaa7ab621223b7aea35273f6c840c1be23ccc514092"), looks := false }, kinds := [], alts := [], laidByText := true, laidKinds := [.data, .data], laidTests := true, laidLooks := .later }
def EncodeMeansCardSaid : Prop := Claim7.holds Tryz.pinned (.plain (OpenSpec.ofChange encodeMeansSpec)) encodeMeansCard

/-- THE TIED CARD OF 'drawloomlaw07.EncodeFew'. -/
def encodeFewCard : Claim7 := { stood := { row := encodeFewRow, standIns := [], harness := (true, "eb2254306b422c08e211deaa7ab621223b7aea35273f6c840c1be23ccc514092"), looks := false }, kinds := [], alts := [], laidByText := true, laidKinds := [.data, .data], laidTests := true, laidLooks := .later }
def EncodeFewCardSaid : Prop := Claim7.holds Tryz.pinned (.plain (OpenSpec.ofChange encodeFewSpec)) encodeFewCard

/-- THE TIED CARD OF 'drawloomlaw07.EncodeSums'. -/
def encodeSumsCard : Claim7 := { stood := { row := encodeSumsRow, standIns := [], harness := (true, "eb2254306b422c08e211deaa7ab621223b7aea35273f6c840c1be23ccc514092"), looks := false }, kinds := [], alts := [], laidByText := true, laidKinds := [.data, .data], laidTests := true, laidLooks := .later }
def EncodeSumsCardSaid : Prop := Claim7.holds Tryz.pinned (.plain (OpenSpec.ofChange encodeSumsSpec)) encodeSumsCard

/-- THE SECOND FORM's CARD OF 'drawloomlaw07.EncodeNames'. -/
def encodeNamesUptoCard : Claim7 := { stood := { row := encodeNamesUptoRow, standIns := [], harness := (true, "eb2254306b422c08e211deaa7ab621223b7aea35273f6c840c1be23ccc514092"), looks := false }, kinds := [], alts := [], laidByText := true, laidKinds := [.data, .data], laidTests := true, laidLooks := .later }
def EncodeNamesUptoCardSaid : Prop := Claim7.holds Tryz.pinned (.plain (OpenSpec.upto encodeNamesSpec)) encodeNamesUptoCard

/-- THE SECOND FORM's CARD OF 'drawloomlaw07.EncodeBack'. -/
def encodeBackUptoCard : Claim7 := { stood := { row := encodeBackUptoRow, standIns := [], harness := (true, "eb2254306b422c08e211deaa7ab621223b7aea35273f6c840c1be23ccc514092"), looks := false }, kinds := [], alts := [], laidByText := true, laidKinds := [.data, .data], laidTests := true, laidLooks := .later }
def EncodeBackUptoCardSaid : Prop := Claim7.holds Tryz.pinned (.plain (OpenSpec.upto encodeBackSpec)) encodeBackUptoCard

/-- THE SECOND FORM's CARD OF 'drawloomlaw07.EncodeMeans'. -/
def encodeMeansUptoCard : Claim7 := { stood := { row := encodeMeansUptoRow, standIns := [], harness := (true, "eb2254306b422c08e211deaa7ab621223b7aea35273f6c840c1be23ccc514092"), looks := false }, kinds := [], alts := [], laidByText := true, laidKinds := [.data, .data], laidTests := true, laidLooks := .later }
def EncodeMeansUptoCardSaid : Prop := Claim7.holds Tryz.pinned (.plain (OpenSpec.upto encodeMeansSpec)) encodeMeansUptoCard

/-- THE SECOND FORM's CARD OF 'drawloomlaw07.EncodeFew'. -/
def encodeFewUptoCard : Claim7 := { stood := { row := encodeFewUptoRow, standIns := [], harness := (true, "eb2254306b422c08e211deaa7ab621223b7aea35273f6c840c1be23ccc514092"), looks := false }, kinds := [], alts := [], laidByText := true, laidKinds := [.data, .data], laidTests := true, laidLooks := .later }
def EncodeFewUptoCardSaid : Prop := Claim7.holds Tryz.pinned (.plain (OpenSpec.upto encodeFewSpec)) encodeFewUptoCard

/-- THE SECOND FORM's CARD OF 'drawloomlaw07.EncodeSums'. -/
def encodeSumsUptoCard : Claim7 := { stood := { row := encodeSumsUptoRow, standIns := [], harness := (true, "eb2254306b422c08e211deaa7ab621223b7aea35273f6c840c1be23ccc514092"), looks := false }, kinds := [], alts := [], laidByText := true, laidKinds := [.data, .data], laidTests := true, laidLooks := .later }
def EncodeSumsUptoCardSaid : Prop := Claim7.holds Tryz.pinned (.plain (OpenSpec.upto encodeSumsSpec)) encodeSumsUptoCard
end Rows
end Go.Proofs.YtolnaodlghahlaaGreatDoor
