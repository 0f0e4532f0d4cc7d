/-
  DERIVED. GIVEN WITH THE SEED: THE CARDS: each row of YtacgmoikegcopaaGreatDoorRows.lean that lists a variable, with what it lists TIED to the program's text (the seventh form; the later family's looks); each row that meets fmt, with fmt's text TOLD by the authors' own Lean function (tested against real Go, not proved from fmt's source: count such statements apart). THE CARD IS WHAT COUNTS. Prove the row's statement (the work); the ties are given (YtacgmoikegcopaaGreatDoorTie.lean); close each card by the builder's one call (the guide's Derived/Test/ToyasCard.lean, 'card_holds'). Laid BY PROGRAM, IN A SANDBOX (cutbox-door.mjs). By AI agents, Wed Nov 11 2026. No macro, syntax, notation, axiom, sorry.
-/
import Derived.Test.YtacgmoikegcopaaGreatDoorRows
import GoSem.ClaimSeven
namespace Go.Proofs.YtacgmoikegcopaaGreatDoor
namespace Rows

/-- THE TIED CARD OF 'drawloomlaw18.ExceptPlays'. -/
def exceptPlaysCard : Claim7 := { stood := { row := exceptPlaysRow, standIns := [], harness := (true, "9c6c7e3520dbbc38ca24c7ba2b0b83cae91d2f22b89cf1ba73f3bb3946959394"), looks := true }, kinds := [], alts := [], laidByText := true, laidKinds := [.data], laidTests := true, laidLooks := .later }
def ExceptPlaysCardSaid : Prop := Claim7.holds Tryz.pinned (.plain (OpenSpec.ofChange exceptPlaysSpec)) exceptPlaysCard

/-- THE TIED CARD OF 'drawloomlaw18.ExceptBack'. -/
def exceptBackCard : Claim7 := { stood := { row := exceptBackRow, standIns := [], harness := (true, "9c6c7e3520dbbc38ca24c7ba2b0b83cae91d2f22b89cf1ba73f3bb3946959394"), looks := true }, kinds := [], alts := [], laidByText := true, laidKinds := [.data], laidTests := true, laidLooks := .later }
def ExceptBackCardSaid : Prop := Claim7.holds Tryz.pinned (.plain (OpenSpec.ofChange exceptBackSpec)) exceptBackCard

/-- THE TIED CARD OF 'drawloomlaw18.ExceptEnds'. -/
def exceptEndsCard : Claim7 := { stood := { row := exceptEndsRow, standIns := [], harness := (true, "9c6c7e3520dbbc38ca24c7ba2b0b83cae91d2f22b89cf1ba73f3bb3946959394"), looks := true }, kinds := [], alts := [], laidByText := true, laidKinds := [.data], laidTests := true, laidLooks := .later }
def ExceptEndsCardSaid : Prop := Claim7.holds Tryz.pinned (.plain (OpenSpec.ofChange exceptEndsSpec)) exceptEndsCard

/-- THE TIED CARD OF 'drawloomlaw18.ExceptNil'. -/
def exceptNilCard : Claim7 := { stood := { row := exceptNilRow, standIns := [], harness := (true, "9c6c7e3520dbbc38ca24c7ba2b0b83cae91d2f22b89cf1ba73f3bb3946959394"), looks := true }, kinds := [], alts := [], laidByText := true, laidKinds := [.data], laidTests := true, laidLooks := .later }
def ExceptNilCardSaid : Prop := Claim7.holds Tryz.pinned (.plain (OpenSpec.ofChange exceptNilSpec)) exceptNilCard

/-- THE TIED CARD OF 'drawloomlaw18.ExceptPushes'. -/
def exceptPushesCard : Claim7 := { stood := { row := exceptPushesRow, standIns := [], harness := (true, "9c6c7e3520dbbc38ca24c7ba2b0b83cae91d2f22b89cf1ba73f3bb3946959394"), looks := true }, kinds := [], alts := [], laidByText := true, laidKinds := [.data], laidTests := true, laidLooks := .later }
def ExceptPushesCardSaid : Prop := Claim7.holds Tryz.pinned (.plain (OpenSpec.ofChange exceptPushesSpec)) exceptPushesCard

/-- THE TIED CARD OF 'drawloomlaw18.ExceptRefuses'. -/
def exceptRefusesCard : Claim7 := { stood := { row := exceptRefusesRow, standIns := [], harness := (true, "9c6c7e3520dbbc38ca24c7ba2b0b83cae91d2f22b89cf1ba73f3bb3946959394"), looks := true }, kinds := [], alts := [], laidByText := true, laidKinds := [.data], laidTests := true, laidLooks := .later }
def ExceptRefusesCardSaid : Prop := Claim7.holds Tryz.pinned (.plain (OpenSpec.ofChange exceptRefusesSpec)) exceptRefusesCard

/-- THE SECOND FORM's CARD OF 'drawloomlaw18.ExceptPlays'. -/
def exceptPlaysUptoCard : Claim7 := { stood := { row := exceptPlaysUptoRow, standIns := [], harness := (true, "9c6c7e3520dbbc38ca24c7ba2b0b83cae91d2f22b89cf1ba73f3bb3946959394"), looks := true }, kinds := [], alts := [], laidByText := true, laidKinds := [.data], laidTests := true, laidLooks := .later }
def ExceptPlaysUptoCardSaid : Prop := Claim7.holds Tryz.pinned (.plain (OpenSpec.upto exceptPlaysSpec)) exceptPlaysUptoCard

/-- THE SECOND FORM's CARD OF 'drawloomlaw18.ExceptBack'. -/
def exceptBackUptoCard : Claim7 := { stood := { row := exceptBackUptoRow, standIns := [], harness := (true, "9c6c7e3520dbbc38ca24c7ba2b0b83cae91d2f22b89cf1ba73f3bb3946959394"), looks := true }, kinds := [], alts := [], laidByText := true, laidKinds := [.data], laidTests := true, laidLooks := .later }
def ExceptBackUptoCardSaid : Prop := Claim7.holds Tryz.pinned (.plain (OpenSpec.upto exceptBackSpec)) exceptBackUptoCard

/-- THE SECOND FORM's CARD OF 'drawloomlaw18.ExceptEnds'. -/
def exceptEndsUptoCard : Claim7 := { stood := { row := exceptEndsUptoRow, standIns := [], harness := (true, "9c6c7e3520dbbc38ca24c7ba2b0b83cae91d2f22b89cf1ba73f3bb3946959394"), looks := true }, kinds := [], alts := [], laidByText := true, laidKinds := [.data], laidTests := true, laidLooks := .later }
def ExceptEndsUptoCardSaid : Prop := Claim7.holds Tryz.pinned (.plain (OpenSpec.upto exceptEndsSpec)) exceptEndsUptoCard

/-- THE SECOND FORM's CARD OF 'drawloomlaw18.ExceptNil'. -/
def exceptNilUptoCard : Claim7 := { stood := { row := exceptNilUptoRow, standIns := [], harness := (true, "9c6c7e3520dbbc38ca24c7ba2b0b83cae91d2f22b89cf1ba73f3bb3946959394"), looks := true }, kinds := [], alts := [], laidByText := true, laidKinds := [.data], laidTests := true, laidLooks := .later }
def ExceptNilUptoCardSaid : Prop := Claim7.holds Tryz.pinned (.plain (OpenSpec.upto exceptNilSpec)) exceptNilUptoCard

/-- THE SECOND FORM's CARD OF 'drawloomlaw18.ExceptPushes'. -/
def exceptPushesUptoCard : Claim7 := { stood := { row := exceptPushesUptoRow, standIns := [], harness := (true, "9c6c7e3520dbbc38ca24c7ba2b0b83cae91d2f22b89cf1ba73f3bb3946959394"), looks := true }, kinds := [], alts := [], laidByText := true, laidKinds := [.data], laidTests := true, laidLooks := .later }
def ExceptPushesUptoCardSaid : Prop := Claim7.holds Tryz.pinned (.plain (OpenSpec.upto exceptPushesSpec)) exceptPushesUptoCard

/-- THE SECOND FORM's CARD OF 'drawloomlaw18.ExceptRefuses'. -/
def exceptRefusesUptoCard : Claim7 := { stood := { row := exceptRefusesUptoRow, standIns := [], harness := (true, "9c6c7e3520dbbc38ca24c7ba2b0b83cae91d2f22b89cf1ba73f3bb3946959394"), looks := true }, kinds := [], alts := [], laidByText := true, laidKinds := [.data], laidTests := true, laidLooks := .later }
def ExceptRefusesUptoCardSaid : Prop := Claim7.holds Tryz.pinned (.plain (OpenSpec.upto exceptRefusesSpec)) exceptRefusesUptoCard
end Rows
end Go.Proofs.YtacgmoikegcopaaGreatDoor
