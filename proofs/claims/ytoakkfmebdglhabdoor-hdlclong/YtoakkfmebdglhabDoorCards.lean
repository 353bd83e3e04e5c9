/-
  DERIVED. GIVEN WITH THE SEED: THE CARDS: each row of YtoakkfmebdglhabDoorRows.lean that lists a variable, with what it lists TIED to the program's text (the seventh form; the later family's looks); each row that meets fmt, with fmt's text TOLD by the authors' own Lean function (tested against real Go, not proved from fmt's source: count such statements apart). THE CARD IS WHAT COUNTS. Prove the row's statement (the work); the ties are given (YtoakkfmebdglhabDoorTie.lean); close each card by the builder's one call (the guide's Derived/Test/ToyasCard.lean, 'card_holds'). Laid BY PROGRAM, IN A SANDBOX (cutbox-door.mjs). By AI agents, Wed Nov 11 2026. No macro, syntax, notation, axiom, sorry.
-/
import Derived.Test.YtoakkfmebdglhabDoorRows
import GoSem.ClaimSeven
namespace Go.Proofs.YtoakkfmebdglhabDoor
namespace Rows

/-- THE TIED CARD OF 'lapwinglaw03.HdlcLong'. -/
def hdlcLongCard : Claim7 := { stood := { row := hdlcLongRow, standIns := [], harness := (true, "69a87aab51cf907cac6ca527678cad226a872667e1c5bf7b4c7ef9553b4fce23"), looks := false }, kinds := [], alts := [], laidByText := true, laidKinds := [.data, .pinned], laidTests := true, laidLooks := .later }
def HdlcLongCardSaid : Prop := Claim7.holds Tryd.pinned (.plain (OpenSpec.ofChange hdlcLongSpec)) hdlcLongCard

/-- THE TIED CARD OF 'lapwinglaw03.HdlcFlags'. -/
def hdlcFlagsCard : Claim7 := { stood := { row := hdlcFlagsRow, standIns := [], harness := (true, "69a87aab51cf907cac6ca527678cad226a872667e1c5bf7b4c7ef9553b4fce23"), looks := false }, kinds := [], alts := [], laidByText := true, laidKinds := [.data, .pinned], laidTests := true, laidLooks := .later }
def HdlcFlagsCardSaid : Prop := Claim7.holds Tryd.pinned (.plain (OpenSpec.ofChange hdlcFlagsSpec)) hdlcFlagsCard

/-- THE TIED CARD OF 'lapwinglaw03.HdlcIdles'. -/
def hdlcIdlesCard : Claim7 := { stood := { row := hdlcIdlesRow, standIns := [], harness := (true, "69a87aab51cf907cac6ca527678cad226a872667e1c5bf7b4c7ef9553b4fce23"), looks := false }, kinds := [], alts := [], laidByText := true, laidKinds := [.data, .pinned], laidTests := true, laidLooks := .later }
def HdlcIdlesCardSaid : Prop := Claim7.holds Tryd.pinned (.plain (OpenSpec.ofChange hdlcIdlesSpec)) hdlcIdlesCard

/-- THE SECOND FORM's CARD OF 'lapwinglaw03.HdlcLong'. -/
def hdlcLongUptoCard : Claim7 := { stood := { row := hdlcLongUptoRow, standIns := [], harness := (true, "69a87aab51cf907cac6ca527678cad226a872667e1c5bf7b4c7ef9553b4fce23"), looks := false }, kinds := [], alts := [], laidByText := true, laidKinds := [.data, .pinned], laidTests := true, laidLooks := .later }
def HdlcLongUptoCardSaid : Prop := Claim7.holds Tryd.pinned (.plain (OpenSpec.upto hdlcLongSpec)) hdlcLongUptoCard

/-- THE SECOND FORM's CARD OF 'lapwinglaw03.HdlcFlags'. -/
def hdlcFlagsUptoCard : Claim7 := { stood := { row := hdlcFlagsUptoRow, standIns := [], harness := (true, "69a87aab51cf907cac6ca527678cad226a872667e1c5bf7b4c7ef9553b4fce23"), looks := false }, kinds := [], alts := [], laidByText := true, laidKinds := [.data, .pinned], laidTests := true, laidLooks := .later }
def HdlcFlagsUptoCardSaid : Prop := Claim7.holds Tryd.pinned (.plain (OpenSpec.upto hdlcFlagsSpec)) hdlcFlagsUptoCard

/-- THE SECOND FORM's CARD OF 'lapwinglaw03.HdlcIdles'. -/
def hdlcIdlesUptoCard : Claim7 := { stood := { row := hdlcIdlesUptoRow, standIns := [], harness := (true, "69a87aab51cf907cac6ca527678cad226a872667e1c5bf7b4c7ef9553b4fce23"), looks := false }, kinds := [], alts := [], laidByText := true, laidKinds := [.data, .pinned], laidTests := true, laidLooks := .later }
def HdlcIdlesUptoCardSaid : Prop := Claim7.holds Tryd.pinned (.plain (OpenSpec.upto hdlcIdlesSpec)) hdlcIdlesUptoCard
end Rows
end Go.Proofs.YtoakkfmebdglhabDoor
