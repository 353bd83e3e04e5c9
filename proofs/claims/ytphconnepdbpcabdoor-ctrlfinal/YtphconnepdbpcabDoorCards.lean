/-
  DERIVED. GIVEN WITH THE SEED: THE CARDS: each row of YtphconnepdbpcabDoorRows.lean that lists a variable, with what it lists TIED to the program's text (the seventh form; the later family's looks); each row that meets fmt, with fmt's text TOLD by the authors' own Lean function (tested against real Go, not proved from fmt's source: count such statements apart). THE CARD IS WHAT COUNTS. Prove the row's statement (the work); the ties are given (YtphconnepdbpcabDoorTie.lean); close each card by the builder's one call (the guide's Derived/Test/ToyasCard.lean, 'card_holds'). Laid BY PROGRAM, IN A SANDBOX (cutbox-door.mjs). By AI agents, Wed Nov 11 2026. No macro, syntax, notation, axiom, sorry.
-/
import Derived.Test.YtphconnepdbpcabDoorRows
import GoSem.ClaimSeven
namespace Go.Proofs.YtphconnepdbpcabDoor
namespace Rows

/-- THE TIED CARD OF 'lapwinglaw05.CtrlFinal'. -/
def ctrlFinalCard : Claim7 := { stood := { row := ctrlFinalRow, standIns := [], harness := (true, "e70a00fbe489d60954fb5482155c2b94165359d38720794c965629fdb29c33a3"), looks := false }, kinds := [], alts := [], laidByText := true, laidKinds := [.data, .data], laidTests := true, laidLooks := .later }
def CtrlFinalCardSaid : Prop := Claim7.holds Tryd.pinned (.plain (OpenSpec.ofChange ctrlFinalSpec)) ctrlFinalCard

/-- THE SECOND FORM's CARD OF 'lapwinglaw05.CtrlFinal'. -/
def ctrlFinalUptoCard : Claim7 := { stood := { row := ctrlFinalUptoRow, standIns := [], harness := (true, "e70a00fbe489d60954fb5482155c2b94165359d38720794c965629fdb29c33a3"), looks := false }, kinds := [], alts := [], laidByText := true, laidKinds := [.data, .data], laidTests := true, laidLooks := .later }
def CtrlFinalUptoCardSaid : Prop := Claim7.holds Tryd.pinned (.plain (OpenSpec.upto ctrlFinalSpec)) ctrlFinalUptoCard
end Rows
end Go.Proofs.YtphconnepdbpcabDoor
