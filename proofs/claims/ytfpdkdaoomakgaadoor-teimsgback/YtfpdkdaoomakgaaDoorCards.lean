/-
  DERIVED. GIVEN WITH THE SEED: THE CARDS: each row of YtfpdkdaoomakgaaDoorRows.lean that lists a variable, with what it lists TIED to the program's text (the seventh form; the later family's looks); each row that meets fmt, with fmt's text TOLD by the authors' own Lean function (tested against real Go, not proved from fmt's source: count such statements apart). THE CARD IS WHAT COUNTS. Prove the row's statement (the work); the ties are given (YtfpdkdaoomakgaaDoorTie.lean); close each card by the builder's one call (the guide's Derived/Test/ToyasCard.lean, 'card_holds'). Laid BY PROGRAM, IN A SANDBOX (cutbox-door.mjs). By AI agents, Wed Nov 11 2026. No macro, syntax, notation, axiom, sorry.
-/
import Derived.Test.YtfpdkdaoomakgaaDoorRows
import GoSem.ClaimSeven
namespace Go.Proofs.YtfpdkdaoomakgaaDoor
namespace Rows

/-- THE TIED CARD OF 'lapwinglaw07.TeimsgBack'. -/
def teimsgBackCard : Claim7 := { stood := { row := teimsgBackRow, standIns := [], harness := (true, "23aca1e57128cc7bea923e10c814aef64ca267b8bb8f653e13149d160c2b807f"), looks := false }, kinds := [], alts := [], laidByText := true, laidKinds := [.data, .data, .data], laidTests := true, laidLooks := .later }
def TeimsgBackCardSaid : Prop := Claim7.holds Tryd.pinned (.plain (OpenSpec.ofChange teimsgBackSpec)) teimsgBackCard

/-- THE SECOND FORM's CARD OF 'lapwinglaw07.TeimsgBack'. -/
def teimsgBackUptoCard : Claim7 := { stood := { row := teimsgBackUptoRow, standIns := [], harness := (true, "23aca1e57128cc7bea923e10c814aef64ca267b8bb8f653e13149d160c2b807f"), looks := false }, kinds := [], alts := [], laidByText := true, laidKinds := [.data, .data, .data], laidTests := true, laidLooks := .later }
def TeimsgBackUptoCardSaid : Prop := Claim7.holds Tryd.pinned (.plain (OpenSpec.upto teimsgBackSpec)) teimsgBackUptoCard
end Rows
end Go.Proofs.YtfpdkdaoomakgaaDoor
