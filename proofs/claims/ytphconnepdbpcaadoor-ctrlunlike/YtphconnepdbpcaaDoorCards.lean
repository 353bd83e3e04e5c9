/-
  DERIVED. GIVEN WITH THE SEED: THE CARDS: each row of YtphconnepdbpcaaDoorRows.lean that lists a variable, with what it lists TIED to the program's text (the seventh form; the later family's looks); each row that meets fmt, with fmt's text TOLD by the authors' own Lean function (tested against real Go, not proved from fmt's source: count such statements apart). THE CARD IS WHAT COUNTS. Prove the row's statement (the work); the ties are given (YtphconnepdbpcaaDoorTie.lean); close each card by the builder's one call (the guide's Derived/Test/ToyasCard.lean, 'card_holds'). Laid BY PROGRAM, IN A SANDBOX (cutbox-door.mjs). By AI agents, Wed Nov 11 2026. No macro, syntax, notation, axiom, sorry.
-/
import Derived.Test.YtphconnepdbpcaaDoorRows
import GoSem.ClaimSeven
namespace Go.Proofs.YtphconnepdbpcaaDoor
namespace Rows

/-- THE TIED CARD OF 'lapwinglaw05.CtrlKinds'. -/
def ctrlKindsCard : Claim7 := { stood := { row := ctrlKindsRow, standIns := [], harness := (true, "f12e106756aca1c6049653dd9085c134383a3856b4d316b7af80a1638f27ad5f"), looks := false }, kinds := [], alts := [], laidByText := true, laidKinds := [.data, .data], laidTests := true, laidLooks := .later }
def CtrlKindsCardSaid : Prop := Claim7.holds Tryd.pinned (.plain (OpenSpec.ofChange ctrlKindsSpec)) ctrlKindsCard

/-- THE TIED CARD OF 'lapwinglaw05.CtrlPuts'. -/
def ctrlPutsCard : Claim7 := { stood := { row := ctrlPutsRow, standIns := [], harness := (true, "f12e106756aca1c6049653dd9085c134383a3856b4d316b7af80a1638f27ad5f"), looks := false }, kinds := [], alts := [], laidByText := true, laidKinds := [.data, .data], laidTests := true, laidLooks := .later }
def CtrlPutsCardSaid : Prop := Claim7.holds Tryd.pinned (.plain (OpenSpec.ofChange ctrlPutsSpec)) ctrlPutsCard

/-- THE TIED CARD OF 'lapwinglaw05.CtrlGets'. -/
def ctrlGetsCard : Claim7 := { stood := { row := ctrlGetsRow, standIns := [], harness := (true, "f12e106756aca1c6049653dd9085c134383a3856b4d316b7af80a1638f27ad5f"), looks := false }, kinds := [], alts := [], laidByText := true, laidKinds := [.data], laidTests := true, laidLooks := .later }
def CtrlGetsCardSaid : Prop := Claim7.holds Tryd.pinned (.plain (OpenSpec.ofChange ctrlGetsSpec)) ctrlGetsCard

/-- THE TIED CARD OF 'lapwinglaw05.CtrlAll'. -/
def ctrlAllCard : Claim7 := { stood := { row := ctrlAllRow, standIns := [], harness := (true, "f12e106756aca1c6049653dd9085c134383a3856b4d316b7af80a1638f27ad5f"), looks := false }, kinds := [], alts := [], laidByText := true, laidKinds := [.data, .data], laidTests := true, laidLooks := .later }
def CtrlAllCardSaid : Prop := Claim7.holds Tryd.pinned (.plain (OpenSpec.ofChange ctrlAllSpec)) ctrlAllCard

/-- THE TIED CARD OF 'lapwinglaw05.CtrlBack'. -/
def ctrlBackCard : Claim7 := { stood := { row := ctrlBackRow, standIns := [], harness := (true, "f12e106756aca1c6049653dd9085c134383a3856b4d316b7af80a1638f27ad5f"), looks := false }, kinds := [], alts := [], laidByText := true, laidKinds := [.data, .data], laidTests := true, laidLooks := .later }
def CtrlBackCardSaid : Prop := Claim7.holds Tryd.pinned (.plain (OpenSpec.ofChange ctrlBackSpec)) ctrlBackCard

/-- THE TIED CARD OF 'lapwinglaw05.CtrlUnlike'. -/
def ctrlUnlikeCard : Claim7 := { stood := { row := ctrlUnlikeRow, standIns := [], harness := (true, "f12e106756aca1c6049653dd9085c134383a3856b4d316b7af80a1638f27ad5f"), looks := false }, kinds := [], alts := [], laidByText := true, laidKinds := [.data, .data], laidTests := true, laidLooks := .later }
def CtrlUnlikeCardSaid : Prop := Claim7.holds Tryd.pinned (.plain (OpenSpec.ofChange ctrlUnlikeSpec)) ctrlUnlikeCard

/-- THE SECOND FORM's CARD OF 'lapwinglaw05.CtrlKinds'. -/
def ctrlKindsUptoCard : Claim7 := { stood := { row := ctrlKindsUptoRow, standIns := [], harness := (true, "f12e106756aca1c6049653dd9085c134383a3856b4d316b7af80a1638f27ad5f"), looks := false }, kinds := [], alts := [], laidByText := true, laidKinds := [.data, .data], laidTests := true, laidLooks := .later }
def CtrlKindsUptoCardSaid : Prop := Claim7.holds Tryd.pinned (.plain (OpenSpec.upto ctrlKindsSpec)) ctrlKindsUptoCard

/-- THE SECOND FORM's CARD OF 'lapwinglaw05.CtrlPuts'. -/
def ctrlPutsUptoCard : Claim7 := { stood := { row := ctrlPutsUptoRow, standIns := [], harness := (true, "f12e106756aca1c6049653dd9085c134383a3856b4d316b7af80a1638f27ad5f"), looks := false }, kinds := [], alts := [], laidByText := true, laidKinds := [.data, .data], laidTests := true, laidLooks := .later }
def CtrlPutsUptoCardSaid : Prop := Claim7.holds Tryd.pinned (.plain (OpenSpec.upto ctrlPutsSpec)) ctrlPutsUptoCard

/-- THE SECOND FORM's CARD OF 'lapwinglaw05.CtrlGets'. -/
def ctrlGetsUptoCard : Claim7 := { stood := { row := ctrlGetsUptoRow, standIns := [], harness := (true, "f12e106756aca1c6049653dd9085c134383a3856b4d316b7af80a1638f27ad5f"), looks := false }, kinds := [], alts := [], laidByText := true, laidKinds := [.data], laidTests := true, laidLooks := .later }
def CtrlGetsUptoCardSaid : Prop := Claim7.holds Tryd.pinned (.plain (OpenSpec.upto ctrlGetsSpec)) ctrlGetsUptoCard

/-- THE SECOND FORM's CARD OF 'lapwinglaw05.CtrlAll'. -/
def ctrlAllUptoCard : Claim7 := { stood := { row := ctrlAllUptoRow, standIns := [], harness := (true, "f12e106756aca1c6049653dd9085c134383a3856b4d316b7af80a1638f27ad5f"), looks := false }, kinds := [], alts := [], laidByText := true, laidKinds := [.data, .data], laidTests := true, laidLooks := .later }
def CtrlAllUptoCardSaid : Prop := Claim7.holds Tryd.pinned (.plain (OpenSpec.upto ctrlAllSpec)) ctrlAllUptoCard

/-- THE SECOND FORM's CARD OF 'lapwinglaw05.CtrlBack'. -/
def ctrlBackUptoCard : Claim7 := { stood := { row := ctrlBackUptoRow, standIns := [], harness := (true, "f12e106756aca1c6049653dd9085c134383a3856b4d316b7af80a1638f27ad5f"), looks := false }, kinds := [], alts := [], laidByText := true, laidKinds := [.data, .data], laidTests := true, laidLooks := .later }
def CtrlBackUptoCardSaid : Prop := Claim7.holds Tryd.pinned (.plain (OpenSpec.upto ctrlBackSpec)) ctrlBackUptoCard

/-- THE SECOND FORM's CARD OF 'lapwinglaw05.CtrlUnlike'. -/
def ctrlUnlikeUptoCard : Claim7 := { stood := { row := ctrlUnlikeUptoRow, standIns := [], harness := (true, "f12e106756aca1c6049653dd9085c134383a3856b4d316b7af80a1638f27ad5f"), looks := false }, kinds := [], alts := [], laidByText := true, laidKinds := [.data, .data], laidTests := true, laidLooks := .later }
def CtrlUnlikeUptoCardSaid : Prop := Claim7.holds Tryd.pinned (.plain (OpenSpec.upto ctrlUnlikeSpec)) ctrlUnlikeUptoCard
end Rows
end Go.Proofs.YtphconnepdbpcaaDoor
