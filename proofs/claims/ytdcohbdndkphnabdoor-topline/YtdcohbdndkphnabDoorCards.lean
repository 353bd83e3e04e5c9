/-
  DERIVED. GIVEN WITH THE SEED: THE CARDS: each row of YtdcohbdndkphnabDoorRows.lean that lists a variable, with what it lists TIED to the program's text (the seventh form; the later family's looks); each row that meets fmt, with fmt's text TOLD by the authors' own Lean function (tested against real Go, not proved from fmt's source: count such statements apart). THE CARD IS WHAT COUNTS. Prove the row's statement (the work); the ties are given (YtdcohbdndkphnabDoorTie.lean); close each card by the builder's one call (the guide's Derived/Test/ToyasCard.lean, 'card_holds'). Laid BY PROGRAM, IN A SANDBOX (cutbox-door.mjs). By AI agents, Wed Nov 11 2026. No macro, syntax, notation, axiom, sorry.
-/
import Derived.Test.YtdcohbdndkphnabDoorRows
import GoSem.ClaimSeven
namespace Go.Proofs.YtdcohbdndkphnabDoor
namespace Rows

/-- THE TIED CARD OF 'lapwinglaw06.FrameKinds'. -/
def frameKindsCard : Claim7 := { stood := { row := frameKindsRow, standIns := [], harness := (true, "b55cb2a3c94831f7e5fc150d889bcc523be0acf3196eca8b729a55248ebbd24b"), looks := false }, kinds := [], alts := [], laidByText := true, laidKinds := [.data, .data, .data], laidTests := true, laidLooks := .later }
def FrameKindsCardSaid : Prop := Claim7.holds Tryd.pinned (.plain (OpenSpec.ofChange frameKindsSpec)) frameKindsCard

/-- THE TIED CARD OF 'lapwinglaw06.FrameBefore'. -/
def frameBeforeCard : Claim7 := { stood := { row := frameBeforeRow, standIns := [], harness := (true, "b55cb2a3c94831f7e5fc150d889bcc523be0acf3196eca8b729a55248ebbd24b"), looks := false }, kinds := [], alts := [], laidByText := true, laidKinds := [.data, .data, .data], laidTests := true, laidLooks := .later }
def FrameBeforeCardSaid : Prop := Claim7.holds Tryd.pinned (.plain (OpenSpec.ofChange frameBeforeSpec)) frameBeforeCard

/-- THE TIED CARD OF 'lapwingtop.TopLine'. -/
def topLineCard : Claim7 := { stood := { row := topLineRow, standIns := [], harness := (true, "b55cb2a3c94831f7e5fc150d889bcc523be0acf3196eca8b729a55248ebbd24b"), looks := false }, kinds := [], alts := [], laidByText := true, laidKinds := [.data, .data, .data, .data, .pinned], laidTests := true, laidLooks := .later }
def TopLineCardSaid : Prop := Claim7.holds Tryd.pinned (.plain (OpenSpec.ofChange topLineSpec)) topLineCard

/-- THE SECOND FORM's CARD OF 'lapwinglaw06.FrameKinds'. -/
def frameKindsUptoCard : Claim7 := { stood := { row := frameKindsUptoRow, standIns := [], harness := (true, "b55cb2a3c94831f7e5fc150d889bcc523be0acf3196eca8b729a55248ebbd24b"), looks := false }, kinds := [], alts := [], laidByText := true, laidKinds := [.data, .data, .data], laidTests := true, laidLooks := .later }
def FrameKindsUptoCardSaid : Prop := Claim7.holds Tryd.pinned (.plain (OpenSpec.upto frameKindsSpec)) frameKindsUptoCard

/-- THE SECOND FORM's CARD OF 'lapwinglaw06.FrameBefore'. -/
def frameBeforeUptoCard : Claim7 := { stood := { row := frameBeforeUptoRow, standIns := [], harness := (true, "b55cb2a3c94831f7e5fc150d889bcc523be0acf3196eca8b729a55248ebbd24b"), looks := false }, kinds := [], alts := [], laidByText := true, laidKinds := [.data, .data, .data], laidTests := true, laidLooks := .later }
def FrameBeforeUptoCardSaid : Prop := Claim7.holds Tryd.pinned (.plain (OpenSpec.upto frameBeforeSpec)) frameBeforeUptoCard

/-- THE SECOND FORM's CARD OF 'lapwingtop.TopLine'. -/
def topLineUptoCard : Claim7 := { stood := { row := topLineUptoRow, standIns := [], harness := (true, "b55cb2a3c94831f7e5fc150d889bcc523be0acf3196eca8b729a55248ebbd24b"), looks := false }, kinds := [], alts := [], laidByText := true, laidKinds := [.data, .data, .data, .data, .pinned], laidTests := true, laidLooks := .later }
def TopLineUptoCardSaid : Prop := Claim7.holds Tryd.pinned (.plain (OpenSpec.upto topLineSpec)) topLineUptoCard
end Rows
end Go.Proofs.YtdcohbdndkphnabDoor
