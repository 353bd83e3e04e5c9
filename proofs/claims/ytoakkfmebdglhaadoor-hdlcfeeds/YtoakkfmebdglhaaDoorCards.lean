/-
  DERIVED. GIVEN WITH THE SEED: THE CARDS: each row of YtoakkfmebdglhaaDoorRows.lean that lists a variable, with what it lists TIED to the program's text (the seventh form; the later family's looks); each row that meets fmt, with fmt's text TOLD by the authors' own Lean function (tested against real Go, not proved from fmt's source: count such statements apart). THE CARD IS WHAT COUNTS. Prove the row's statement (the work); the ties are given (YtoakkfmebdglhaaDoorTie.lean); close each card by the builder's one call (the guide's Derived/Test/ToyasCard.lean, 'card_holds'). Laid BY PROGRAM, IN A SANDBOX (cutbox-door.mjs). By AI agents, Wed Nov 11 2026. No macro, syntax, notation, axiom, sorry.
-/
import Derived.Test.YtoakkfmebdglhaaDoorRows
import GoSem.ClaimSeven
namespace Go.Proofs.YtoakkfmebdglhaaDoor
namespace Rows

/-- THE TIED CARD OF 'lapwinglaw03.HdlcStuffs'. -/
def hdlcStuffsCard : Claim7 := { stood := { row := hdlcStuffsRow, standIns := [], harness := (true, "bb7838b2203ec87ce344b81586560c5b8dc52ae8f0197e1d9678e93392641f50"), looks := false }, kinds := [], alts := [], laidByText := true, laidKinds := [.data, .pinned], laidTests := true, laidLooks := .later }
def HdlcStuffsCardSaid : Prop := Claim7.holds Tryd.pinned (.plain (OpenSpec.ofChange hdlcStuffsSpec)) hdlcStuffsCard

/-- THE TIED CARD OF 'lapwinglaw03.HdlcFeeds'. -/
def hdlcFeedsCard : Claim7 := { stood := { row := hdlcFeedsRow, standIns := [], harness := (true, "bb7838b2203ec87ce344b81586560c5b8dc52ae8f0197e1d9678e93392641f50"), looks := false }, kinds := [], alts := [], laidByText := true, laidKinds := [.data, .pinned], laidTests := true, laidLooks := .later }
def HdlcFeedsCardSaid : Prop := Claim7.holds Tryd.pinned (.plain (OpenSpec.ofChange hdlcFeedsSpec)) hdlcFeedsCard

/-- THE TIED CARD OF 'lapwinglaw03.HdlcBack'. -/
def hdlcBackCard : Claim7 := { stood := { row := hdlcBackRow, standIns := [], harness := (true, "bb7838b2203ec87ce344b81586560c5b8dc52ae8f0197e1d9678e93392641f50"), looks := false }, kinds := [], alts := [], laidByText := true, laidKinds := [.data, .pinned], laidTests := true, laidLooks := .later }
def HdlcBackCardSaid : Prop := Claim7.holds Tryd.pinned (.plain (OpenSpec.ofChange hdlcBackSpec)) hdlcBackCard

/-- THE TIED CARD OF 'lapwinglaw03.HdlcPieces'. -/
def hdlcPiecesCard : Claim7 := { stood := { row := hdlcPiecesRow, standIns := [], harness := (true, "bb7838b2203ec87ce344b81586560c5b8dc52ae8f0197e1d9678e93392641f50"), looks := false }, kinds := [], alts := [], laidByText := true, laidKinds := [.data, .pinned], laidTests := true, laidLooks := .later }
def HdlcPiecesCardSaid : Prop := Claim7.holds Tryd.pinned (.plain (OpenSpec.ofChange hdlcPiecesSpec)) hdlcPiecesCard

/-- THE TIED CARD OF 'lapwinglaw03.HdlcFrames'. -/
def hdlcFramesCard : Claim7 := { stood := { row := hdlcFramesRow, standIns := [], harness := (true, "bb7838b2203ec87ce344b81586560c5b8dc52ae8f0197e1d9678e93392641f50"), looks := false }, kinds := [], alts := [], laidByText := true, laidKinds := [.data, .pinned], laidTests := true, laidLooks := .later }
def HdlcFramesCardSaid : Prop := Claim7.holds Tryd.pinned (.plain (OpenSpec.ofChange hdlcFramesSpec)) hdlcFramesCard

/-- THE TIED CARD OF 'lapwinglaw03.HdlcAborts'. -/
def hdlcAbortsCard : Claim7 := { stood := { row := hdlcAbortsRow, standIns := [], harness := (true, "bb7838b2203ec87ce344b81586560c5b8dc52ae8f0197e1d9678e93392641f50"), looks := false }, kinds := [], alts := [], laidByText := true, laidKinds := [.data, .pinned], laidTests := true, laidLooks := .later }
def HdlcAbortsCardSaid : Prop := Claim7.holds Tryd.pinned (.plain (OpenSpec.ofChange hdlcAbortsSpec)) hdlcAbortsCard

/-- THE SECOND FORM's CARD OF 'lapwinglaw03.HdlcStuffs'. -/
def hdlcStuffsUptoCard : Claim7 := { stood := { row := hdlcStuffsUptoRow, standIns := [], harness := (true, "bb7838b2203ec87ce344b81586560c5b8dc52ae8f0197e1d9678e93392641f50"), looks := false }, kinds := [], alts := [], laidByText := true, laidKinds := [.data, .pinned], laidTests := true, laidLooks := .later }
def HdlcStuffsUptoCardSaid : Prop := Claim7.holds Tryd.pinned (.plain (OpenSpec.upto hdlcStuffsSpec)) hdlcStuffsUptoCard

/-- THE SECOND FORM's CARD OF 'lapwinglaw03.HdlcFeeds'. -/
def hdlcFeedsUptoCard : Claim7 := { stood := { row := hdlcFeedsUptoRow, standIns := [], harness := (true, "bb7838b2203ec87ce344b81586560c5b8dc52ae8f0197e1d9678e93392641f50"), looks := false }, kinds := [], alts := [], laidByText := true, laidKinds := [.data, .pinned], laidTests := true, laidLooks := .later }
def HdlcFeedsUptoCardSaid : Prop := Claim7.holds Tryd.pinned (.plain (OpenSpec.upto hdlcFeedsSpec)) hdlcFeedsUptoCard

/-- THE SECOND FORM's CARD OF 'lapwinglaw03.HdlcBack'. -/
def hdlcBackUptoCard : Claim7 := { stood := { row := hdlcBackUptoRow, standIns := [], harness := (true, "bb7838b2203ec87ce344b81586560c5b8dc52ae8f0197e1d9678e93392641f50"), looks := false }, kinds := [], alts := [], laidByText := true, laidKinds := [.data, .pinned], laidTests := true, laidLooks := .later }
def HdlcBackUptoCardSaid : Prop := Claim7.holds Tryd.pinned (.plain (OpenSpec.upto hdlcBackSpec)) hdlcBackUptoCard

/-- THE SECOND FORM's CARD OF 'lapwinglaw03.HdlcPieces'. -/
def hdlcPiecesUptoCard : Claim7 := { stood := { row := hdlcPiecesUptoRow, standIns := [], harness := (true, "bb7838b2203ec87ce344b81586560c5b8dc52ae8f0197e1d9678e93392641f50"), looks := false }, kinds := [], alts := [], laidByText := true, laidKinds := [.data, .pinned], laidTests := true, laidLooks := .later }
def HdlcPiecesUptoCardSaid : Prop := Claim7.holds Tryd.pinned (.plain (OpenSpec.upto hdlcPiecesSpec)) hdlcPiecesUptoCard

/-- THE SECOND FORM's CARD OF 'lapwinglaw03.HdlcFrames'. -/
def hdlcFramesUptoCard : Claim7 := { stood := { row := hdlcFramesUptoRow, standIns := [], harness := (true, "bb7838b2203ec87ce344b81586560c5b8dc52ae8f0197e1d9678e93392641f50"), looks := false }, kinds := [], alts := [], laidByText := true, laidKinds := [.data, .pinned], laidTests := true, laidLooks := .later }
def HdlcFramesUptoCardSaid : Prop := Claim7.holds Tryd.pinned (.plain (OpenSpec.upto hdlcFramesSpec)) hdlcFramesUptoCard

/-- THE SECOND FORM's CARD OF 'lapwinglaw03.HdlcAborts'. -/
def hdlcAbortsUptoCard : Claim7 := { stood := { row := hdlcAbortsUptoRow, standIns := [], harness := (true, "bb7838b2203ec87ce344b81586560c5b8dc52ae8f0197e1d9678e93392641f50"), looks := false }, kinds := [], alts := [], laidByText := true, laidKinds := [.data, .pinned], laidTests := true, laidLooks := .later }
def HdlcAbortsUptoCardSaid : Prop := Claim7.holds Tryd.pinned (.plain (OpenSpec.upto hdlcAbortsSpec)) hdlcAbortsUptoCard
end Rows
end Go.Proofs.YtoakkfmebdglhaaDoor
