/-
  DERIVED. GIVEN WITH THE SEED: THE CARDS: each row of YtidemohpngkedacGreatDoorRows.lean that lists a variable, with what it lists TIED to the program's text (the seventh form; the later family's looks); each row that meets fmt, with fmt's text TOLD by the authors' own Lean function (tested against real Go, not proved from fmt's source: count such statements apart). THE CARD IS WHAT COUNTS. Prove the row's statement (the work); the ties are given (YtidemohpngkedacGreatDoorTie.lean); close each card by the builder's one call (the guide's Derived/Test/ToyasCard.lean, 'card_holds'). Laid BY PROGRAM, IN A SANDBOX (cutbox-door.mjs). By AI agents, Wed Nov 11 2026. No macro, syntax, notation, axiom, sorry.
-/
import Derived.Test.YtidemohpngkedacGreatDoorRows
import GoSem.ClaimSeven
namespace Go.Proofs.YtidemohpngkedacGreatDoor
namespace Rows

/-- THE TIED CARD OF 'lapwinglaw14.EntityGone'. -/
def entityGoneCard : Claim7 := { stood := { row := entityGoneRow, standIns := [], harness := (true, "596cbf746a41eb7b8927153ad748bed120ca6d85ff09db7de4eb7545bf1fff6e"), looks := false }, kinds := [], alts := [], laidByText := true, laidKinds := [.data, .data], laidTests := true, laidLooks := .later }
def EntityGoneCardSaid : Prop := Claim7.holds Tryz.pinned (.plain (OpenSpec.ofChange entityGoneSpec)) entityGoneCard

/-- THE TIED CARD OF 'lapwingtop.TopOrder'. -/
def topOrderCard : Claim7 := { stood := { row := topOrderRow, standIns := [], harness := (true, "596cbf746a41eb7b8927153ad748bed120ca6d85ff09db7de4eb7545bf1fff6e"), looks := false }, kinds := [], alts := [], laidByText := true, laidKinds := [.data, .data, .data, .data, .pinned], laidTests := true, laidLooks := .later }
def TopOrderCardSaid : Prop := Claim7.holds Tryz.pinned (.plain (OpenSpec.ofChange topOrderSpec)) topOrderCard

/-- THE TIED CARD OF 'lapwingtop.TopProgress'. -/
def topProgressCard : Claim7 := { stood := { row := topProgressRow, standIns := [], harness := (true, "596cbf746a41eb7b8927153ad748bed120ca6d85ff09db7de4eb7545bf1fff6e"), looks := false }, kinds := [], alts := [], laidByText := true, laidKinds := [.data, .data, .data, .data, .pinned], laidTests := true, laidLooks := .later }
def TopProgressCardSaid : Prop := Claim7.holds Tryz.pinned (.plain (OpenSpec.ofChange topProgressSpec)) topProgressCard

/-- THE TIED CARD OF 'lapwingtop.TopClean'. -/
def topCleanCard : Claim7 := { stood := { row := topCleanRow, standIns := [], harness := (true, "596cbf746a41eb7b8927153ad748bed120ca6d85ff09db7de4eb7545bf1fff6e"), looks := false }, kinds := [], alts := [], laidByText := true, laidKinds := [.data, .data, .data, .data, .pinned], laidTests := true, laidLooks := .later }
def TopCleanCardSaid : Prop := Claim7.holds Tryz.pinned (.plain (OpenSpec.ofChange topCleanSpec)) topCleanCard

/-- THE TIED CARD OF 'lapwingtop.TopUnits'. -/
def topUnitsCard : Claim7 := { stood := { row := topUnitsRow, standIns := [], harness := (true, "596cbf746a41eb7b8927153ad748bed120ca6d85ff09db7de4eb7545bf1fff6e"), looks := false }, kinds := [], alts := [], laidByText := true, laidKinds := [.data, .data, .data, .data, .pinned], laidTests := true, laidLooks := .later }
def TopUnitsCardSaid : Prop := Claim7.holds Tryz.pinned (.plain (OpenSpec.ofChange topUnitsSpec)) topUnitsCard

/-- THE TIED CARD OF 'lapwingtop.TopMeets'. -/
def topMeetsCard : Claim7 := { stood := { row := topMeetsRow, standIns := [], harness := (true, "596cbf746a41eb7b8927153ad748bed120ca6d85ff09db7de4eb7545bf1fff6e"), looks := false }, kinds := [], alts := [], laidByText := true, laidKinds := [.data, .data, .data, .data, .pinned], laidTests := true, laidLooks := .later }
def TopMeetsCardSaid : Prop := Claim7.holds Tryz.pinned (.plain (OpenSpec.ofChange topMeetsSpec)) topMeetsCard

/-- THE SECOND FORM's CARD OF 'lapwinglaw14.EntityGone'. -/
def entityGoneUptoCard : Claim7 := { stood := { row := entityGoneUptoRow, standIns := [], harness := (true, "596cbf746a41eb7b8927153ad748bed120ca6d85ff09db7de4eb7545bf1fff6e"), looks := false }, kinds := [], alts := [], laidByText := true, laidKinds := [.data, .data], laidTests := true, laidLooks := .later }
def EntityGoneUptoCardSaid : Prop := Claim7.holds Tryz.pinned (.plain (OpenSpec.upto entityGoneSpec)) entityGoneUptoCard

/-- THE SECOND FORM's CARD OF 'lapwingtop.TopOrder'. -/
def topOrderUptoCard : Claim7 := { stood := { row := topOrderUptoRow, standIns := [], harness := (true, "596cbf746a41eb7b8927153ad748bed120ca6d85ff09db7de4eb7545bf1fff6e"), looks := false }, kinds := [], alts := [], laidByText := true, laidKinds := [.data, .data, .data, .data, .pinned], laidTests := true, laidLooks := .later }
def TopOrderUptoCardSaid : Prop := Claim7.holds Tryz.pinned (.plain (OpenSpec.upto topOrderSpec)) topOrderUptoCard

/-- THE SECOND FORM's CARD OF 'lapwingtop.TopProgress'. -/
def topProgressUptoCard : Claim7 := { stood := { row := topProgressUptoRow, standIns := [], harness := (true, "596cbf746a41eb7b8927153ad748bed120ca6d85ff09db7de4eb7545bf1fff6e"), looks := false }, kinds := [], alts := [], laidByText := true, laidKinds := [.data, .data, .data, .data, .pinned], laidTests := true, laidLooks := .later }
def TopProgressUptoCardSaid : Prop := Claim7.holds Tryz.pinned (.plain (OpenSpec.upto topProgressSpec)) topProgressUptoCard

/-- THE SECOND FORM's CARD OF 'lapwingtop.TopClean'. -/
def topCleanUptoCard : Claim7 := { stood := { row := topCleanUptoRow, standIns := [], harness := (true, "596cbf746a41eb7b8927153ad748bed120ca6d85ff09db7de4eb7545bf1fff6e"), looks := false }, kinds := [], alts := [], laidByText := true, laidKinds := [.data, .data, .data, .data, .pinned], laidTests := true, laidLooks := .later }
def TopCleanUptoCardSaid : Prop := Claim7.holds Tryz.pinned (.plain (OpenSpec.upto topCleanSpec)) topCleanUptoCard

/-- THE SECOND FORM's CARD OF 'lapwingtop.TopUnits'. -/
def topUnitsUptoCard : Claim7 := { stood := { row := topUnitsUptoRow, standIns := [], harness := (true, "596cbf746a41eb7b8927153ad748bed120ca6d85ff09db7de4eb7545bf1fff6e"), looks := false }, kinds := [], alts := [], laidByText := true, laidKinds := [.data, .data, .data, .data, .pinned], laidTests := true, laidLooks := .later }
def TopUnitsUptoCardSaid : Prop := Claim7.holds Tryz.pinned (.plain (OpenSpec.upto topUnitsSpec)) topUnitsUptoCard

/-- THE SECOND FORM's CARD OF 'lapwingtop.TopMeets'. -/
def topMeetsUptoCard : Claim7 := { stood := { row := topMeetsUptoRow, standIns := [], harness := (true, "596cbf746a41eb7b8927153ad748bed120ca6d85ff09db7de4eb7545bf1fff6e"), looks := false }, kinds := [], alts := [], laidByText := true, laidKinds := [.data, .data, .data, .data, .pinned], laidTests := true, laidLooks := .later }
def TopMeetsUptoCardSaid : Prop := Claim7.holds Tryz.pinned (.plain (OpenSpec.upto topMeetsSpec)) topMeetsUptoCard
end Rows
end Go.Proofs.YtidemohpngkedacGreatDoor
