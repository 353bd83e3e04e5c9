/-
  DERIVED. GIVEN WITH THE SEED: THE PROGRAM's TIES (one call each: nine closed facts by the kernel) AND EACH ROW's TIE, after the 31st guide's Derived/Test/Toyas{Tie, Card}.lean. No idea stands in it: it is a product of the set-up. Laid BY PROGRAM, IN A SANDBOX (cutbox-door.mjs). By AI agents, Wed Nov 11 2026. No macro, syntax, notation, axiom, sorry.
-/
import Derived.Test.YtphconnepdbpcabDoorRows
import Derived.LaidByTextLater
import Derived.SevenTiedAt
import Derived.LaidSub
import Derived.LaidOnce
namespace Go.Proofs.YtphconnepdbpcabDoor
open Go
set_option maxRecDepth 100000
theorem seatTie1 : Tryd.prog.laidByTextLater [("lapwing/ctrl.firstOctets", Rows.laid_lapwing_ctrl_firstOctets), ("lapwing/ctrl.names", Rows.laid_lapwing_ctrl_names)] [.data, .data] true :=
  Program.laidByTextLater_by_one 19 8 11 (by kernel_rfl) (by kernel_rfl) (by kernel_rfl) (by kernel_rfl) (by kernel_rfl) (by kernel_rfl) (fun _ _ => by kernel_rfl)
theorem noOwnUnsafe : Tryd.pinned.checked.prog.headLifts.contains "ownunsafe" = false := by kernel_rfl
theorem tie : Tryd.prog.laidByTextLater [("lapwing/ctrl.firstOctets", Rows.laid_lapwing_ctrl_firstOctets), ("lapwing/ctrl.names", Rows.laid_lapwing_ctrl_names)] [.data, .data] true :=
  Program.laidByTextLater.sub seatTie1 ["lapwing/ctrl.firstOctets", "lapwing/ctrl.names"] (by kernel_rfl) (by kernel_rfl)
theorem ctrlFinal_row_tie : Rows.ctrlFinalRow.laidByTextAt .later Tryd.pinned [.data, .data] true :=
  OpenClaim.laidByTextAt_later rfl rfl tie noOwnUnsafe
theorem ctrlFinalUpto_row_tie : Rows.ctrlFinalUptoRow.laidByTextAt .later Tryd.pinned [.data, .data] true :=
  OpenClaim.laidByTextAt_later rfl rfl tie noOwnUnsafe
end Go.Proofs.YtphconnepdbpcabDoor
