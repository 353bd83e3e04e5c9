/-
  The two tables of package frame out of what a row lists.
  A world for the witnesses: the two tables of package frame hold what the rows list.
-/
import Derived.Test.YtidemohpngkedabGreatDoorWaysTab
import Derived.Test.YtidemohpngkedabGreatDoorRows
import Derived.Test.YtidemohpngkedabGreatDoorWaysMath
import Derived.OpenShut
namespace Go.Proofs.YtidemohpngkedabGreatDoor
open Go.RowKit
set_option linter.unusedVariables false
set_option maxRecDepth 100000
set_option linter.unusedSimpArgs false

theorem ways_of {W : World} (h : laidMet Tryz.prog [("lapwing/frame.commandsAlone", Rows.laid_lapwing_frame_commandsAlone), ("lapwing/frame.responsesAlone", Rows.laid_lapwing_frame_responsesAlone)] W) : Ways W := by
  obtain ⟨ps, ⟨g, t, cs, fuel, p, q, hg, ht, hvar, hd, ⟨g2, t2, cs2, fuel2, p2, q2, hg2, ht2, hvar2, hd2, _, _⟩, _⟩, _⟩ := h
  obtain rfl := Option.some.inj ((show Tryz.prog.globalNamed "lapwing/frame.commandsAlone" = some 1 by kernel_rfl).symm.trans hg)
  obtain rfl := Option.some.inj ((show (Tryz.prog.globals[1]?).map (·.type) = some 112 by kernel_rfl).symm.trans ht)
  obtain rfl := Option.some.inj ((show Tryz.prog.globalNamed "lapwing/frame.responsesAlone" = some 0 by kernel_rfl).symm.trans hg2)
  obtain rfl := Option.some.inj ((show (Tryz.prog.globals[0]?).map (·.type) = some 112 by kernel_rfl).symm.trans ht2)
  exact ⟨bool_cells (l := Xm.cmdT) rfl hg hvar hd, bool_cells (l := Xm.respT) rfl hg2 hvar2 hd2⟩
end Go.Proofs.YtidemohpngkedabGreatDoor

namespace Go.Proofs.YtidemohpngkedabGreatDoor
open Go.RowKit

def laidVals (l : List Value) (o : Obj) : Obj :=
  match o with
  | .cells _ t frozen => .cells l.toArray t frozen
  | o => o
/-- the tables' blocks laid -/
def laidWorld (w : World) : World := { w with heap := (w.heap.modify 1 (laidVals (Xm.cmdT.map fun b => Value.bool b))).modify 0 (laidVals (Xm.respT.map fun b => Value.bool b)) }
end Go.Proofs.YtidemohpngkedabGreatDoor
