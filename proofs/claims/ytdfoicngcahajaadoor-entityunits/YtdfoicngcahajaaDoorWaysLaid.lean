/-
  The two tables of package frame out of what a row lists.
-/
import Derived.Test.YtdfoicngcahajaaDoorWaysTab
import Derived.Test.YtdfoicngcahajaaDoorRows
namespace Go.Proofs.YtdfoicngcahajaaDoor
open Go.RowKit
set_option linter.unusedVariables false
set_option maxRecDepth 100000
set_option linter.unusedSimpArgs false

theorem ways_of {W : World} (h : laidMet Tryd.prog [("lapwing/frame.commandsAlone", Rows.laid_lapwing_frame_commandsAlone), ("lapwing/frame.responsesAlone", Rows.laid_lapwing_frame_responsesAlone)] W) : Ways W := by
  obtain ⟨ps, ⟨g, t, cs, fuel, p, q, hg, ht, hvar, hd, ⟨g2, t2, cs2, fuel2, p2, q2, hg2, ht2, hvar2, hd2, _, _⟩, _⟩, _⟩ := h
  obtain rfl := Option.some.inj ((show Tryd.prog.globalNamed "lapwing/frame.commandsAlone" = some 1 by kernel_rfl).symm.trans hg)
  obtain rfl := Option.some.inj ((show (Tryd.prog.globals[1]?).map (·.type) = some 87 by kernel_rfl).symm.trans ht)
  obtain rfl := Option.some.inj ((show Tryd.prog.globalNamed "lapwing/frame.responsesAlone" = some 0 by kernel_rfl).symm.trans hg2)
  obtain rfl := Option.some.inj ((show (Tryd.prog.globals[0]?).map (·.type) = some 87 by kernel_rfl).symm.trans ht2)
  exact ⟨bool_cells (l := Xm.cmdT) rfl hg hvar hd, bool_cells (l := Xm.respT) rfl hg2 hvar2 hd2⟩
end Go.Proofs.YtdfoicngcahajaaDoor
