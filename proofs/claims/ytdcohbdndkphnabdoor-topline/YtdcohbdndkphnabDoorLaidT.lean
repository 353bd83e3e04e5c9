/-
  A world for the witness of TopLine: the tables of packages ctrl and frame, and two of Go's library, hold what its row lists. And what the walk takes of its list.
-/
import Derived.Test.YtdcohbdndkphnabDoorRows
import Derived.Test.YtdcohbdndkphnabDoorFTabs
import Derived.OpenShut
import GoSem.PinnedTables
namespace Go.Proofs.YtdcohbdndkphnabDoor
open Go.RowKit

def laidVals (l : List Value) (o : Obj) : Obj :=
  match o with
  | .cells _ t frozen => .cells l.toArray t frozen
  | o => o
def laidBytes (l : List Int) : List Value := l.map fun n => Value.int .u8 n
def laidRanges : List Int := [128, 191, 160, 191, 128, 159, 144, 191, 128, 143, 0, 0, 0, 0, 0, 0, 0, 0, 0, 0, 0, 0, 0, 0, 0, 0, 0, 0, 0, 0, 0, 0]
/-- the tables' blocks laid -/
def laidWorld (w : World) : World := { w with heap := ((((w.heap.modify 2 (laidVals (laidBytes Cm.octs))).modify 1 (laidVals (Xm.cmdT.map fun b => Value.bool b))).modify 0 (laidVals (Xm.respT.map fun b => Value.bool b))).modify
  4 (laidVals (laidBytes (Go.Pinned.utf8FirstZ.map Int.ofNat)))).modify 5 (laidVals (laidBytes laidRanges)) }

theorem laws6_top {W : World} (h : laidMet Tryd.prog [("lapwing/ctrl.firstOctets", Rows.laid_lapwing_ctrl_firstOctets), ("unicode/utf8.acceptRanges", Rows.laid_unicode_utf8_acceptRanges), ("lapwing/frame.commandsAlone", Rows.laid_lapwing_frame_commandsAlone), ("lapwing/frame.responsesAlone", Rows.laid_lapwing_frame_responsesAlone), ("unicode/utf8.first", Rows.laid_unicode_utf8_first)] W) : Laws6 W := by
  refine ⟨first_of h, ?_⟩
  obtain ⟨ps, ⟨_, _, _, _, _, _, _, _, _, _, ⟨_, _, _, _, _, _, _, _, _, _, ⟨g, t, cs, fuel, p, q, hg, ht, hvar, hd, ⟨g2, t2, cs2, fuel2, p2, q2, hg2, ht2, hvar2, hd2, _, _⟩, _⟩, _⟩, _⟩, _⟩ := h
  obtain rfl := Option.some.inj ((show Tryd.prog.globalNamed "lapwing/frame.commandsAlone" = some 1 by kernel_rfl).symm.trans hg)
  obtain rfl := Option.some.inj ((show (Tryd.prog.globals[1]?).map (·.type) = some 64 by kernel_rfl).symm.trans ht)
  obtain rfl := Option.some.inj ((show Tryd.prog.globalNamed "lapwing/frame.responsesAlone" = some 0 by kernel_rfl).symm.trans hg2)
  obtain rfl := Option.some.inj ((show (Tryd.prog.globals[0]?).map (·.type) = some 64 by kernel_rfl).symm.trans ht2)
  exact ⟨bool_cells (l := Xm.cmdT) rfl hg hvar hd, bool_cells (l := Xm.respT) rfl hg2 hvar2 hd2⟩
end Go.Proofs.YtdcohbdndkphnabDoor
