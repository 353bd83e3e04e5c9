/-
  A world for the witnesses: the library's two tables that the rows list hold what they list.
-/
import Derived.Test.YtoakkfmebdglhaaDoorRows
import Derived.OpenShut
import GoSem.PinnedTables
namespace Go.Proofs.YtoakkfmebdglhaaDoor
open Go.RowKit

def laidCells (l : List Int) (o : Obj) : Obj :=
  match o with
  | .cells _ t frozen => .cells (l.map fun n => Value.int .u8 n).toArray t frozen
  | o => o
def laidRanges : List Int := [128, 191, 160, 191, 128, 159, 144, 191, 128, 143, 0, 0, 0, 0, 0, 0, 0, 0, 0, 0, 0, 0, 0, 0, 0, 0, 0, 0, 0, 0, 0, 0]
/-- two of its variables' blocks laid -/
def laidWorld (w : World) : World := { w with heap := (w.heap.modify 1 (laidCells (Go.Pinned.utf8FirstZ.map Int.ofNat))).modify 2 (laidCells laidRanges) }
end Go.Proofs.YtoakkfmebdglhaaDoor
