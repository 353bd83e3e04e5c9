/-
  A world for the witnesses: the two tables of package ctrl hold what the rows list.
-/
import Derived.Test.YtphconnepdbpcaaDoorRows
import Derived.Test.YtphconnepdbpcaaDoorCtrlMath
import Derived.OpenShut
namespace Go.Proofs.YtphconnepdbpcaaDoor
open Go.RowKit

def laidVals (l : List Value) (o : Obj) : Obj :=
  match o with
  | .cells _ t frozen => .cells l.toArray t frozen
  | o => o
/-- the tables' blocks laid -/
def laidWorld (w : World) : World := { w with heap := (w.heap.modify 1 (laidVals (Cm.octs.map fun n => Value.int .u8 n))).modify 0 (laidVals (Cm.names.map fun s => Value.string s)) }
end Go.Proofs.YtphconnepdbpcaaDoor
