/-
  A world for the witnesses: the two tables of package ctrl hold what the rows list.
-/
import Derived.Test.YtphconnepdbpcabDoorRows
import Derived.Test.YtphconnepdbpcabDoorCtrlMath
import Derived.OpenShut
namespace Go.Proofs.YtphconnepdbpcabDoor
open Go.RowKit

def laidVals (l : List Value) (o : Obj) : Obj :=
  match o with
  | .cells _ t frozen => .cells l.toArray t frozen
  | o => o
/-- the tables' blocks laid -/
def laidWorld (w : World) : World := { w with heap := (w.heap.modify 0 (laidVals (Cm.octs.map fun n => Value.int .u8 n))).modify 1 (laidVals (Cm.names.map fun s => Value.string s)) }
end Go.Proofs.YtphconnepdbpcabDoor
