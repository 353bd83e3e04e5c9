/-
  A world for the witnesses: the two tables of package frame hold what the rows list.
-/
import Derived.Test.YtdfoicngcahajaaDoorRows
import Derived.Test.YtdfoicngcahajaaDoorWaysMath
import Derived.OpenShut
namespace Go.Proofs.YtdfoicngcahajaaDoor
open Go.RowKit

def laidVals (l : List Value) (o : Obj) : Obj :=
  match o with
  | .cells _ t frozen => .cells l.toArray t frozen
  | o => o
/-- the tables' blocks laid -/
def laidWorld (w : World) : World := { w with heap := (w.heap.modify 1 (laidVals (Xm.cmdT.map fun b => Value.bool b))).modify 0 (laidVals (Xm.respT.map fun b => Value.bool b)) }
end Go.Proofs.YtdfoicngcahajaaDoor
