/-
  That the library's variable MaxLen holds some number is of the world's shape.
-/
import Derived.Test.YtdcohbdndkphnabDoorStuffWalks
import Derived.Shelf.Vars
namespace Go.Proofs.YtdcohbdndkphnabDoor
theorem maxOk_of {W : World} (h : W.ShapedOpen Tryd.prog) : MaxOk W :=
  Go.Proofs.cell_of_shapedOpen_int (zero := #[.int .i64 0]) (t := 3) h (of_decide_eq_true (by kernel_rfl)) (by kernel_rfl) rfl (by kernel_rfl) (by kernel_rfl) Tryd.underlying3
end Go.Proofs.YtdcohbdndkphnabDoor
