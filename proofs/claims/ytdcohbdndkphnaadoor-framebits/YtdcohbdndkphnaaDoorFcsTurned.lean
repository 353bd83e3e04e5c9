/-
  Sealed octets, their bits, some of them turned, as octets again: what bits.Octets and fcs.Check say of them.
-/
import Derived.Test.YtdcohbdndkphnaaDoorBurstMath
import Derived.Test.YtdcohbdndkphnaaDoorFcsCheckWalks
import Derived.Test.YtdcohbdndkphnaaDoorBackMath
import Derived.Test.YtdcohbdndkphnaaDoorFlipWalks
namespace Go.Proofs.YtdcohbdndkphnaaDoor
open Go.RowKit
set_option linter.unusedVariables false
set_option linter.unusedSimpArgs false

theorem turned_oct (T U : ByteArray) (ps : List Int) (h : Bm.flips (Bm.ofN (Bm.nums T)) ps = Bm.ofN (Bm.nums U)) :
    octRes (strOfNums (Bm.flips (Bm.nums (strOfNums (Bm.ofN (Bm.nums T)))) ps)) = (U, 0) := by
  rw [Bm.nums_str _ (Bm.ofN_range _), h, back_oct]
theorem turned_check (U : ByteArray) (h2 : 2 ≤ U.size) (h : ∀ A, Fm.sealB A ≠ U) : checkRes U = (ByteArray.empty, 6) := by
  rw [checkRes, if_neg (by omega), if_neg (h _)]
theorem turned_size (b : ByteArray) (ps : List Int) : (strOfNums (Bm.flips (Bm.nums b) ps)).size = b.size := by
  rw [strOfNums_size, Bm.flips_length, Bm.nums_length]
end Go.Proofs.YtdcohbdndkphnaaDoor
