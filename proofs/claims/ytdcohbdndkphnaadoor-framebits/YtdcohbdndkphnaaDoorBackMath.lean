/-
  What bits.Of makes is read back by bits.Octets.
-/
import Derived.Test.YtdcohbdndkphnaaDoorOctetsWalks
namespace Go.Proofs.YtdcohbdndkphnaaDoor
open Go.RowKit
set_option linter.unusedVariables false
set_option linter.unusedSimpArgs false

theorem of_one' : strOfNums (Bm.ofN (Bm.nums ⟨#[1]⟩)) = ⟨#[49, 48, 48, 48, 48, 48, 48, 48]⟩ := by decide

theorem back_size (s : ByteArray) : (strOfNums (Bm.ofN (Bm.nums s))).size = 8 * s.size := by
  rw [strOfNums_size, Bm.ofN_length, Bm.nums_length]
theorem back_oct (s : ByteArray) : octRes (strOfNums (Bm.ofN (Bm.nums s))) = (s, 0) := by
  have hn : Bm.nums (strOfNums (Bm.ofN (Bm.nums s))) = Bm.ofN (Bm.nums s) := Bm.nums_str _ (Bm.ofN_range _)
  rw [octRes, hn, if_neg (by rw [Bm.ofN_good]; decide), if_neg (by rw [back_size]; omega), Bm.octs_ofN _ (Bm.nums_range s), Bm.str_nums]
theorem back_good (s : ByteArray) : Bm.goodN (Bm.nums (strOfNums (Bm.ofN (Bm.nums s)))) = true := by
  rw [Bm.nums_str _ (Bm.ofN_range _), Bm.ofN_good]

theorem nums_append (a b : ByteArray) : Bm.nums (a ++ b) = Bm.nums a ++ Bm.nums b := by simp [Bm.nums]
theorem str_append (xs ys : List Int) : strOfNums (xs ++ ys) = strOfNums xs ++ strOfNums ys := by
  apply ByteArray.ext
  simp [strOfNums]
theorem join_of (s t : ByteArray) : strOfNums (Bm.ofN (Bm.nums s)) ++ strOfNums (Bm.ofN (Bm.nums t)) = strOfNums (Bm.ofN (Bm.nums (s ++ t))) := by
  rw [nums_append, Bm.ofN_append, str_append]
end Go.Proofs.YtdcohbdndkphnaaDoor
