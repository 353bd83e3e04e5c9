/-
  What a decoder meets of an encoded frame.
-/
import Derived.Test.YtdcohbdndkphnabDoorNewWalks
import Derived.Test.YtdcohbdndkphnabDoorStuffWalks
namespace Go.Proofs.YtdcohbdndkphnabDoor
open Go.RowKit
set_option linter.unusedVariables false
set_option linter.unusedSimpArgs false

/-- what a frame of these octets is met as -/
def metB (s : ByteArray) : List Hm.Ev := if s.size = 0 then [] else if 266 < s.size then [(2, ByteArray.empty)] else [(0, s)]
theorem met_nums (s : ByteArray) : Hm.met (Bm.nums s) = metB s := by
  have hl := Bm.nums_length s
  unfold Hm.met metB
  rw [hl, Bm.str_nums]
  by_cases h0 : s.size = 0
  · rw [if_pos h0, if_pos (List.eq_nil_of_length_eq_zero (by rw [hl]; exact h0))]
  · rw [if_neg h0, if_neg (fun h => h0 (by rw [← hl, h]; rfl))]
theorem feed_enc {st : Hm.St} (h : Hm.Ready st) (s : ByteArray) : Hm.feedS st (Bm.nums (encB s)) = (⟨0, true, []⟩, metB s) := by
  rw [nums_enc, ← met_nums]
  exact Hm.feed_frame h (Bm.nums s) (Bm.nums_range s)
theorem nums_app (a b : ByteArray) : Bm.nums (a ++ b) = Bm.nums a ++ Bm.nums b := by simp [Bm.nums]

/-- a row of one event -/
theorem row_one {w : World} {B : Nat} {x : Value} {k : Int} {o : ByteArray} (h : w.ownsRow B 53 2 x 1 (evCells [(k, o)])) :
    ∃ g cap, x = .slice (some ⟨g, 0, none⟩) 1 cap ∧ w.cell? ⟨g, 0, none⟩ = some (.int .i64 k) ∧ w.cell? ⟨g, 1, none⟩ = some (.string o) ∧ B ≤ g ∧ g < w.heap.size := by
  obtain ⟨g, cap, rfl⟩ : ∃ g cap, x = .slice (some ⟨g, 0, none⟩) 1 cap := by
    rcases h.2 with ⟨_, h0⟩ | ⟨g, cap, cur, h, _⟩
    · omega
    · exact ⟨g, cap, h⟩
  exact ⟨g, cap, rfl, h.cellAt 0 (by omega), h.cellAt 1 (by omega), (h.lt g rfl).1, (h.lt g rfl).2⟩

end Go.Proofs.YtdcohbdndkphnabDoor
