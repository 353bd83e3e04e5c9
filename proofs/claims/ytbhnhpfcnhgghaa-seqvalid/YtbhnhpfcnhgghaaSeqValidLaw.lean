/-
  The walk of the law SeqValid: it returns true.
-/
import Derived.Test.YtbhnhpfcnhgghaaSeqWakes
import Derived.Test.YtbhnhpfcnhgghaaRefSeqValid
namespace Go.Proofs.Ytbhnhpfcnhgghaa
open Go.RowKit
set_option linter.unusedVariables false
set_option linter.unusedSimpArgs false

set_option maxHeartbeats 400000 in
theorem walk_SeqValid (va nr vs : Int) (w : World) (ha : -9223372036854775808 ≤ va ∧ va ≤ 9223372036854775807) (hn : -9223372036854775808 ≤ nr ∧ nr ≤ 9223372036854775807) (hs : -9223372036854775808 ≤ vs ∧ vs ≤ 9223372036854775807) :
    Calls Try.prog 4 #[.int .i64 va, .int .i64 nr, .int .i64 vs] w fun e w' => e = .returned (.bool true) ∧ Below w.heap.size w w' := by
  have t1 : (Sm.vd va nr vs == Sm.vd va nr vs) = true := by simp
  go_enter Try.func4, Try.ntmps4
  go_wp2_with (first
    | (go_at_call 9; refine (swakes_any _).mono ?_; rintro e w' ⟨rfl, rfl⟩)
    | (go_at_call 16; refine (svalid_any _ _ _ _ (by omega) (by omega) (by omega) (by omega) (by omega) (by omega)).mono ?_; rintro e w' ⟨rfl, rfl⟩)
    | (go_at_call 17; refine (ref_svalid_any _ _ _ _ (by omega) (by omega) (by omega) (by omega) (by omega) (by omega)).mono ?_; rintro e w' ⟨rfl, rfl⟩))
  go_ret
  exact ⟨by simp, Below.refl _ _⟩
end Go.Proofs.Ytbhnhpfcnhgghaa
