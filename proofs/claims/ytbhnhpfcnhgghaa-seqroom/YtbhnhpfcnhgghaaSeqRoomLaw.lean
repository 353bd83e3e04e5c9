/-
  The walk of the law SeqRoom: it returns true.
-/
import Derived.Test.YtbhnhpfcnhgghaaSeqWakes
import Derived.Test.YtbhnhpfcnhgghaaRefSeqValid
namespace Go.Proofs.Ytbhnhpfcnhgghaa
open Go.RowKit
set_option linter.unusedVariables false
set_option linter.unusedSimpArgs false

set_option maxHeartbeats 400000 in
theorem walk_SeqRoom (va vs k : Int) (w : World) (ha : -9223372036854775808 ≤ va ∧ va ≤ 9223372036854775807) (hs : -9223372036854775808 ≤ vs ∧ vs ≤ 9223372036854775807) (hk : -9223372036854775808 ≤ k ∧ k ≤ 9223372036854775807) :
    Calls Try.prog 5 #[.int .i64 va, .int .i64 vs, .int .i64 k] w fun e w' => e = .returned (.bool true) ∧ Below w.heap.size w w' := by
  have t1 : (Sm.rm va vs k == Sm.rm va vs k) = true := by simp
  go_enter Try.func5, Try.ntmps5
  go_wp2_with (first
    | (go_at_call 9; refine (swakes_any _).mono ?_; rintro e w' ⟨rfl, rfl⟩)
    | (go_at_call 18; refine (sroom_any _ _ _ _ (by omega) (by omega) (by omega) (by omega) (by omega) (by omega)).mono ?_; rintro e w' ⟨rfl, rfl⟩)
    | (go_at_call 19; refine (ref_sroom_any _ _ _ _ (by omega) (by omega) (by omega) (by omega) (by omega) (by omega)).mono ?_; rintro e w' ⟨rfl, rfl⟩))
  go_ret
  exact ⟨by simp, Below.refl _ _⟩
end Go.Proofs.Ytbhnhpfcnhgghaa
