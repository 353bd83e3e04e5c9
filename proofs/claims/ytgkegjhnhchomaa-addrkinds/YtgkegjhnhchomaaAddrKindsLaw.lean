/-
  The walk of the law AddrKinds: it returns true.
-/
import Derived.Test.YtgkegjhnhchomaaAddrWakes
import Derived.Test.YtgkegjhnhchomaaRefKindWalks
namespace Go.Proofs.Ytgkegjhnhchomaa
open Go.RowKit
set_option linter.unusedVariables false
set_option linter.unusedSimpArgs false

set_option maxHeartbeats 400000 in
theorem walk_AddrKinds (t : Int) (w : World) (ht : -9223372036854775808 ≤ t ∧ t ≤ 9223372036854775807) :
    Calls Try.prog 3 #[.int .i64 t] w fun e w' => e = .returned (.bool true) ∧ Below w.heap.size w w' := by
  go_enter Try.func3, Try.ntmps3
  go_wp2_with fail
  refine (wakes_any _).mono ?_
  rintro e w1 ⟨rfl, hb1⟩
  have ek : (Am.kind t == Am.kind t) = true := by simp
  go_wp2_with (first | (go_at_call 10; refine (kind_any _ _).mono ?_; rintro e w' ⟨rfl, rfl⟩) | (go_at_call 11; refine (ref_kind_any _ _).mono ?_; rintro e w' ⟨rfl, rfl⟩))
  go_ret
  exact ⟨by simp, hb1⟩
end Go.Proofs.Ytgkegjhnhchomaa
