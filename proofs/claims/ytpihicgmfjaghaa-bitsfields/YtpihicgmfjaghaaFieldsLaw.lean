/-
  The walk of the law BitsFields: it returns true.
-/
import Derived.Test.YtpihicgmfjaghaaFieldsWalks
import Derived.WalkSmall
namespace Go.Proofs.Ytpihicgmfjaghaa
open Go.RowKit
set_option linter.unusedVariables false
set_option linter.unusedSimpArgs false

set_option maxHeartbeats 400000 in
theorem walk_BitsFields (x low count : Int) (w : World) (hx : 0 ≤ x ∧ x ≤ 255) (hl : -9223372036854775808 ≤ low ∧ low ≤ 9223372036854775807) (hc : -9223372036854775808 ≤ count ∧ count ≤ 9223372036854775807) :
    Calls Try.prog 6 #[.int .u8 x, .int .i64 low, .int .i64 count] w fun e w' => e = .returned (.bool true) ∧ Below w.heap.size w w' := by
  have e63 : Hid (Bm.fld 253 2 6 = 63) := by show Bm.fld 253 2 6 = 63; decide
  go_enter Try.func6, Try.ntmps6
  go_wp2_with fail
  refine (field_any 253 2 6 _ (by omega) (by omega) (by omega)).mono ?_
  rintro e w1 ⟨rfl, n1, rfl⟩
  rw [e63.out]
  go_wp2_with fail
  refine (field_any x low count _ (by omega) (by omega) (by omega)).mono ?_
  rintro e w1 ⟨rfl, n2, rfl⟩
  go_wp2_with fail
  refine (ref_field_any x low count _ (by omega) (by omega)).mono ?_
  rintro e w1 ⟨rfl, rfl⟩
  go_wp2
  go_ret
  refine ⟨by simp, ?_⟩
  exact below_drewN (Below.refl _ _) _
end Go.Proofs.Ytpihicgmfjaghaa
