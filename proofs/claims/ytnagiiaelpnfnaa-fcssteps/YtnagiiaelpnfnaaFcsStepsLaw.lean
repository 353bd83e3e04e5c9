/-
  The walk of the law FcsSteps: it returns true.
-/
import Derived.Test.YtnagiiaelpnfnaaFcsSumWalks
import Derived.Test.YtnagiiaelpnfnaaRefFcsWalks
namespace Go.Proofs.Ytnagiiaelpnfnaa
open Go.RowKit
set_option linter.unusedVariables false
set_option linter.unusedSimpArgs false

theorem sum_nine : ((Fm.sum ⟨#[49, 50, 51, 52, 53, 54, 55, 56, 57]⟩ : Nat) : Int) = 36974 := by decide +kernel

set_option maxHeartbeats 400000 in
theorem walk_FcsSteps (r c : Int) (w : World) (hr : 0 ≤ r ∧ r ≤ 65535) (hc : 0 ≤ c ∧ c ≤ 255) :
    Calls Try.prog 3 #[.int .u16 r, .int .u8 c] w fun e w' => e = .returned (.bool true) ∧ Below w.heap.size w w' := by
  obtain ⟨r, rfl⟩ := Int.eq_ofNat_of_zero_le hr.1
  obtain ⟨c, rfl⟩ := Int.eq_ofNat_of_zero_le hc.1
  have hr1 : r < 65536 := by omega
  have hc1 : c < 256 := by omega
  have hs := Fm.step_lt r c hr1
  clear hr hc
  go_enter Try.func3, Try.ntmps3
  go_wp2_with fail
  refine (sum_any ⟨#[49, 50, 51, 52, 53, 54, 55, 56, 57]⟩ _ (by decide)).mono ?_
  rintro e w' ⟨rfl, rfl⟩
  rw [sum_nine]
  go_wp2_with fail
  refine (step_any r c _ hr1 hc1).mono ?_
  rintro e w' ⟨rfl, rfl⟩
  go_wp2_with fail
  refine (ref_step_any r c _ hr1 hc1).mono ?_
  rintro e w1 ⟨rfl, hb⟩
  go_wp2
  go_ret
  exact ⟨by simp, hb⟩
end Go.Proofs.Ytnagiiaelpnfnaa
