/-
  The walk of a type's method FromNetwork: it turns nothing.
-/
import Derived.Test.YtdnhcpkpajbhoaaTeimsgFew
namespace Go.Proofs.Ytdnhcpkpajbhoaa
open Go.RowKit
set_option linter.unusedVariables false
set_option linter.unusedSimpArgs false

set_option maxHeartbeats 400000 in
set_option maxRecDepth 100000 in
theorem from_any (t : Int) (w : World) :
    Calls Try.prog 22 #[.int .i64 t] w fun e w' => e = .returned (.bool (Tm.net t)) ∧ w = w' := by
  have HK : Hid (Tm.net t = decide (t = 2 ∨ t = 3 ∨ t = 4 ∨ t = 6)) := rfl
  go_enter Try.func22, Try.ntmps22
  go_wp2
  all_goals go_ret
  all_goals exact ⟨ret_bool (by rw [HK.out, Bool.eq_iff_iff]; simp only [beq_iff_eq, beq_eq_false_iff_ne, ne_eq] at *; simp; try omega), rfl⟩

end Go.Proofs.Ytdnhcpkpajbhoaa
