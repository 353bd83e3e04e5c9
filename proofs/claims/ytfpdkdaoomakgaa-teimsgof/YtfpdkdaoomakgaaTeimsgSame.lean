/-
  The walk of layer 7's same: two messages that are the same. Nothing that was there is turned.
-/
import Derived.Test.YtfpdkdaoomakgaaTeimsgGetWalks
namespace Go.Proofs.Ytfpdkdaoomakgaa
open Go.RowKit
set_option linter.unusedVariables false
set_option linter.unusedSimpArgs false

set_option maxHeartbeats 400000 in
set_option maxRecDepth 100000 in
theorem tsame_any (t ri ai : Int) (w : World) :
    Calls Try.prog 19 #[.agg #[.int .i64 t, .int .i64 ri, .int .i64 ai], .agg #[.int .i64 t, .int .i64 ri, .int .i64 ai]] w fun e w' => e = .returned (.bool true) ∧ Below w.heap.size w w' := by
  have ea : (t == t) = true := by simp
  have eb : (ri == ri) = true := by simp
  have ec : (ai == ai) = true := by simp
  go_enter Try.func19, Try.ntmps19
  go_wp2
  go_ret
  exact ⟨rfl, ((Below.refl _ _).alloc (Nat.le_refl _) _).alloc (by simp) _⟩
end Go.Proofs.Ytfpdkdaoomakgaa
