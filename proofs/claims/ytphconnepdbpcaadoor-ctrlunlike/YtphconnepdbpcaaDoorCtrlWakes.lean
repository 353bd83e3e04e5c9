/-
  The walk of wakes, and of made. Nothing that was there is turned.
-/
import Derived.Test.YtphconnepdbpcaaDoorCtrlPutI
import Derived.Test.YtphconnepdbpcaaDoorNameWalks
namespace Go.Proofs.YtphconnepdbpcaaDoor
open Go.RowKit
set_option linter.unusedVariables false
set_option linter.unusedSimpArgs false

theorem cwakes_put : Cm.putRes 0 true 3 2 = (⟨#[6, 5]⟩, 0) := by decide
theorem cwakes_name : Cm.nameOf 4 = ⟨#[83, 65, 66, 77, 69]⟩ := by decide

set_option maxHeartbeats 400000 in
theorem cwakes_any (w : World) (hT : First w) (hN : Names w) :
    Calls Tryd.prog 9 #[] w fun e w' => e = .returned (.bool true) ∧ Below w.heap.size w w' := by
  have hP := cput_any 0 true 3 2 w hT
  rw [cwakes_put] at hP
  go_enter Tryd.func9, Tryd.ntmps9
  go_wp2_with fail
  refine hP.mono ?_
  rintro e w1 ⟨rfl, hb1⟩
  clear hP
  go_wp2_with fail
  refine (name_any 4 _ (hN.later hb1)).mono ?_
  rintro e w2 ⟨rfl, rfl⟩
  rw [cwakes_name]
  go_wp2
  go_ret
  exact ⟨by simp, hb1⟩

set_option maxHeartbeats 400000 in
theorem made_any (k : Int) (pf : Bool) (ns nr : Int) (w : World) :
    Calls Tryd.prog 15 #[.agg #[.int .i64 k, .bool pf, .int .i64 ns, .int .i64 nr]] w fun e w' => e = .returned (.agg #[.int .i64 k, .bool pf, .int .i64 ns, .int .i64 nr]) ∧ Below w.heap.size w w' := by
  go_enter Tryd.func15, Tryd.ntmps15
  go_wp2
  exact bodyPost_ret (v := .agg #[.int .i64 k, .bool pf, .int .i64 ns, .int .i64 nr]) (by simp [results, Tryd.results15, go_sem]) rfl ⟨rfl, by
    have h : Below w.heap.size w ((w.alloc (.cells #[.int .i64 k, .bool pf, .int .i64 ns, .int .i64 nr] 28)).alloc (.cells #[.int .i64 k, .bool pf, .int .i64 ns, .int .i64 nr] 33)) := ((Below.refl _ _).alloc (Nat.le_refl _) _).alloc (by simp) _
    exact h⟩
end Go.Proofs.YtphconnepdbpcaaDoor
