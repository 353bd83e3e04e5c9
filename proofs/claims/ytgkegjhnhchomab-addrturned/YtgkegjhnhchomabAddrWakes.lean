/-
  The walk of wakes: it answers true. Nothing that was there is turned.
-/
import Derived.Test.YtgkegjhnhchomabPutWalks
import Derived.Test.YtgkegjhnhchomabKindWalks
import Derived.Test.YtgkegjhnhchomabMakeWalks
namespace Go.Proofs.Ytgkegjhnhchomab
open Go.RowKit
set_option linter.unusedVariables false
set_option linter.unusedSimpArgs false

theorem wakes_put : Am.putRes 0 64 true = (⟨#[2, 129]⟩, 0) := by decide

set_option maxHeartbeats 400000 in
theorem wakes_any (w : World) :
    Calls Try.prog 5 #[] w fun e w' => e = .returned (.bool true) ∧ Below w.heap.size w w' := by
  have HK : Hid (Am.kind 64 = 2) := by show _ = _; decide
  go_enter Try.func5, Try.ntmps5
  go_wp2_with fail
  refine (make_any 0 64 true true _).mono ?_
  rintro e w1 ⟨rfl, hb1⟩
  go_wp2_with fail
  refine (put_any 0 64 true _).mono ?_
  rintro e w2 ⟨rfl, hb2⟩
  rw [wakes_put]
  go_wp2_with fail
  refine (kind_any 64 _).mono ?_
  rintro e w3 ⟨rfl, rfl⟩
  rw [HK.out]
  go_wp2
  go_ret
  exact ⟨by simp, hb1.trans (hb2.mono hb1.size)⟩
end Go.Proofs.Ytgkegjhnhchomab
