/-
  The walk of the law CtrlKinds: it returns true.
-/
import Derived.Test.YtphconnepdbpcaaDoorCtrlWakes
import Derived.Test.YtphconnepdbpcaaDoorCtrlRefName
namespace Go.Proofs.YtphconnepdbpcaaDoor
open Go.RowKit
set_option linter.unusedVariables false
set_option linter.unusedSimpArgs false

set_option maxHeartbeats 400000 in
theorem walk_CtrlKinds (k : Int) (w : World) (hk : -9223372036854775808 ≤ k ∧ k ≤ 9223372036854775807) (hT : First w) (hN : Names w) :
    Calls Tryd.prog 3 #[.int .i64 k] w fun e w' => e = .returned (.bool true) ∧ Below w.heap.size w w' := by
  go_enter Tryd.func3, Tryd.ntmps3
  go_wp2_with fail
  refine (cwakes_any _ hT hN).mono ?_
  rintro e w1 ⟨rfl, hb1⟩
  have hN1 := hN.later hb1
  clear hT hN
  obtain ⟨b, hb⟩ : ∃ b, b = Cm.numd k := ⟨_, rfl⟩
  have hA := numbered_any k w1
  have hB := ref_numbered_any k w1
  have hC := name_any k w1 hN1
  have hD := ref_name_any k w1
  rw [← hb] at hA hB
  clear hb
  obtain ⟨s, hs⟩ : ∃ s, s = Cm.nameOf k := ⟨_, rfl⟩
  rw [← hs] at hC hD
  clear hs
  obtain ⟨j, hj⟩ : ∃ j, bits .and .i64 k 15 = j := ⟨_, rfl⟩
  have hE := name_any j w1 hN1
  have hF := ref_name_any j w1
  obtain ⟨t, ht⟩ : ∃ t, t = Cm.nameOf j := ⟨_, rfl⟩
  rw [← ht] at hE hF
  clear ht hN1
  go_wp2_with fail
  refine hA.mono ?_
  rintro e w' ⟨rfl, rfl⟩
  go_wp2_with fail
  refine hB.mono ?_
  rintro e w' ⟨rfl, rfl⟩
  clear hA hB
  go_wp2_with fail
  refine hC.mono ?_
  rintro e w' ⟨rfl, rfl⟩
  go_wp2_with fail
  refine hD.mono ?_
  rintro e w' ⟨rfl, rfl⟩
  clear hC hD
  go_wp2_with fail
  refine hE.mono ?_
  rintro e w' ⟨rfl, rfl⟩
  go_wp2_with fail
  refine hF.mono ?_
  rintro e w' ⟨rfl, rfl⟩
  clear hE hF
  go_wp2
  go_ret
  exact ⟨by simp, hb1⟩
end Go.Proofs.YtphconnepdbpcaaDoor
