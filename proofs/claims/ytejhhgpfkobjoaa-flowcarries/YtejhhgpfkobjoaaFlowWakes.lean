/-
  The law's function 'wakes' answers true, and leaves all that was as it was.
-/
import Derived.Test.YtejhhgpfkobjoaaFlowOwn
namespace Go.Proofs.Ytejhhgpfkobjoaa
open Go.RowKit
set_option linter.unusedVariables false
set_option linter.unusedSimpArgs false

set_option maxHeartbeats 2000000 in
set_option maxRecDepth 100000 in
theorem flwakes_any (w : World) : Calls Try.prog 11 #[] w fun e w' => e = .returned (.bool true) ∧ Below w.heap.size w w' := by
  go_enter Try.func11, Try.ntmps11
  go_wp2_with fail
  refine (ownf_new 1 9 _ (by decide) (by decide)).mono ?_
  rintro e w1 ⟨C, rfl, O1⟩
  replace O1 : OwnF w.heap.size w w1 C ⟨0, 0, 0, false, false, false, 1, 9, [], 0⟩ := O1
  go_wp2_with fail
  refine (ownf_push ⟨#[97]⟩ O1 (by decide)).mono ?_
  rintro e w2 ⟨rfl, O2⟩
  rw [show Qm.pushN 9 [] ⟨#[97]⟩ = 0 from rfl]
  replace O2 : OwnF w.heap.size w w2 C ⟨0, 0, 0, false, false, false, 1, 9, [⟨#[97]⟩], 0⟩ := O2
  clear O1
  go_wp2_with fail
  refine (ownf_push ⟨#[98]⟩ O2 (by decide)).mono ?_
  rintro e w3 ⟨rfl, O3⟩
  rw [show Qm.pushN 9 [⟨#[97]⟩] ⟨#[98]⟩ = 0 from rfl]
  replace O3 : OwnF w.heap.size w w3 C ⟨0, 0, 0, false, false, false, 1, 9, [⟨#[97]⟩, ⟨#[98]⟩], 0⟩ := O3
  clear O2
  go_wp2_with fail
  refine (ownf_take O3).mono ?_
  rintro e w4 ⟨rfl, O4⟩
  rw [show Wm.takeN ⟨0, 0, 0, false, false, false, 1, 9, [⟨#[97]⟩, ⟨#[98]⟩], 0⟩ = 0 from rfl, show Wm.takeS ⟨0, 0, 0, false, false, false, 1, 9, [⟨#[97]⟩, ⟨#[98]⟩], 0⟩ = ⟨#[97]⟩ from rfl, show Wm.takeB ⟨0, 0, 0, false, false, false, 1, 9, [⟨#[97]⟩, ⟨#[98]⟩], 0⟩ = true from rfl]
  replace O4 : OwnF w.heap.size w w4 C ⟨1, 0, 0, false, false, false, 1, 9, [⟨#[97]⟩, ⟨#[98]⟩], 1⟩ := O4
  clear O3
  go_wp2_with fail
  refine (ownf_take O4).mono ?_
  rintro e w5 ⟨rfl, O5⟩
  rw [show Wm.takeN ⟨1, 0, 0, false, false, false, 1, 9, [⟨#[97]⟩, ⟨#[98]⟩], 1⟩ = 0 from rfl, show Wm.takeS ⟨1, 0, 0, false, false, false, 1, 9, [⟨#[97]⟩, ⟨#[98]⟩], 1⟩ = ByteArray.empty from rfl, show Wm.takeB ⟨1, 0, 0, false, false, false, 1, 9, [⟨#[97]⟩, ⟨#[98]⟩], 1⟩ = false from rfl]
  replace O5 : OwnF w.heap.size w w5 C ⟨1, 0, 0, false, false, false, 1, 9, [⟨#[97]⟩, ⟨#[98]⟩], 1⟩ := O5
  clear O4
  go_wp2_with fail
  refine (ownf_ack 1 O5 (by decide) (by decide)).mono ?_
  rintro e w6 ⟨rfl, O6⟩
  rw [show Wm.ackN ⟨1, 0, 0, false, false, false, 1, 9, [⟨#[97]⟩, ⟨#[98]⟩], 1⟩ 1 = 1 from rfl, show Wm.ackE ⟨1, 0, 0, false, false, false, 1, 9, [⟨#[97]⟩, ⟨#[98]⟩], 1⟩ 1 = 0 from rfl]
  replace O6 : OwnF w.heap.size w w6 C ⟨1, 1, 0, false, false, false, 1, 9, [⟨#[98]⟩], 0⟩ := O6
  clear O5
  go_wp2_with fail
  refine (ownf_take O6).mono ?_
  rintro e w7 ⟨rfl, O7⟩
  rw [show Wm.takeN ⟨1, 1, 0, false, false, false, 1, 9, [⟨#[98]⟩], 0⟩ = 1 from rfl, show Wm.takeS ⟨1, 1, 0, false, false, false, 1, 9, [⟨#[98]⟩], 0⟩ = ⟨#[98]⟩ from rfl, show Wm.takeB ⟨1, 1, 0, false, false, false, 1, 9, [⟨#[98]⟩], 0⟩ = true from rfl]
  have HE : Hid (Below w.heap.size w w7) := O7.bel
  clear O6 O7
  go_wp2
  go_ret
  exact ⟨rfl, HE.out⟩
end Go.Proofs.Ytejhhgpfkobjoaa
