/-
  The law's function 'wakes' answers true, and leaves all that was as it was.
-/
import Derived.Test.YteppelahpbgmjaaQueOwn
namespace Go.Proofs.Yteppelahpbgmjaa
open Go.RowKit
set_option linter.unusedVariables false
set_option linter.unusedSimpArgs false

set_option maxHeartbeats 2000000 in
set_option maxRecDepth 100000 in
theorem wakes_any (w : World) : Calls Try.prog 10 #[] w fun e w' => e = .returned (.bool true) ∧ Below w.heap.size w w' := by
  go_enter Try.func10, Try.ntmps10
  go_wp2_with fail
  refine (new_any 5 _).mono ?_
  rintro e w1 ⟨rfl, hq1, hb1⟩
  have O1 : Own w.heap.size w w1 w.heap.size 5 [] 0 := own_new hq1 (Nat.le_refl _) hb1
  clear hq1 hb1
  obtain ⟨C, hC⟩ : ∃ C, C = w.heap.size := ⟨_, rfl⟩
  rw [← hC] at O1 ⊢
  have HC : Hid (C = w.heap.size) := hC
  clear hC
  go_wp2_with fail
  refine (own_push ⟨#[97]⟩ O1 (by decide)).mono ?_
  rintro e w2 ⟨rfl, O2⟩
  rw [show Qm.pushN 5 [] ⟨#[97]⟩ = 0 from rfl]
  replace O2 : Own C w w2 C 5 [⟨#[97]⟩] 0 := O2
  clear O1
  go_wp2_with fail
  refine (own_push ⟨#[98]⟩ O2 (by decide)).mono ?_
  rintro e w3 ⟨rfl, O3⟩
  rw [show Qm.pushN 5 [⟨#[97]⟩] ⟨#[98]⟩ = 0 from rfl]
  replace O3 : Own C w w3 C 5 [⟨#[97]⟩, ⟨#[98]⟩] 0 := O3
  clear O2
  go_wp2_with fail
  refine (own_push ⟨#[99]⟩ O3 (by decide)).mono ?_
  rintro e w4 ⟨rfl, O4⟩
  rw [show Qm.pushN 5 [⟨#[97]⟩, ⟨#[98]⟩] ⟨#[99]⟩ = 0 from rfl]
  replace O4 : Own C w w4 C 5 [⟨#[97]⟩, ⟨#[98]⟩, ⟨#[99]⟩] 0 := O4
  clear O3
  go_wp2_with fail
  refine (own_take O4).mono ?_
  rintro e w5 ⟨rfl, O5⟩
  rw [show Qm.takeS [⟨#[97]⟩, ⟨#[98]⟩, ⟨#[99]⟩] 0 = ⟨#[97]⟩ from rfl, show Qm.takeB [⟨#[97]⟩, ⟨#[98]⟩, ⟨#[99]⟩] 0 = true from rfl]
  replace O5 : Own C w w5 C 5 [⟨#[97]⟩, ⟨#[98]⟩, ⟨#[99]⟩] 1 := O5
  clear O4
  go_wp2_with fail
  refine (own_take O5).mono ?_
  rintro e w6 ⟨rfl, O6⟩
  rw [show Qm.takeS [⟨#[97]⟩, ⟨#[98]⟩, ⟨#[99]⟩] 1 = ⟨#[98]⟩ from rfl, show Qm.takeB [⟨#[97]⟩, ⟨#[98]⟩, ⟨#[99]⟩] 1 = true from rfl]
  replace O6 : Own C w w6 C 5 [⟨#[97]⟩, ⟨#[98]⟩, ⟨#[99]⟩] 2 := O6
  clear O5
  go_wp2_with fail
  refine (own_done 1 O6).mono ?_
  rintro e w7 ⟨rfl, O7⟩
  rw [show Qm.okN 2 1 = true from rfl]
  replace O7 : Own C w w7 C 5 [⟨#[98]⟩, ⟨#[99]⟩] 1 := O7
  clear O6
  go_wp2_with fail
  refine (own_back 0 O7).mono ?_
  rintro e w8 ⟨rfl, O8⟩
  rw [show Qm.okN 1 0 = true from rfl]
  replace O8 : Own C w w8 C 5 [⟨#[98]⟩, ⟨#[99]⟩] 0 := O8
  clear O7
  go_wp2_with fail
  refine (own_take O8).mono ?_
  rintro e w9 ⟨rfl, O9⟩
  rw [show Qm.takeS [⟨#[98]⟩, ⟨#[99]⟩] 0 = ⟨#[98]⟩ from rfl, show Qm.takeB [⟨#[98]⟩, ⟨#[99]⟩] 0 = true from rfl]
  replace O9 : Own C w w9 C 5 [⟨#[98]⟩, ⟨#[99]⟩] 1 := O9
  clear O8
  go_wp2_with fail
  refine (own_left O9).mono ?_
  rintro e w10 ⟨rfl, O10⟩
  have HE : Hid (Below C w w10) := O10.bel
  clear O9 O10
  go_wp2
  go_ret
  exact ⟨rfl, by rw [← HC.out]; exact HE.out⟩
end Go.Proofs.Yteppelahpbgmjaa
