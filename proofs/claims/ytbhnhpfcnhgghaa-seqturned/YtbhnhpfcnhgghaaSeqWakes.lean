/-
  The walk of lapwinglaw08's wakes: it returns true.
-/
import Derived.Test.YtbhnhpfcnhgghaaSeqSmall
namespace Go.Proofs.Ytbhnhpfcnhgghaa
open Go.RowKit
set_option linter.unusedVariables false
set_option linter.unusedSimpArgs false

theorem sb_doc : Sm.sb 3 126 = 5 := by decide
theorem vd_doc1 : Sm.vd 126 1 3 = true := by decide
theorem vd_doc2 : Sm.vd 126 4 3 = false := by decide
theorem rm_doc : Sm.rm 126 3 7 = 2 := by decide

set_option maxHeartbeats 400000 in
theorem swakes_any (w : World) :
    Calls Try.prog 9 #[] w fun e w' => e = .returned (.bool true) ∧ w = w' := by
  have h1 := fun W => ssub_any 3 126 W (by decide) (by decide) (by decide) (by decide)
  have h2 := fun W => svalid_any 126 1 3 W (by decide) (by decide) (by decide) (by decide) (by decide) (by decide)
  have h3 := fun W => svalid_any 126 4 3 W (by decide) (by decide) (by decide) (by decide) (by decide) (by decide)
  have h4 := fun W => sroom_any 126 3 7 W (by decide) (by decide) (by decide) (by decide) (by decide) (by decide)
  rw [sb_doc] at h1
  rw [vd_doc1] at h2
  rw [vd_doc2] at h3
  rw [rm_doc] at h4
  go_enter Try.func9, Try.ntmps9
  go_wp2_with fail
  refine (h1 _).mono ?_
  rintro e w' ⟨rfl, rfl⟩
  go_wp2_with fail
  refine (h2 _).mono ?_
  rintro e w' ⟨rfl, rfl⟩
  go_wp2_with fail
  refine (h3 _).mono ?_
  rintro e w' ⟨rfl, rfl⟩
  go_wp2_with fail
  refine (h4 _).mono ?_
  rintro e w' ⟨rfl, rfl⟩
  go_wp2
  go_ret
  exact ⟨rfl, rfl⟩
end Go.Proofs.Ytbhnhpfcnhgghaa
