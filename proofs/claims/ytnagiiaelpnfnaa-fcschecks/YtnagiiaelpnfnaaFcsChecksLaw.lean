/-
  The walk of the law FcsChecks: it returns true.
-/
import Derived.Test.YtnagiiaelpnfnaaRefSumWalks
namespace Go.Proofs.Ytnagiiaelpnfnaa
open Go.RowKit
set_option linter.unusedVariables false
set_option linter.unusedSimpArgs false

theorem check_nought : checkRes ⟨#[0, 120, 240]⟩ = (⟨#[0]⟩, 0) := by
  have h : (⟨#[0, 120, 240]⟩ : ByteArray) = Fm.sealB ⟨#[0]⟩ := by decide +kernel
  rw [h, check_seal]

set_option maxHeartbeats 400000 in
theorem walk_FcsChecks (s : ByteArray) (w : World) (hs : s.size ≤ 140737488351232) :
    Calls Try.prog 5 #[.string s] w fun e w' => e = .returned (.bool true) ∧ Below w.heap.size w w' := by
  go_enter Try.func5, Try.ntmps5
  go_wp2_with fail
  obtain ⟨t, hT⟩ : ∃ t, t = s.extract 0 (min (s.size : Int) 600).toNat := ⟨_, rfl⟩
  have hts : t.size ≤ 600 := by rw [hT]; simp; omega
  rw [← hT]
  clear hT
  refine (check_any t _ (by omega)).mono ?_
  rintro e w1 ⟨rfl, hb1⟩
  go_wp2_with fail
  refine (ref_check_any t _ (by omega)).mono ?_
  rintro e w2 ⟨rfl, hb2⟩
  have hq2 := hb1.trans (hb2.mono hb1.size)
  clear hb2 hb1
  go_wp2_with fail
  refine (check_any ⟨#[0, 120, 240]⟩ _ (by decide)).mono ?_
  rintro e w3 ⟨rfl, hb3⟩
  rw [check_nought]
  have hq3 := hq2.trans (hb3.mono hq2.size)
  clear hb3 hq2
  go_wp2
  go_ret
  exact ⟨by simp, hq3⟩
end Go.Proofs.Ytnagiiaelpnfnaa
