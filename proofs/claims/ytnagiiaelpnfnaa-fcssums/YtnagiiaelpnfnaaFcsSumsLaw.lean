/-
  The walk of the law FcsSums: it returns true.
-/
import Derived.Test.YtnagiiaelpnfnaaRefSumWalks
namespace Go.Proofs.Ytnagiiaelpnfnaa
open Go.RowKit
set_option linter.unusedVariables false
set_option linter.unusedSimpArgs false

theorem seal_nought : Fm.sealB ⟨#[0]⟩ = ⟨#[0, 120, 240]⟩ := by decide +kernel


set_option maxHeartbeats 400000 in
theorem walk_FcsSums (s : ByteArray) (w : World) (hs : s.size ≤ 140737488351232) :
    Calls Try.prog 4 #[.string s] w fun e w' => e = .returned (.bool true) ∧ Below w.heap.size w w' := by
  go_enter Try.func4, Try.ntmps4
  go_wp2_with fail
  obtain ⟨t, hT⟩ : ∃ t, t = s.extract 0 (min (s.size : Int) 600).toNat := ⟨_, rfl⟩
  have hts : t.size ≤ 600 := by rw [hT]; simp; omega
  rw [← hT]
  clear hT
  have hl := Fm.sum_lt t
  refine (seal_any ⟨#[0]⟩ _ (by decide)).mono ?_
  rintro e w1 ⟨rfl, hb1⟩
  rw [seal_nought]
  go_wp2_with fail
  refine (sum_any t _ (by omega)).mono ?_
  rintro e w' ⟨rfl, rfl⟩
  go_wp2_with fail
  refine (ref_sum_any t _ (by omega)).mono ?_
  rintro e w2 ⟨rfl, hb2⟩
  have hq2 := hb1.trans (hb2.mono hb1.size)
  clear hb2 hb1
  go_wp2_with fail
  refine (seal_any t _ (by omega)).mono ?_
  rintro e w3 ⟨rfl, hb3⟩
  have hq3 := hq2.trans (hb3.mono hq2.size)
  clear hb3 hq2
  go_wp2_with fail
  refine (ref_seal_any t _ (by omega)).mono ?_
  rintro e w4 ⟨rfl, hb4⟩
  have hq4 := hq3.trans (hb4.mono hq3.size)
  clear hb4 hq3
  go_wp2
  go_ret
  exact ⟨by simp, hq4⟩
end Go.Proofs.Ytnagiiaelpnfnaa
