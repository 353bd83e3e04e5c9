/-
  The walk of the law BitsOctets: it returns true.
-/
import Derived.Test.YtpihicgmfjaghaaRefOctetsWalks
namespace Go.Proofs.Ytpihicgmfjaghaa
open Go.RowKit
set_option linter.unusedVariables false
set_option linter.unusedSimpArgs false

theorem oct_one : octRes ⟨#[49, 48, 48, 48, 48, 48, 48, 48]⟩ = (⟨#[1]⟩, 0) := by decide

set_option maxHeartbeats 400000 in
theorem walk_BitsOctets (s : ByteArray) (w : World) (hs : s.size ≤ 140737488351232) :
    Calls Try.prog 4 #[.string s] w fun e w' => e = .returned (.bool true) ∧ Below w.heap.size w w' := by
  have e1 : Hid (octRes ⟨#[49, 48, 48, 48, 48, 48, 48, 48]⟩ = (⟨#[1]⟩, 0)) := oct_one
  go_enter Try.func4, Try.ntmps4
  go_wp2_with fail
  refine (octets_any s _ hs).mono ?_
  rintro e w1 ⟨rfl, hb1⟩
  generalize hr : octRes s = r
  have Hr : Hid (octRes s = r) := hr
  clear hr
  go_wp2_with fail
  refine (ref_octets_any s _ hs).mono ?_
  rintro e w2 ⟨rfl, hb2⟩
  rw [Hr.out]
  go_wp2_with fail
  refine (octets_any ⟨#[49, 48, 48, 48, 48, 48, 48, 48]⟩ _ (by decide)).mono ?_
  rintro e w3 ⟨rfl, hb3⟩
  rw [e1.out]
  go_wp2_with fail
  refine (good_any s _ hs).mono ?_
  rintro e w4 ⟨rfl, rfl⟩
  go_wp2_with fail
  refine (ref_good_any s _ hs).mono ?_
  rintro e w5 ⟨rfl, rfl⟩
  go_wp2
  go_ret
  exact ⟨by simp, (hb1.trans (hb2.mono hb1.size)).trans (hb3.mono (Nat.le_trans hb1.size hb2.size))⟩
end Go.Proofs.Ytpihicgmfjaghaa
