/-
  The walk of the law BitsOf: it returns true.
-/
import Derived.Test.YtpihicgmfjaghaaOfWalks
import Derived.Test.YtpihicgmfjaghaaRefOfWalks
namespace Go.Proofs.Ytpihicgmfjaghaa
open Go.RowKit
set_option linter.unusedVariables false
set_option linter.unusedSimpArgs false

theorem of_one : strOfNums (Bm.ofN (Bm.nums ⟨#[1]⟩)) = ⟨#[49, 48, 48, 48, 48, 48, 48, 48]⟩ := by decide

set_option maxHeartbeats 400000 in
theorem walk_BitsOf (s : ByteArray) (w : World) (hs : s.size ≤ 140737488351232) :
    Calls Try.prog 3 #[.string s] w fun e w' => e = .returned (.bool true) ∧ Below w.heap.size w w' := by
  have e1 : Hid (strOfNums (Bm.ofN (Bm.nums ⟨#[1]⟩)) = ⟨#[49, 48, 48, 48, 48, 48, 48, 48]⟩) := of_one
  by_cases hc : s.size ≤ 2000
  · go_enter Try.func3, Try.ntmps3
    go_wp2_with fail
    refine (of_any ⟨#[1]⟩ _ (by decide)).mono ?_
    rintro e w1 ⟨rfl, hb1⟩
    rw [e1.out]
    go_wp2_with fail
    refine (of_any _ _ (by omega)).mono ?_
    rintro e w2 ⟨rfl, hb2⟩
    go_wp2_with fail
    refine (ref_of_any _ _ (by omega)).mono ?_
    rintro e w3 ⟨rfl, hb3⟩
    go_wp2
    go_ret
    exact ⟨by simp, (hb1.trans (hb2.mono hb1.size)).trans (hb3.mono (Nat.le_trans hb1.size hb2.size))⟩
  · go_enter Try.func3, Try.ntmps3
    go_wp2_with fail
    refine (of_any ⟨#[1]⟩ _ (by decide)).mono ?_
    rintro e w1 ⟨rfl, hb1⟩
    rw [e1.out]
    go_wp2_with fail
    refine (of_any _ _ (by simp; omega)).mono ?_
    rintro e w2 ⟨rfl, hb2⟩
    go_wp2_with fail
    refine (ref_of_any _ _ (by simp; omega)).mono ?_
    rintro e w3 ⟨rfl, hb3⟩
    go_wp2
    go_ret
    exact ⟨by simp, (hb1.trans (hb2.mono hb1.size)).trans (hb3.mono (Nat.le_trans hb1.size hb2.size))⟩
end Go.Proofs.Ytpihicgmfjaghaa
