/-
  The walk of the law BitsFlips: it returns true.
-/
import Derived.Test.YtpihicgmfjaghaaRefFlipWalks
namespace Go.Proofs.Ytpihicgmfjaghaa
open Go.RowKit
set_option linter.unusedVariables false
set_option linter.unusedSimpArgs false

theorem flip_one : strOfNums (Bm.flips (Bm.nums ⟨#[48, 49]⟩) [0]) = ⟨#[49, 49]⟩ := by decide

/-- the one place 0, in a new block -/
theorem row_zero (w : World) : Row .i64 (w.alloc (.cells #[.int .i64 0] 3)) (some ⟨w.heap.size, 0, none⟩) 1 1 [0] := by
  refine ⟨rfl, Nat.le_refl _, by decide, ?_, Or.inr (Or.inr ⟨w.heap.size, 0, rfl, by decide, by simp, fun i hi => ?_⟩)⟩
  · intro n h; simp at h; subst h; decide
  · have : i = 0 := by omega
    subst this
    simp

set_option maxHeartbeats 400000 in
theorem walk_BitsFlips (s : ByteArray) (a : Option Addr) (len cap : Nat) (xs : List Int) (w : World) (hs : s.size ≤ 140737488351232) (hr : Row .i64 w a len cap xs) :
    Calls Try.prog 5 #[.string s, .slice a len cap] w fun e w' => e = .returned (.bool true) ∧ Below w.heap.size w w' := by
  have e1 : Hid (strOfNums (Bm.flips (Bm.nums ⟨#[48, 49]⟩) [0]) = ⟨#[49, 49]⟩) := flip_one
  have hr' := hr
  obtain ⟨h1, h2, h3, h4, h5⟩ := hr'
  unfold maxLen at h3
  clear h4
  rcases h5 with ⟨rfl, rfl, rfl⟩ | ⟨⟨x, rfl⟩, rfl⟩ | ⟨b, off, rfl, h0, hlt, hc⟩
  · go_enter Try.func5, Try.ntmps5
    go_wp2_with fail
    refine (flip_any ⟨#[48, 49]⟩ _ 1 1 [0] _ (by decide) (by decide) (row_zero w)).mono ?_
    rintro e w1 ⟨rfl, hb1⟩
    rw [e1.out]
    have hq1 : Below w.heap.size w w1 := ((Below.refl _ _).alloc (Nat.le_refl _) _).trans (hb1.mono (by simp))
    go_wp2_with fail
    refine (flip_any s _ _ _ _ _ hs (by omega) (hr.later hq1)).mono ?_
    rintro e w2 ⟨rfl, hb2⟩
    have hq2 := hq1.trans (hb2.mono hq1.size)
    go_wp2_with fail
    refine (ref_flip_any s _ _ _ _ _ hs (by omega) (hr.later hq2)).mono ?_
    rintro e w3 ⟨rfl, hb3⟩
    go_wp2
    go_ret
    exact ⟨by simp, hq2.trans (hb3.mono hq2.size)⟩
  · go_enter Try.func5, Try.ntmps5
    go_wp2_with fail
    refine (flip_any ⟨#[48, 49]⟩ _ 1 1 [0] _ (by decide) (by decide) (row_zero w)).mono ?_
    rintro e w1 ⟨rfl, hb1⟩
    rw [e1.out]
    have hq1 : Below w.heap.size w w1 := ((Below.refl _ _).alloc (Nat.le_refl _) _).trans (hb1.mono (by simp))
    go_wp2_with fail
    refine (flip_any s _ _ _ _ _ hs (by omega) (hr.later hq1)).mono ?_
    rintro e w2 ⟨rfl, hb2⟩
    have hq2 := hq1.trans (hb2.mono hq1.size)
    go_wp2_with fail
    refine (ref_flip_any s _ _ _ _ _ hs (by omega) (hr.later hq2)).mono ?_
    rintro e w3 ⟨rfl, hb3⟩
    go_wp2
    go_ret
    exact ⟨by simp, hq2.trans (hb3.mono hq2.size)⟩
  · clear hc h1
    by_cases h100 : len ≤ 100
    · go_enter Try.func5, Try.ntmps5
      go_wp2_with fail
      refine (flip_any ⟨#[48, 49]⟩ _ 1 1 [0] _ (by decide) (by decide) (row_zero w)).mono ?_
      rintro e w1 ⟨rfl, hb1⟩
      rw [e1.out]
      have hq1 : Below w.heap.size w w1 := ((Below.refl _ _).alloc (Nat.le_refl _) _).trans (hb1.mono (by simp))
      go_wp2_with fail
      refine (flip_any s _ _ _ _ _ hs (by omega) (hr.later hq1)).mono ?_
      rintro e w2 ⟨rfl, hb2⟩
      have hq2 := hq1.trans (hb2.mono hq1.size)
      go_wp2_with fail
      refine (ref_flip_any s _ _ _ _ _ hs (by omega) (hr.later hq2)).mono ?_
      rintro e w3 ⟨rfl, hb3⟩
      go_wp2
      go_ret
      exact ⟨by simp, hq2.trans (hb3.mono hq2.size)⟩
    · replace hr := hr.cut 100 (by omega)
      go_enter Try.func5, Try.ntmps5
      go_wp2_with fail
      refine (flip_any ⟨#[48, 49]⟩ _ 1 1 [0] _ (by decide) (by decide) (row_zero w)).mono ?_
      rintro e w1 ⟨rfl, hb1⟩
      rw [e1.out]
      have hq1 : Below w.heap.size w w1 := ((Below.refl _ _).alloc (Nat.le_refl _) _).trans (hb1.mono (by simp))
      go_wp2_with fail
      refine (flip_any s _ _ _ _ _ hs (by omega) (hr.later hq1)).mono ?_
      rintro e w2 ⟨rfl, hb2⟩
      have hq2 := hq1.trans (hb2.mono hq1.size)
      go_wp2_with fail
      refine (ref_flip_any s _ _ _ _ _ hs (by omega) (hr.later hq2)).mono ?_
      rintro e w3 ⟨rfl, hb3⟩
      go_wp2
      go_ret
      exact ⟨by simp, hq2.trans (hb3.mono hq2.size)⟩
end Go.Proofs.Ytpihicgmfjaghaa
