/-
  The walk of the law BitsJoin: it returns true.
-/
import Derived.Test.YtpihicgmfjaghabOfWalks
import Derived.Test.YtpihicgmfjaghabBackMath
namespace Go.Proofs.Ytpihicgmfjaghab
open Go.RowKit
set_option linter.unusedVariables false
set_option linter.unusedSimpArgs false

set_option maxHeartbeats 1000000 in
theorem walk_BitsJoin (s t : ByteArray) (w : World) (hs : s.size ≤ 140737488351232) (ht : t.size ≤ 140737488351232) :
    Calls Try.prog 5 #[.string s, .string t] w fun e w' => e = .returned (.bool true) ∧ Below w.heap.size w w' := by
  by_cases hs1 : s.size ≤ 1000
  · by_cases ht1 : t.size ≤ 1000
    · go_enter Try.func5, Try.ntmps5
      go_wp2_with fail
      go_region
      go_wp2_with fail
      refine (of_any s _ (by omega)).mono ?_
      rintro e w1 ⟨rfl, hb1⟩
      have hq1 : Below w.heap.size w w1 := (Below.refl _ _).drew.trans hb1
      have f4 : (strOfNums (Bm.ofN (Bm.nums s))).size ≤ 8000 := by rw [back_size]; omega
      go_wp2_with fail
      refine (of_any t _ (by omega)).mono ?_
      rintro e w2 ⟨rfl, hb2⟩
      have f5 : (strOfNums (Bm.ofN (Bm.nums t))).size ≤ 8000 := by rw [back_size]; omega
      have hq2 := hq1.trans (hb2.mono hq1.size)
      go_wp2_with fail
      rw [join_of]
      have hst : (s ++ t).size ≤ 2000 := by rw [ByteArray.size_append]; omega
      refine (octets_any _ _ (by rw [back_size]; omega)).mono ?_
      rintro e w3 ⟨rfl, hb3⟩
      rw [back_oct]
      have hq3 := hq2.trans (hb3.mono hq2.size)
      go_wp2_with fail
      refine (of_any ⟨#[1]⟩ _ (by decide)).mono ?_
      rintro e w4 ⟨rfl, hb4⟩
      rw [of_one']
      have hq4 := hq3.trans (hb4.mono hq3.size)
      go_wp2_with fail
      refine (of_any _ _ (by omega)).mono ?_
      rintro e w5 ⟨rfl, hb5⟩
      go_wp2
      go_ret
      exact ⟨by simp, hq4.trans (hb5.mono hq4.size)⟩
    · go_enter Try.func5, Try.ntmps5
      go_wp2_with fail
      go_region
      go_wp2_with fail
      obtain ⟨t', hT⟩ : ∃ x, x = t.extract 0 1000 := ⟨_, rfl⟩
      have htt : t'.size ≤ 1000 := by rw [hT]; simp; omega
      rw [← hT]
      clear hT
      refine (of_any s _ (by omega)).mono ?_
      rintro e w1 ⟨rfl, hb1⟩
      have hq1 : Below w.heap.size w w1 := (Below.refl _ _).drew.trans hb1
      have f4 : (strOfNums (Bm.ofN (Bm.nums s))).size ≤ 8000 := by rw [back_size]; omega
      go_wp2_with fail
      refine (of_any t' _ (by omega)).mono ?_
      rintro e w2 ⟨rfl, hb2⟩
      have f5 : (strOfNums (Bm.ofN (Bm.nums t'))).size ≤ 8000 := by rw [back_size]; omega
      have hq2 := hq1.trans (hb2.mono hq1.size)
      go_wp2_with fail
      rw [join_of]
      have hst : (s ++ t').size ≤ 2000 := by rw [ByteArray.size_append]; omega
      refine (octets_any _ _ (by rw [back_size]; omega)).mono ?_
      rintro e w3 ⟨rfl, hb3⟩
      rw [back_oct]
      have hq3 := hq2.trans (hb3.mono hq2.size)
      go_wp2_with fail
      refine (of_any ⟨#[1]⟩ _ (by decide)).mono ?_
      rintro e w4 ⟨rfl, hb4⟩
      rw [of_one']
      have hq4 := hq3.trans (hb4.mono hq3.size)
      go_wp2_with fail
      refine (of_any _ _ (by omega)).mono ?_
      rintro e w5 ⟨rfl, hb5⟩
      go_wp2
      go_ret
      exact ⟨by simp, hq4.trans (hb5.mono hq4.size)⟩
  · by_cases ht1 : t.size ≤ 1000
    · go_enter Try.func5, Try.ntmps5
      go_wp2_with fail
      go_region
      go_wp2_with fail
      obtain ⟨s', hS⟩ : ∃ x, x = s.extract 0 1000 := ⟨_, rfl⟩
      have hss : s'.size ≤ 1000 := by rw [hS]; simp; omega
      rw [← hS]
      clear hS
      refine (of_any s' _ (by omega)).mono ?_
      rintro e w1 ⟨rfl, hb1⟩
      have hq1 : Below w.heap.size w w1 := (Below.refl _ _).drew.trans hb1
      have f4 : (strOfNums (Bm.ofN (Bm.nums s'))).size ≤ 8000 := by rw [back_size]; omega
      go_wp2_with fail
      refine (of_any t _ (by omega)).mono ?_
      rintro e w2 ⟨rfl, hb2⟩
      have f5 : (strOfNums (Bm.ofN (Bm.nums t))).size ≤ 8000 := by rw [back_size]; omega
      have hq2 := hq1.trans (hb2.mono hq1.size)
      go_wp2_with fail
      rw [join_of]
      have hst : (s' ++ t).size ≤ 2000 := by rw [ByteArray.size_append]; omega
      refine (octets_any _ _ (by rw [back_size]; omega)).mono ?_
      rintro e w3 ⟨rfl, hb3⟩
      rw [back_oct]
      have hq3 := hq2.trans (hb3.mono hq2.size)
      go_wp2_with fail
      refine (of_any ⟨#[1]⟩ _ (by decide)).mono ?_
      rintro e w4 ⟨rfl, hb4⟩
      rw [of_one']
      have hq4 := hq3.trans (hb4.mono hq3.size)
      go_wp2_with fail
      refine (of_any _ _ (by omega)).mono ?_
      rintro e w5 ⟨rfl, hb5⟩
      go_wp2
      go_ret
      exact ⟨by simp, hq4.trans (hb5.mono hq4.size)⟩
    · go_enter Try.func5, Try.ntmps5
      go_wp2_with fail
      go_region
      go_wp2_with fail
      obtain ⟨s', hS⟩ : ∃ x, x = s.extract 0 1000 := ⟨_, rfl⟩
      have hss : s'.size ≤ 1000 := by rw [hS]; simp; omega
      rw [← hS]
      clear hS
      obtain ⟨t', hT⟩ : ∃ x, x = t.extract 0 1000 := ⟨_, rfl⟩
      have htt : t'.size ≤ 1000 := by rw [hT]; simp; omega
      rw [← hT]
      clear hT
      refine (of_any s' _ (by omega)).mono ?_
      rintro e w1 ⟨rfl, hb1⟩
      have hq1 : Below w.heap.size w w1 := (Below.refl _ _).drew.trans hb1
      have f4 : (strOfNums (Bm.ofN (Bm.nums s'))).size ≤ 8000 := by rw [back_size]; omega
      go_wp2_with fail
      refine (of_any t' _ (by omega)).mono ?_
      rintro e w2 ⟨rfl, hb2⟩
      have f5 : (strOfNums (Bm.ofN (Bm.nums t'))).size ≤ 8000 := by rw [back_size]; omega
      have hq2 := hq1.trans (hb2.mono hq1.size)
      go_wp2_with fail
      rw [join_of]
      have hst : (s' ++ t').size ≤ 2000 := by rw [ByteArray.size_append]; omega
      refine (octets_any _ _ (by rw [back_size]; omega)).mono ?_
      rintro e w3 ⟨rfl, hb3⟩
      rw [back_oct]
      have hq3 := hq2.trans (hb3.mono hq2.size)
      go_wp2_with fail
      refine (of_any ⟨#[1]⟩ _ (by decide)).mono ?_
      rintro e w4 ⟨rfl, hb4⟩
      rw [of_one']
      have hq4 := hq3.trans (hb4.mono hq3.size)
      go_wp2_with fail
      refine (of_any _ _ (by omega)).mono ?_
      rintro e w5 ⟨rfl, hb5⟩
      go_wp2
      go_ret
      exact ⟨by simp, hq4.trans (hb5.mono hq4.size)⟩
end Go.Proofs.Ytpihicgmfjaghab
