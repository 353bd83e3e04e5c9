/-
  The walk of hdlc.Unstuff: the bits whose stuffed ones they are, or the error; nothing that was there is turned. (strings.Contains, HasSuffix, ReplaceAll, Clone by the shelf's contracts.)
-/
import Derived.Test.YtoakkfmebdglhaaDoorStuffWalks
import Derived.Test.YtoakkfmebdglhaaDoorGoodWalks
import Derived.Test.YtoakkfmebdglhaaDoorCloneWalks
namespace Go.Proofs.YtoakkfmebdglhaaDoor
open Go.RowKit
set_option linter.unusedVariables false
set_option linter.unusedSimpArgs false

theorem toU_nums (s : ByteArray) : Hm.toU (Bm.nums s) = s.data.toList := by
  have := congrArg (fun t : ByteArray => t.data.toList) (Bm.str_nums s)
  simpa [str_toU] using this
theorem good_bit (s : ByteArray) (h : Bm.goodN (Bm.nums s) = true) : Hm.bit (Bm.nums s) := by
  intro x hx
  rw [Bm.goodN, List.all_eq_true] at h
  exact (Bm.isB_iff x).1 (h x hx)

theorem contains_any (s : ByteArray) (w : World) (hs : s.size ≤ 1000000) (hg : Bm.goodN (Bm.nums s) = true) (hm : MaxOk w) :
    Calls Tryd.prog 23 #[.string s, .string ⟨#[49, 49, 49, 49, 49, 49]⟩] w fun e w' => e = .returned (.bool (Hm.has6 0 (Bm.nums s))) ∧ w = w' := by
  obtain ⟨m, hm⟩ := hm
  refine (Tryd.strings_Contains s ⟨#[49, 49, 49, 49, 49, 49]⟩ m w (by omega) hm).mono ?_
  rintro e w' ⟨rfl, h⟩
  refine ⟨ret_bool ?_, h.symm⟩
  rw [← toU_nums s]
  exact Hm.contains_six _ _ (Nat.le_refl _) (good_bit s hg)
theorem suffix_any (s : ByteArray) (w : World) (hs : s.size ≤ 1000000) (hg : Bm.goodN (Bm.nums s) = true) :
    Calls Tryd.prog 24 #[.string s, .string ⟨#[49, 49, 49, 49, 49]⟩] w fun e w' => e = .returned (.bool (decide (5 ≤ Hm.row 0 (Bm.nums s)))) ∧ w = w' := by
  refine (Tryd.strings_HasSuffix s ⟨#[49, 49, 49, 49, 49]⟩ w (by omega)).mono ?_
  rintro e w' ⟨rfl, h⟩
  refine ⟨ret_bool ?_, h.symm⟩
  rw [← toU_nums s]
  exact Hm.suffix_five _ (good_bit s hg)
theorem replace_unst (s : ByteArray) (w : World) (hs : s.size ≤ 1000000) (hg : Bm.goodN (Bm.nums s) = true) (h6 : Hm.has6 0 (Bm.nums s) = false) (hm : MaxOk w) :
    Calls Tryd.prog 26 #[.string s, .string ⟨#[49, 49, 49, 49, 49, 48]⟩, .string ⟨#[49, 49, 49, 49, 49]⟩] w fun e w' => e = .returned (.string (strOfNums (Hm.unst 0 (Bm.nums s)))) ∧ Below w.heap.size w w' := by
  obtain ⟨m, hm⟩ := hm
  refine (Tryd.strings_ReplaceAll s ⟨#[49, 49, 49, 49, 49, 48]⟩ ⟨#[49, 49, 49, 49, 49]⟩ m w (by omega) hm (by decide) (count_room _ _ _ hs (by decide) (by decide))).mono ?_
  rintro e w' ⟨rfl, h⟩
  refine ⟨ret_str ?_, h⟩
  rw [Hm.rep_all _ _ _ (by decide), ← toU_nums s]
  show (⟨(Hm.rep Hm.fiveO Hm.five (Hm.toU (Bm.nums s))).toArray⟩ : ByteArray) = _
  rw [Hm.rep_unst _ _ (Nat.le_refl _) (good_bit s hg) h6, toU_str]

/-- P3.1: the bits whose stuffed ones they are, or the error -/
def unstRes (l : List Int) : ByteArray × Int :=
  if Bm.goodN l = false then (ByteArray.empty, 4) else if Hm.has6 0 l = true then (ByteArray.empty, 4) else if Hm.row 0 l = 5 then (ByteArray.empty, 3) else (strOfNums (Hm.unst 0 l), 0)

theorem unst_length (k : Nat) (l : List Int) : (Hm.unst k l).length ≤ l.length := by
  induction l generalizing k with
  | nil => exact Nat.le_refl _
  | cons c l ih =>
    rw [Hm.unst]
    split
    · have := ih 0; simp; omega
    · have := ih (if c = 49 then k + 1 else 0); simp; omega

set_option maxHeartbeats 400000 in
theorem unstuff_any (s : ByteArray) (w : World) (hs : s.size ≤ 1000000) (hm : MaxOk w) :
    Calls Tryd.prog 9 #[.string s] w fun e w' => e = .returned (.tuple #[.string (unstRes (Bm.nums s)).1, .int .i64 (unstRes (Bm.nums s)).2]) ∧ Below w.heap.size w w' := by
  cases hg : Bm.goodN (Bm.nums s) with
  | false =>
    rw [unstRes, if_pos hg]
    go_enter Tryd.func9, Tryd.ntmps9
    go_wp2_with (go_at_call 22; refine (good_any _ _ (by omega)).mono ?_; rintro e w' ⟨rfl, rfl⟩)
    go_ret2
    exact ⟨rfl, Below.refl _ _⟩
  | true =>
    have hcont := contains_any s w hs hg hm
    cases h6 : Hm.has6 0 (Bm.nums s) with
    | true =>
      rw [unstRes, if_neg (by rw [hg]; decide), if_pos h6]
      go_enter Tryd.func9, Tryd.ntmps9
      go_wp2_with (first | (go_at_call 22; refine (good_any _ _ (by omega)).mono ?_; rintro e w' ⟨rfl, rfl⟩) | (go_at_call 23; refine hcont.mono ?_; rintro e w' ⟨rfl, rfl⟩))
      go_ret2
      exact ⟨rfl, Below.refl _ _⟩
    | false =>
      have hsuf := suffix_any s w hs hg
      have hle := Hm.row_le 0 (Bm.nums s) (by omega) h6
      by_cases h5 : Hm.row 0 (Bm.nums s) = 5
      · rw [unstRes, if_neg (by rw [hg]; decide), if_neg (by rw [h6]; decide), if_pos h5]
        rw [decide_eq_true (show 5 ≤ Hm.row 0 (Bm.nums s) by omega)] at hsuf
        clear h5 hle
        go_enter Tryd.func9, Tryd.ntmps9
        go_wp2_with (first | (go_at_call 22; refine (good_any _ _ (by omega)).mono ?_; rintro e w' ⟨rfl, rfl⟩) | (go_at_call 23; refine hcont.mono ?_; rintro e w' ⟨rfl, rfl⟩) | (go_at_call 24; refine hsuf.mono ?_; rintro e w' ⟨rfl, rfl⟩))
        go_ret2
        exact ⟨rfl, Below.refl _ _⟩
      · rw [unstRes, if_neg (by rw [hg]; decide), if_neg (by rw [h6]; decide), if_neg h5]
        rw [decide_eq_false (show ¬ 5 ≤ Hm.row 0 (Bm.nums s) by omega)] at hsuf
        have hrep := replace_unst s w hs hg h6 hm
        have hz : (strOfNums (Hm.unst 0 (Bm.nums s))).size ≤ 140737488351232 := by
          rw [strOfNums_size]
          have := unst_length 0 (Bm.nums s)
          rw [Bm.nums_length] at this
          omega
        clear h5 hle
        go_enter Tryd.func9, Tryd.ntmps9
        go_wp2_with (first | (go_at_call 22; refine (good_any _ _ (by omega)).mono ?_; rintro e w' ⟨rfl, rfl⟩) | (go_at_call 23; refine hcont.mono ?_; rintro e w' ⟨rfl, rfl⟩) | (go_at_call 24; refine hsuf.mono ?_; rintro e w' ⟨rfl, rfl⟩) | (go_at_call 26; refine hrep.mono ?_; rintro e w1 ⟨rfl, hb1⟩) | (go_at_call 25; refine (clone_any _ _ hz).mono ?_; rintro e w2 ⟨rfl, hb2⟩))
        go_ret2
        exact ⟨rfl, hb1.trans (hb2.mono hb1.size)⟩
end Go.Proofs.YtoakkfmebdglhaaDoor
