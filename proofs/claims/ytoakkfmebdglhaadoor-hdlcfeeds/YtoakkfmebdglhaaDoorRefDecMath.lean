/-
  The document's decoder keeps all bits since a frame began: what it makes of them is what a decoder has that takes them in one by one. It imports nothing of the program.
-/
import Derived.Test.YtoakkfmebdglhaaDoorDecMath
namespace Go.Proofs.YtoakkfmebdglhaaDoor.Hm
open Go.RowKit
set_option linter.unusedVariables false
set_option linter.unusedSimpArgs false

/-- what bits make, k 1s ahead -/
def raw : Nat → List Int → List Int
  | _, [] => []
  | k, c :: l => if c = 49 then (if k + 1 ≤ 5 then 49 :: raw (k + 1) l else raw (k + 1) l) else (if k < 5 then 48 :: raw 0 l else raw 0 l)
def one1 (k : Nat) (c : Int) : List Int := if c = 49 then (if k + 1 ≤ 5 then [49] else []) else (if k < 5 then [48] else [])
theorem raw_snoc (k : Nat) (l : List Int) (c : Int) : raw k (l ++ [c]) = raw k l ++ one1 (row k l) c := by
  induction l generalizing k with
  | nil =>
    simp only [List.nil_append, raw, row, one1]
    by_cases h : c = 49
    · by_cases h5 : k + 1 ≤ 5 <;> simp [h, h5]
    · by_cases h5 : k < 5 <;> simp [h, h5]
  | cons a l ih =>
    simp only [List.cons_append, raw, row]
    by_cases h : a = 49
    · by_cases h5 : k + 1 ≤ 5 <;> simp [h, h5, ih]
    · by_cases h5 : k < 5 <;> simp [h, h5, ih]
theorem raw_length (k : Nat) (l : List Int) : (raw k l).length ≤ l.length := by
  induction l generalizing k with
  | nil => exact Nat.le_refl _
  | cons a l ih =>
    simp only [raw]
    have h1 := ih (k + 1)
    have h0 := ih 0
    by_cases h : a = 49
    · by_cases h5 : k + 1 ≤ 5 <;> simp [h, h5] <;> omega
    · by_cases h5 : k < 5 <;> simp [h, h5] <;> omega
theorem raw_bit (k : Nat) (l : List Int) : bit (raw k l) := by
  induction l generalizing k with
  | nil => exact bit_nil
  | cons a l ih =>
    simp only [raw]
    split
    · split
      · intro x hx
        simp only [List.mem_cons] at hx
        rcases hx with h | h
        · exact Or.inr h
        · exact ih _ x h
      · exact ih _
    · split
      · intro x hx
        simp only [List.mem_cons] at hx
        rcases hx with h | h
        · exact Or.inl h
        · exact ih _ x h
      · exact ih _

/-- the bits since a frame began, beside a decoder's state -/
structure Rel (st : St) (since : List Int) : Prop where
  bits : bit since
  inn : st.inn = true → st.cont = (raw 0 since).take 2135 ∧ row 0 since = st.ones
  out : st.inn = false → since = []

def refCont (l : List Int) : List Int := if (raw 0 l).length < 6 then [] else (raw 0 l).take ((raw 0 l).length - 6)
theorem refCont_length (l : List Int) : (refCont l).length = (raw 0 l).length - 6 := by
  unfold refCont
  split
  · simp; omega
  · simp
/-- at a flag: the same is met -/
theorem ended_ref (l : List Int) (hl : refCont l ≠ []) (h : ¬ (2128 < (refCont l).length ∨ (refCont l).length % 8 ≠ 0)) : endedE ((raw 0 l).take 2135) = [(0, strOfNums (Bm.octs (refCont l)))] := by
  have e := refCont_length l
  have h0 : 0 < (refCont l).length := List.length_pos_iff.2 hl
  have hR : (raw 0 l).length ≤ 2134 := by omega
  have hc : refCont l = (raw 0 l).take ((raw 0 l).length - 6) := by unfold refCont; rw [if_neg (by omega)]
  rw [List.take_of_length_le (by omega), endedE, if_neg (by omega), if_neg (by omega), hc]
theorem ended_ref_none (l : List Int) (hl : refCont l = []) : endedE ((raw 0 l).take 2135) = [] := by
  have e := refCont_length l
  rw [hl] at e
  simp at e
  rw [List.take_of_length_le (by omega), endedE, if_pos (by omega)]
theorem ended_ref_bad (l : List Int) (h : 2128 < (refCont l).length ∨ (refCont l).length % 8 ≠ 0) : endedE ((raw 0 l).take 2135) = [(2, ByteArray.empty)] := by
  have e := refCont_length l
  rw [e] at h
  by_cases hb : 2128 < (raw 0 l).length - 6
  · have e2 : ((raw 0 l).take 2135).length = 2135 := by simp; omega
    rw [endedE, e2, if_neg (by decide), if_pos (by decide)]
  · rw [List.take_of_length_le (by omega), endedE, if_neg (by omega), if_pos h]

theorem take_raw (k : Nat) (since : List Int) (b : Int) : takeS ⟨k, true, (raw 0 since).take 2135⟩ b = ⟨k, true, (raw 0 since ++ [b]).take 2135⟩ := takeK _ _ _

/-- a 1, while a frame is on its way and isn't broken off by it -/
theorem Rel.one {st : St} {since : List Int} (h : Rel st since) (hi : st.inn = true) (h7 : st.ones + 1 ≠ 7) (h6 : st.ones ≤ 6) : oneS st = (⟨st.ones + 1, true, (raw 0 (since ++ [49])).take 2135⟩, []) ∧ Rel ⟨st.ones + 1, true, (raw 0 (since ++ [49])).take 2135⟩ (since ++ [49]) := by
  obtain ⟨hc, hrow⟩ := h.inn hi
  have er : row 0 (since ++ [49]) = st.ones + 1 := by rw [row_snoc, if_pos rfl, hrow]
  refine ⟨?_, ⟨bit_snoc h.bits 49 (Or.inr rfl), fun _ => ⟨rfl, er⟩, fun hx => by cases hx⟩⟩
  obtain ⟨o, i, c⟩ := st
  simp only at hi hc hrow h7 h6
  subst hi; subst hc
  rw [raw_snoc, hrow, one1, if_pos rfl]
  unfold oneS
  by_cases h5 : o + 1 ≤ 5
  · rw [if_pos h5, if_pos h5, take_raw]
  · rw [if_neg h5, if_neg h5, if_pos (Or.inl (by show o + 1 ≤ 6; omega)), List.append_nil]
theorem one_out {st : St} (ok : Ok st) (hi : st.inn = false) : oneS st = (⟨st.ones + 1, false, []⟩, []) := by
  have hc := ok.hunts hi
  obtain ⟨o, i, c⟩ := st
  simp only at hi hc
  subst hi; subst hc
  exact oneS_hunt o
theorem one_seven {st : St} (hi : st.inn = true) (h7 : st.ones + 1 = 7) : oneS st = (⟨7, false, []⟩, [(1, ByteArray.empty)]) := by
  obtain ⟨o, i, c⟩ := st
  simp only at hi h7
  subst hi
  obtain rfl : o = 6 := by omega
  exact oneS_abort c
theorem Rel.out' (k : Nat) : Rel ⟨k, false, []⟩ [] := ⟨bit_nil, (fun h => by cases h), fun _ => rfl⟩
theorem Rel.start : Rel ⟨0, true, []⟩ [] := ⟨bit_nil, fun _ => ⟨rfl, rfl⟩, fun h => by cases h⟩
/-- a 0 that ends no flag -/
theorem Rel.zero {st : St} {since : List Int} (h : Rel st since) (hi : st.inn = true) (h6 : st.ones ≠ 6) (h5 : st.ones ≤ 5) : zeroS st = (⟨0, true, (raw 0 (since ++ [48])).take 2135⟩, []) ∧ Rel ⟨0, true, (raw 0 (since ++ [48])).take 2135⟩ (since ++ [48]) := by
  obtain ⟨hc, hrow⟩ := h.inn hi
  have er : row 0 (since ++ [48]) = 0 := by rw [row_snoc, if_neg (by decide)]
  refine ⟨?_, ⟨bit_snoc h.bits 48 (Or.inl rfl), fun _ => ⟨rfl, er⟩, fun hx => by cases hx⟩⟩
  obtain ⟨o, i, c⟩ := st
  simp only at hi hc hrow h6 h5
  subst hi; subst hc
  rw [raw_snoc, hrow, one1, if_neg (by decide)]
  unfold zeroS
  rw [if_neg (by show ¬ o = 6; exact h6)]
  by_cases e5 : o = 5
  · rw [if_pos e5, if_neg (by omega), List.append_nil]
  · rw [if_neg e5, if_pos (by omega), take_raw]
theorem zero_out {st : St} (ok : Ok st) (hi : st.inn = false) (h6 : st.ones ≠ 6) : zeroS st = (⟨0, false, []⟩, []) := by
  have hc := ok.hunts hi
  obtain ⟨o, i, c⟩ := st
  simp only at hi hc h6
  subst hi; subst hc
  unfold zeroS
  rw [if_neg (by show ¬ o = 6; exact h6)]
  split <;> simp [takeS]
/-- a frame on its way has met at most six 1s in a row -/
def Low (st : St) : Prop := st.inn = true → st.ones ≤ 6
theorem low_step {st : St} (h : Low st) (c : Int) : Low (stepS st c).1 := by
  unfold stepS
  split
  · intro _; rw [zero_ones]; omega
  · split
    · intro hi
      rw [one_ones]
      unfold oneS at hi
      split at hi
      · omega
      · split at hi
        · rename_i hx
          rcases hx with hx | hx
          · exact hx
          · rw [hx] at hi; cases hi
        · cases hi
    · exact h
theorem low_feed {st : St} (h : Low st) (l : List Int) : Low (feedS st l).1 := by
  induction l generalizing st with
  | nil => exact h
  | cons c l ih => exact ih (low_step h c)
theorem low_init : Low init := fun h => by cases h
end Go.Proofs.YtoakkfmebdglhaaDoor.Hm
