/-
  Plain lists of bits: stuffing, taking apart, and a decoder. It imports nothing of the program.
-/
import Derived.Test.YtdcohbdndkphnabDoorMath
import Derived.Lib.ReplaceLaws
namespace Go.Proofs.YtdcohbdndkphnabDoor.Hm
open Go.RowKit
set_option linter.unusedVariables false
set_option linter.unusedSimpArgs false

/-! ### replacing, byte by byte -/
/-- all instances of old replaced by new -/
def rep (old new : List UInt8) (s : List UInt8) : List UInt8 := Lib.replaceK old new (Lib.count s old) s

theorem rep_all (s old new : List UInt8) (h : (old == new) = false) : Lib.replaceAll s old new = rep old new s := by
  have hn : Lib.replaceNum s old (-1) = Lib.count s old := by unfold Lib.replaceNum; rw [if_pos (by omega)]
  rw [Lib.replaceAll, Lib.replace, if_neg (by rw [h]; exact Bool.false_ne_true), hn, rep]

theorem rep_nil (old new : List UInt8) (ho : old ≠ []) : rep old new [] = [] := by
  have h : Lib.index [] old = -1 := by cases old with | nil => exact absurd rfl ho | cons a t => rfl
  rw [rep, Lib.count_miss h, Lib.replaceK]

theorem index_hit (s old : List UInt8) (ho : old ≠ []) (h : old.isPrefixOf s = true) : Lib.index s old = ((0 : Nat) : Int) := by
  cases s with
  | nil => cases old with | nil => exact absurd rfl ho | cons a t => simp at h
  | cons b l => unfold Lib.index; rw [if_pos h]; rfl

theorem rep_hit (old new s : List UInt8) (ho : old ≠ []) (h : old.isPrefixOf s = true) : rep old new s = new ++ rep old new (s.drop old.length) := by
  have hi := index_hit s old ho h
  rw [rep, Lib.count_hit ho hi, Nat.add_comm, Lib.replaceK_hit _ _ _ _ _ hi, rep]
  simp

theorem index_miss (b : UInt8) (l old : List UInt8) (h : old.isPrefixOf (b :: l) = false) : Lib.index (b :: l) old = if Lib.index l old = -1 then -1 else Lib.index l old + 1 := by
  rw [Lib.index, if_neg (by rw [h]; exact Bool.false_ne_true)]
  simp only [beq_iff_eq]

theorem rep_miss (old new : List UInt8) (b : UInt8) (l : List UInt8) (ho : old ≠ []) (h : old.isPrefixOf (b :: l) = false) : rep old new (b :: l) = b :: rep old new l := by
  have hi := index_miss b l old h
  have hge := Lib.index_ge l old
  by_cases hm : Lib.index l old = -1
  · rw [if_pos hm] at hi
    rw [rep, rep, Lib.count_miss hi, Lib.count_miss hm, Lib.replaceK, Lib.replaceK]
  · obtain ⟨i, hj⟩ : ∃ i : Nat, Lib.index l old = (i : Int) := ⟨(Lib.index l old).toNat, by omega⟩
    rw [if_neg hm, hj] at hi
    have hi' : Lib.index (b :: l) old = ((i + 1 : Nat) : Int) := by rw [hi]; omega
    rw [rep, rep, Lib.count_hit ho hi', Lib.count_hit ho hj, Nat.add_comm 1, Nat.add_comm 1, Lib.replaceK_hit _ _ _ _ _ hi', Lib.replaceK_hit _ _ _ _ _ hj]
    rw [show i + 1 + old.length = (i + old.length) + 1 from by omega]
    simp

theorem contains_nil (old : List UInt8) (ho : old ≠ []) : Lib.contains [] old = false := by
  cases old with | nil => exact absurd rfl ho | cons a t => rfl
theorem contains_hit (s old : List UInt8) (ho : old ≠ []) (h : old.isPrefixOf s = true) : Lib.contains s old = true := by
  rw [Lib.contains, index_hit s old ho h]; rfl
theorem contains_miss (old : List UInt8) (b : UInt8) (l : List UInt8) (h : old.isPrefixOf (b :: l) = false) : Lib.contains (b :: l) old = Lib.contains l old := by
  have hge := Lib.index_ge l old
  rw [Lib.contains, Lib.contains, index_miss b l old h]
  by_cases hm : Lib.index l old = -1
  · rw [if_pos hm, hm]
  · rw [if_neg hm]
    rw [Bool.eq_iff_iff, decide_eq_true_iff, decide_eq_true_iff]; omega

/-! ### stuffing -/
def toU (l : List Int) : List UInt8 := l.map fun n => UInt8.ofNat n.toNat

def stuff : Nat → List Int → List Int
  | _, [] => []
  | k, c :: l => if c = 49 then (if k = 4 then 49 :: 48 :: stuff 0 l else 49 :: stuff (k + 1) l) else 48 :: stuff 0 l
/-- without the 0 behind each five 1s -/
def unst : Nat → List Int → List Int
  | _, [] => []
  | k, c :: l => if k = 5 then unst 0 l else c :: unst (if c = 49 then k + 1 else 0) l
/-- six 1s in a row, k of them ahead -/
def has6 : Nat → List Int → Bool
  | _, [] => false
  | k, c :: l => if c = 49 then (if k = 5 then true else has6 (k + 1) l) else has6 0 l
/-- the 1s at the end, k of them ahead -/
def row : Nat → List Int → Nat
  | k, [] => k
  | k, c :: l => row (if c = 49 then k + 1 else 0) l

def bit (l : List Int) : Prop := ∀ x ∈ l, x = 48 ∨ x = 49
theorem bit_cons {a : Int} {l : List Int} (h : bit (a :: l)) : (a = 48 ∨ a = 49) ∧ bit l := ⟨h a (by simp), fun x hx => h x (by simp [hx])⟩

abbrev five : List UInt8 := [49, 49, 49, 49, 49]
abbrev fiveO : List UInt8 := [49, 49, 49, 49, 49, 48]
abbrev six : List UInt8 := [49, 49, 49, 49, 49, 49]

theorem u48 : UInt8.ofNat (48 : Int).toNat = 48 := rfl
theorem u49 : UInt8.ofNat (49 : Int).toNat = 49 := rfl
theorem toU_cons (a : Int) (l : List Int) : toU (a :: l) = UInt8.ofNat a.toNat :: toU l := rfl
theorem toU_nil : toU [] = [] := rfl

/-- the first bits of a list: a 0 behind fewer than five 1s; fewer than five 1s alone; five 1s -/
theorem lead5 (l : List Int) (h : bit l) : (∃ j r, j < 5 ∧ l = List.replicate j 49 ++ 48 :: r ∧ bit r) ∨ (∃ j, j < 5 ∧ l = List.replicate j 49) ∨ ∃ r, l = [49, 49, 49, 49, 49] ++ r ∧ bit r := by
  cases l with
  | nil => exact Or.inr (Or.inl ⟨0, by omega, rfl⟩)
  | cons a l =>
  have ha := (bit_cons h).1
  replace h := (bit_cons h).2
  rcases ha with rfl | rfl
  · exact Or.inl ⟨0, l, by omega, rfl, h⟩
  cases l with
  | nil => exact Or.inr (Or.inl ⟨1, by omega, rfl⟩)
  | cons a l =>
  have ha := (bit_cons h).1
  replace h := (bit_cons h).2
  rcases ha with rfl | rfl
  · exact Or.inl ⟨1, l, by omega, rfl, h⟩
  cases l with
  | nil => exact Or.inr (Or.inl ⟨2, by omega, rfl⟩)
  | cons a l =>
  have ha := (bit_cons h).1
  replace h := (bit_cons h).2
  rcases ha with rfl | rfl
  · exact Or.inl ⟨2, l, by omega, rfl, h⟩
  cases l with
  | nil => exact Or.inr (Or.inl ⟨3, by omega, rfl⟩)
  | cons a l =>
  have ha := (bit_cons h).1
  replace h := (bit_cons h).2
  rcases ha with rfl | rfl
  · exact Or.inl ⟨3, l, by omega, rfl, h⟩
  cases l with
  | nil => exact Or.inr (Or.inl ⟨4, by omega, rfl⟩)
  | cons a l =>
  have ha := (bit_cons h).1
  replace h := (bit_cons h).2
  rcases ha with rfl | rfl
  · exact Or.inl ⟨4, l, by omega, rfl, h⟩
  exact Or.inr (Or.inr ⟨l, rfl, h⟩)

theorem five5 (j : Nat) (h : j < 5) : j = 0 ∨ j = 1 ∨ j = 2 ∨ j = 3 ∨ j = 4 := by omega

theorem rep_stuff : ∀ (n : Nat) (l : List Int), l.length ≤ n → bit l → rep five fiveO (toU l) = toU (stuff 0 l)
  | 0, l, hn, hb => by
    have : l = [] := List.eq_nil_of_length_eq_zero (by omega)
    subst this
    exact rep_nil _ _ (by decide)
  | n + 1, l, hn, hb => by
    rcases lead5 l hb with ⟨j, r, hj, rfl, hr⟩ | ⟨j, hj, rfl⟩ | ⟨r, rfl, hr⟩
    · have ih := rep_stuff n r (by simp at hn; omega) hr
      have M : ∀ b (l : List UInt8), five.isPrefixOf (b :: l) = false → rep five fiveO (b :: l) = b :: rep five fiveO l := fun b l h => rep_miss _ _ b l (by decide) h
      rcases five5 j hj with rfl | rfl | rfl | rfl | rfl
      all_goals simp only [List.replicate, List.nil_append, List.cons_append, toU_cons, u48, u49]
      all_goals repeat rw [M _ _ rfl]
      all_goals rw [ih]
      all_goals simp [stuff, toU_cons, u48, u49]
    · rcases five5 j hj with rfl | rfl | rfl | rfl | rfl <;> decide +kernel
    · have ih := rep_stuff n r (by simp at hn; omega) hr
      have e : toU ([49, 49, 49, 49, 49] ++ r) = five ++ toU r := by simp [toU]
      rw [e, rep_hit _ _ _ (by decide) (by simp), show (five ++ toU r).drop five.length = toU r from rfl, ih]
      rfl

/-- with six -/
theorem rep_unst : ∀ (n : Nat) (l : List Int), l.length ≤ n → bit l → has6 0 l = false → rep fiveO five (toU l) = toU (unst 0 l)
  | 0, l, hn, hb, h6 => by
    have : l = [] := List.eq_nil_of_length_eq_zero (by omega)
    subst this
    exact rep_nil _ _ (by decide)
  | n + 1, l, hn, hb, h6 => by
    have M : ∀ b (l : List UInt8), fiveO.isPrefixOf (b :: l) = false → rep fiveO five (b :: l) = b :: rep fiveO five l := fun b l h => rep_miss _ _ b l (by decide) h
    rcases lead5 l hb with ⟨j, r, hj, rfl, hr⟩ | ⟨j, hj, rfl⟩ | ⟨r, rfl, hr⟩
    · have h6' : has6 0 r = false := by
        rcases five5 j hj with rfl | rfl | rfl | rfl | rfl <;> simpa [has6] using h6
      have ih := rep_unst n r (by simp at hn; omega) hr h6'
      rcases five5 j hj with rfl | rfl | rfl | rfl | rfl
      all_goals simp only [List.replicate, List.nil_append, List.cons_append, toU_cons, u48, u49]
      all_goals repeat rw [M _ _ rfl]
      all_goals rw [ih]
      all_goals simp [unst, toU_cons, u48, u49]
    · rcases five5 j hj with rfl | rfl | rfl | rfl | rfl <;> decide +kernel
    · cases r with
      | nil => decide +kernel
      | cons a r =>
        obtain ⟨ha, hr'⟩ := bit_cons hr
        rcases ha with rfl | rfl
        · have h6' : has6 0 r = false := by simpa [has6] using h6
          have ih := rep_unst n r (by simp at hn; omega) hr' h6'
          have e : toU ([49, 49, 49, 49, 49] ++ 48 :: r) = fiveO ++ toU r := by simp [toU]
          rw [e, rep_hit _ _ _ (by decide) (by simp), show (fiveO ++ toU r).drop fiveO.length = toU r from rfl, ih]
          rfl
        · simp [has6] at h6

theorem has6_lt (j : Nat) (hj : j < 5) (r : List Int) : has6 0 (List.replicate j 49 ++ 48 :: r) = has6 0 r := by
  rcases five5 j hj with rfl | rfl | rfl | rfl | rfl <;> simp [has6]

theorem contains_six : ∀ (n : Nat) (l : List Int), l.length ≤ n → bit l → Lib.contains (toU l) six = has6 0 l
  | 0, l, hn, hb => by
    have : l = [] := List.eq_nil_of_length_eq_zero (by omega)
    subst this
    exact contains_nil _ (by decide)
  | n + 1, l, hn, hb => by
    rcases lead5 l hb with ⟨j, r, hj, rfl, hr⟩ | ⟨j, hj, rfl⟩ | ⟨r, rfl, hr⟩
    · have ih := contains_six n r (by simp at hn; omega) hr
      rw [has6_lt j hj, ← ih]
      rcases five5 j hj with rfl | rfl | rfl | rfl | rfl
      all_goals simp only [List.replicate, List.nil_append, List.cons_append, toU_cons, u48, u49]
      all_goals repeat rw [contains_miss _ _ _ rfl]
    · rcases five5 j hj with rfl | rfl | rfl | rfl | rfl <;> decide +kernel
    · cases r with
      | nil => decide +kernel
      | cons a r =>
        obtain ⟨ha, hr'⟩ := bit_cons hr
        rcases ha with rfl | rfl
        · have ih := contains_six n r (by simp at hn; omega) hr'
          rw [show has6 0 ([49, 49, 49, 49, 49] ++ 48 :: r) = has6 0 r from by simp [has6], ← ih]
          simp only [List.nil_append, List.cons_append, toU_cons, u48, u49]
          repeat rw [contains_miss _ _ _ rfl]
        · have e : toU ([49, 49, 49, 49, 49] ++ 49 :: r) = six ++ toU r := by simp [toU]
          rw [e, contains_hit _ _ (by decide) (by simp)]
          simp [has6]

theorem row_snoc (k : Nat) (l : List Int) (c : Int) : row k (l ++ [c]) = if c = 49 then row k l + 1 else 0 := by
  induction l generalizing k with
  | nil => rfl
  | cons a l ih => exact ih _
theorem row_append (k : Nat) (a b : List Int) : row k (a ++ b) = row (row k a) b := by
  induction a generalizing k with
  | nil => rfl
  | cons c a ih => exact ih _

/-- the 1s at the end, told from behind -/
def lead : List Int → Nat
  | [] => 0
  | c :: l => if c = 49 then lead l + 1 else 0
theorem row_lead (l : List Int) : row 0 l = lead l.reverse := by
  have : ∀ m : List Int, row 0 m.reverse = lead m := by
    intro m
    induction m with
    | nil => rfl
    | cons a m ih => rw [List.reverse_cons, row_snoc, ih, lead]
  have h := this l.reverse
  rwa [List.reverse_reverse] at h
theorem toU_reverse (l : List Int) : (toU l).reverse = toU l.reverse := by simp [toU]

theorem suffix_five (l : List Int) (hb : bit l) : Lib.hasSuffix (toU l) five = decide (5 ≤ row 0 l) := by
  have hb' : bit l.reverse := fun x hx => hb x (by simpa using hx)
  rw [Lib.hasSuffix, row_lead, show five = five.reverse from rfl, List.isSuffixOf, toU_reverse, List.reverse_reverse]
  rcases lead5 l.reverse hb' with ⟨j, r, hj, e, hr⟩ | ⟨j, hj, e⟩ | ⟨r, e, hr⟩
  · rw [e]
    rcases five5 j hj with rfl | rfl | rfl | rfl | rfl <;> rfl
  · rw [e]
    rcases five5 j hj with rfl | rfl | rfl | rfl | rfl <;> decide +kernel
  · rw [e]
    simp only [List.nil_append, List.cons_append, toU_cons, u48, u49, lead]
    simp
theorem row_le (k : Nat) (l : List Int) (hk : k ≤ 5) (h : has6 k l = false) : row k l ≤ 5 := by
  induction l generalizing k with
  | nil => exact hk
  | cons a l ih =>
    rw [has6] at h
    rw [row]
    by_cases ha : a = 49
    · rw [if_pos ha] at h ⊢
      by_cases h5 : k = 5
      · rw [if_pos h5] at h; cases h
      · rw [if_neg h5] at h
        exact ih _ (by omega) h
    · rw [if_neg ha] at h ⊢
      exact ih _ (by omega) h
theorem has6_take (k : Nat) (l : List Int) (m : Nat) (h : has6 k l = false) : has6 k (l.take m) = false := by
  induction l generalizing k m with
  | nil => simpa using h
  | cons a l ih =>
    cases m with
    | zero => rfl
    | succ m =>
      rw [List.take_succ_cons, has6]
      rw [has6] at h
      by_cases ha : a = 49
      · rw [if_pos ha] at h ⊢
        by_cases h5 : k = 5
        · rw [if_pos h5] at h; cases h
        · rw [if_neg h5] at h ⊢
          exact ih _ _ h
      · rw [if_neg ha] at h ⊢
        exact ih _ _ h

/-! ### what was stuffed -/
theorem stuff_bit (k : Nat) (l : List Int) : bit (stuff k l) := by
  induction l generalizing k with
  | nil => intro x hx; simp [stuff] at hx
  | cons a l ih =>
    rw [stuff]
    split
    · split
      · intro x hx
        simp only [List.mem_cons] at hx
        rcases hx with h | h | h
        · exact Or.inr h
        · exact Or.inl h
        · exact ih _ x h
      · intro x hx
        simp only [List.mem_cons] at hx
        rcases hx with h | h
        · exact Or.inr h
        · exact ih _ x h
    · intro x hx
      simp only [List.mem_cons] at hx
      rcases hx with h | h
      · exact Or.inl h
      · exact ih _ x h
theorem stuff_has6 (k : Nat) (l : List Int) (hk : k ≤ 4) : has6 k (stuff k l) = false := by
  induction l generalizing k with
  | nil => rfl
  | cons a l ih =>
    rw [stuff]
    split
    · split
      · rename_i h4
        subst h4
        simpa [has6] using ih 0 (by omega)
      · rename_i h4
        simpa [has6, show ¬ k = 5 by omega] using ih (k + 1) (by omega)
    · simpa [has6] using ih 0 (by omega)
theorem stuff_row (k : Nat) (l : List Int) (hk : k ≤ 4) : row k (stuff k l) ≤ 4 := by
  induction l generalizing k with
  | nil => exact hk
  | cons a l ih =>
    rw [stuff]
    split
    · split
      · rename_i h4
        subst h4
        simpa [row] using ih 0 (by omega)
      · rename_i h4
        simpa [row] using ih (k + 1) (by omega)
    · simpa [row] using ih 0 (by omega)
theorem stuff_unst (k : Nat) (l : List Int) (hb : bit l) (hk : k ≤ 4) : unst k (stuff k l) = l := by
  induction l generalizing k with
  | nil => rfl
  | cons a l ih =>
    obtain ⟨ha, hl⟩ := bit_cons hb
    rw [stuff]
    split
    · rename_i h1
      subst h1
      split
      · rename_i h4
        subst h4
        simpa [unst] using ih 0 hl (by omega)
      · rename_i h4
        simpa [unst, show ¬ k = 5 by omega] using ih (k + 1) hl (by omega)
    · rename_i h1
      have h0 : a = 48 := by omega
      subst h0
      simpa [unst, show ¬ k = 5 by omega] using ih 0 hl (by omega)
theorem stuff_length (k : Nat) (l : List Int) : l.length ≤ (stuff k l).length ∧ (stuff k l).length ≤ 2 * l.length := by
  induction l generalizing k with
  | nil => simp [stuff]
  | cons a l ih =>
    rw [stuff]
    split
    · split
      · have := ih 0; simp; omega
      · have := ih (k + 1); simp; omega
    · have := ih 0; simp; omega
end Go.Proofs.YtdcohbdndkphnabDoor.Hm
