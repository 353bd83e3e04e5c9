/-
  Plain mathematics: a control field is read back from its octets, whatever follows.
-/
import Derived.Test.YtfpdkdaoomakgaaDoorCtrlMath
namespace Go.Proofs.YtfpdkdaoomakgaaDoor.Cm
open Go.RowKit

theorem beg_foct (n : Nat) (pf : Bool) (h : n < 10) (h1 : 1 ≤ n) (h4 : n < 4 → pf = false) : beg (foct n pf) = some ((n : Int), pf, 0) := by
  have h1' : ∀ n < 10, 1 ≤ n → beg (foct n false) = some ((n : Int), false, 0) := by decide
  have h2' : ∀ n < 10, 4 ≤ n → beg (foct n true) = some ((n : Int), true, 0) := by decide
  cases pf
  · exact h1' n h h1
  · refine h2' n h ?_
    rcases Nat.lt_or_ge n 4 with h5 | h5
    · exact absurd (h4 h5) (by decide)
    · exact h5

theorem nums_app (l : List Int) (rest : ByteArray) (h : ∀ n ∈ l, 0 ≤ n ∧ n ≤ 255) : Bm.nums (strOfNums l ++ rest) = l ++ Bm.nums rest := by
  rw [Am.nums_append, Bm.nums_str l h]

theorem back_high (n : Nat) (pf : Bool) (rest : ByteArray) (h : n < 10) (h4 : 4 ≤ n) : getRes (strOfNums [foct n pf] ++ rest) = (((n : Int), pf, 0, 0), 1, 0) := by
  have hb := foct_bd n pf
  rw [getRes, nums_app _ _ (by intro x hx; simp at hx; subst hx; omega)]
  exact getN_one _ (beg_foct n pf h (by omega) (by omega)) (by omega)
theorem crN_read (pf : Bool) (nr : Int) : ((2 * nr + Am.crN pf) % 2 == 1) = pf ∧ (2 * nr + Am.crN pf) / 2 = nr := by
  cases pf
  · rw [show Am.crN false = 0 from rfl]
    refine ⟨?_, by omega⟩
    rw [beq_eq_false_iff_ne]; omega
  · rw [show Am.crN true = 1 from rfl]
    refine ⟨?_, by omega⟩
    rw [beq_iff_eq]; omega
theorem back_i (pf : Bool) (ns nr : Int) (rest : ByteArray) (h : 0 ≤ ns ∧ ns ≤ 127) (h2 : 0 ≤ nr ∧ nr ≤ 127) : getRes (strOfNums [2 * ns, 2 * nr + Am.crN pf] ++ rest) = ((0, pf, ns, nr), 2, 0) := by
  have hc := Am.crN_bd pf
  obtain ⟨e1, e2⟩ := crN_read pf nr
  rw [getRes, nums_app _ _ (by intro x hx; simp at hx; rcases hx with rfl | rfl <;> omega)]
  show getN (2 * ns :: (2 * nr + Am.crN pf) :: Bm.nums rest) = _
  rw [getN_two _ _ (beg_even (2 * ns) (by omega)) (by decide), e1, e2, show 2 * ns / 2 = ns from by omega]
theorem back_s (n : Nat) (pf : Bool) (nr : Int) (rest : ByteArray) (h0 : 0 < n) (h4 : n < 4) (h2 : 0 ≤ nr ∧ nr ≤ 127) : getRes (strOfNums [foct n false, 2 * nr + Am.crN pf] ++ rest) = (((n : Int), pf, 0, nr), 2, 0) := by
  have hc := Am.crN_bd pf
  have hb := foct_bd n false
  obtain ⟨e1, e2⟩ := crN_read pf nr
  rw [getRes, nums_app _ _ (by intro x hx; simp at hx; rcases hx with rfl | rfl <;> omega)]
  show getN (foct n false :: (2 * nr + Am.crN pf) :: Bm.nums rest) = _
  rw [getN_two _ _ (beg_foct n false (by omega) (by omega) (fun _ => rfl)) (by omega), e1, e2]

/-- the ways that Put goes -/
theorem put_ways (k : Int) (pf : Bool) (ns nr : Int) :
    (∃ f, putRes k pf ns nr = (ByteArray.empty, f) ∧ f ≠ 0) ∨ (∃ n : Nat, k = (n : Int) ∧ n < 10 ∧ 4 ≤ n) ∨ (k = 0 ∧ (0 ≤ ns ∧ ns ≤ 127) ∧ (0 ≤ nr ∧ nr ≤ 127)) ∨ (∃ n : Nat, k = (n : Int) ∧ 0 < n ∧ n < 4 ∧ (0 ≤ nr ∧ nr ≤ 127)) := by
  by_cases h : known k
  · obtain ⟨n, rfl⟩ : ∃ n : Nat, k = (n : Int) := ⟨k.toNat, by have : 0 ≤ k := h.1; omega⟩
    have hn : n < 10 := by have : (n : Int) ≤ 9 := h.2; omega
    by_cases h4 : 4 ≤ n
    · exact Or.inr (Or.inl ⟨n, rfl, hn, h4⟩)
    · by_cases hr : 0 ≤ nr ∧ nr ≤ 127
      · by_cases h0 : n = 0
        · subst h0
          by_cases hs : 0 ≤ ns ∧ ns ≤ 127
          · exact Or.inr (Or.inr (Or.inl ⟨rfl, hs, hr⟩))
          · exact Or.inl ⟨2, put_badns pf ns nr hs, by decide⟩
        · exact Or.inr (Or.inr (Or.inr ⟨n, rfl, by omega, by omega, hr⟩))
      · exact Or.inl ⟨2, put_badnr n pf ns nr (by omega) hr, by decide⟩
  · exact Or.inl ⟨4, put_none k pf ns nr h, by decide⟩
end Go.Proofs.YtfpdkdaoomakgaaDoor.Cm
