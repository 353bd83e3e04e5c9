/-
  Plain mathematics: with P/F the other way just one bit of the octets is another.
-/
import Derived.Test.YtphconnepdbpcabDoorCtrlBackMath
namespace Go.Proofs.YtphconnepdbpcabDoor.Cm
open Go.RowKit

theorem xor_n (a b c : Nat) (ha : a ≤ 255) (hb : b ≤ 255) (h : a ^^^ b = c) : bits .xor .u8 (a : Int) (b : Int) = (c : Int) := by
  rw [Go.u8_xor _ _ (by omega) (by omega) (by omega) (by omega), Int.toNat_natCast, Int.toNat_natCast, h]
theorem xor_self (a : Int) (h0 : 0 ≤ a) (h1 : a ≤ 255) : bits .xor .u8 a a = 0 := by
  obtain ⟨n, rfl⟩ : ∃ n : Nat, a = (n : Int) := ⟨a.toNat, by omega⟩
  exact xor_n n n 0 (by omega) (by omega) (Nat.xor_self n)
theorem xor_low (nr : Int) (pf : Bool) (h0 : 0 ≤ nr) (h1 : nr ≤ 127) : bits .xor .u8 (2 * nr + Am.crN pf) (2 * nr + Am.crN (!pf)) = 1 := by
  obtain ⟨n, rfl⟩ : ∃ n : Nat, nr = (n : Int) := ⟨nr.toNat, by omega⟩
  have h : ∀ n < 128, (2 * n) ^^^ (2 * n + 1) = 1 := by decide
  have h' : ∀ n < 128, (2 * n + 1) ^^^ (2 * n) = 1 := by decide
  cases pf
  · exact xor_n (2 * n) (2 * n + 1) 1 (by omega) (by omega) (h n (by omega))
  · exact xor_n (2 * n + 1) (2 * n) 1 (by omega) (by omega) (h' n (by omega))
theorem xor_high (n : Nat) (pf : Bool) (h : n < 10) (h4 : 4 ≤ n) : bits .xor .u8 (foct n pf) (foct n (!pf)) = 16 := by
  have q : ∀ n < 10, 4 ≤ n → (foct n false).toNat ^^^ (foct n true).toNat = 16 := by decide
  have q' : ∀ n < 10, 4 ≤ n → (foct n true).toNat ^^^ (foct n false).toNat = 16 := by decide
  have b1 := foct_bd n pf
  have b2 := foct_bd n (!pf)
  have e := xor_n (foct n pf).toNat (foct n (!pf)).toNat 16 (by omega) (by omega) (by
    cases pf
    · exact q n h h4
    · exact q' n h h4)
  rw [show ((foct n pf).toNat : Int) = foct n pf from by omega, show ((foct n (!pf)).toNat : Int) = foct n (!pf) from by omega] at e
  exact e

theorem str_at (l : List Int) (h : ∀ n ∈ l, 0 ≤ n ∧ n ≤ 255) (i : Nat) (hi : i < (strOfNums l).size) : (((strOfNums l)[i]).toNat : Int) = l.getD i 0 := by
  have hl : i < l.length := by rw [strOfNums_size] at hi; exact hi
  have e := Bm.nums_get (strOfNums l) i hi
  rw [← e]
  simp only [Bm.nums_str l h]
  rw [List.getD, List.getElem?_eq_getElem hl]; rfl

/-- just the octet at place p is another, by the bit b -/
def OneBit (S T : ByteArray) (p : Nat) (b : Int) : Prop :=
  S.size = T.size ∧ S.size ≤ 2 ∧ p < S.size ∧ (b = 1 ∨ b = 16) ∧ ∀ i (h : i < S.size) (h' : i < T.size), bits .xor .u8 (S[i].toNat : Int) (T[i].toNat : Int) = if i = p then b else 0

theorem one_single (x y b : Int) (hx : 0 ≤ x ∧ x ≤ 255) (hy : 0 ≤ y ∧ y ≤ 255) (hb : b = 1 ∨ b = 16) (h : bits .xor .u8 x y = b) : OneBit (strOfNums [x]) (strOfNums [y]) 0 b := by
  refine ⟨by rw [strOfNums_size, strOfNums_size]; rfl, by rw [strOfNums_size]; simp, by rw [strOfNums_size]; simp, hb, fun i hi hi' => ?_⟩
  rw [str_at _ (by intro z hz; simp at hz; subst hz; exact hx) i hi, str_at _ (by intro z hz; simp at hz; subst hz; exact hy) i hi']
  have : i = 0 := by rw [strOfNums_size] at hi; simpa using hi
  subst this
  exact h
theorem one_second (a x y b : Int) (ha : 0 ≤ a ∧ a ≤ 255) (hx : 0 ≤ x ∧ x ≤ 255) (hy : 0 ≤ y ∧ y ≤ 255) (hb : b = 1 ∨ b = 16) (h : bits .xor .u8 x y = b) : OneBit (strOfNums [a, x]) (strOfNums [a, y]) 1 b := by
  refine ⟨by rw [strOfNums_size, strOfNums_size]; rfl, by rw [strOfNums_size]; simp, by rw [strOfNums_size]; simp, hb, fun i hi hi' => ?_⟩
  rw [str_at _ (by intro z hz; simp at hz; rcases hz with rfl | rfl; exact ha; exact hx) i hi, str_at _ (by intro z hz; simp at hz; rcases hz with rfl | rfl; exact ha; exact hy) i hi']
  have : i = 0 ∨ i = 1 := by rw [strOfNums_size] at hi; simp at hi; omega
  rcases this with rfl | rfl
  · exact xor_self a ha.1 ha.2
  · exact h

/-- Put of a control field, and of the same one with P/F the other way -/
theorem final_ways (k : Int) (pf : Bool) (ns nr : Int) :
    (∃ f, f ≠ 0 ∧ putRes k pf ns nr = (ByteArray.empty, f) ∧ putRes k (!pf) ns nr = (ByteArray.empty, f)) ∨
    (∃ S T p b, putRes k pf ns nr = (S, 0) ∧ putRes k (!pf) ns nr = (T, 0) ∧ OneBit S T p b) := by
  by_cases h : known k
  · obtain ⟨n, rfl⟩ : ∃ n : Nat, k = (n : Int) := ⟨k.toNat, by have : 0 ≤ k := h.1; omega⟩
    have hn : n < 10 := by have : (n : Int) ≤ 9 := h.2; omega
    by_cases h4 : 4 ≤ n
    · have b1 := foct_bd n pf
      have b2 := foct_bd n (!pf)
      exact Or.inr ⟨_, _, 0, 16, put_high n pf ns nr hn h4, put_high n (!pf) ns nr hn h4, one_single _ _ _ (by omega) (by omega) (Or.inr rfl) (xor_high n pf hn h4)⟩
    · by_cases hr : 0 ≤ nr ∧ nr ≤ 127
      · have c1 := Am.crN_bd pf
        have c2 := Am.crN_bd (!pf)
        have hx := xor_low nr pf hr.1 hr.2
        by_cases h0 : n = 0
        · subst h0
          by_cases hs : 0 ≤ ns ∧ ns ≤ 127
          · exact Or.inr ⟨_, _, 1, 1, put_i pf ns nr hs hr, put_i (!pf) ns nr hs hr, one_second _ _ _ _ (by omega) (by omega) (by omega) (Or.inl rfl) hx⟩
          · exact Or.inl ⟨2, by decide, put_badns pf ns nr hs, put_badns (!pf) ns nr hs⟩
        · have b1 := foct_bd n false
          exact Or.inr ⟨_, _, 1, 1, put_s n pf ns nr (by omega) (by omega) hr, put_s n (!pf) ns nr (by omega) (by omega) hr, one_second _ _ _ _ (by omega) (by omega) (by omega) (Or.inl rfl) hx⟩
      · exact Or.inl ⟨2, by decide, put_badnr n pf ns nr (by omega) hr, put_badnr n (!pf) ns nr (by omega) hr⟩
  · exact Or.inl ⟨4, by decide, put_none k pf ns nr h, put_none k (!pf) ns nr h⟩
end Go.Proofs.YtphconnepdbpcabDoor.Cm
