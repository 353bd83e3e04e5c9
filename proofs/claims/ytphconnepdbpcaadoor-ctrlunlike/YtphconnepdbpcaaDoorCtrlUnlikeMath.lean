/-
  Plain mathematics: no two kinds have one name, or one first octet.
-/
import Derived.Test.YtphconnepdbpcaaDoorCtrlBackMath
import Derived.ChangeKeysEq
namespace Go.Proofs.YtphconnepdbpcaaDoor.Cm
open Go.RowKit

theorem name_inj : ∀ i : Nat, i < 10 → ∀ j : Nat, j < 10 → (nameAt i).data.toList = (nameAt j).data.toList → i = j := by decide
theorem name_some : ∀ i : Nat, i < 10 → ((nameAt i).data.toList.isEmpty) = false := by decide
theorem name_list (i : Nat) (h : i < 10) : (nameAt i).toList.isEmpty = false := by rw [ByteArray.toList_eq]; exact name_some i h
theorem name_size : ∀ i : Nat, i < 10 → (nameAt i).size ≤ 5 := by decide

theorem mask_127 (z : Int) : 0 ≤ bits .and .i64 z 127 ∧ bits .and .i64 z 127 ≤ 127 := by
  have e : (BitVec.ofInt 64 z &&& BitVec.ofInt 64 (127 : Int)).toNat ≤ 127 := by
    rw [BitVec.toNat_and]
    have h := ofInt_u64 127 (by omega)
    rw [show ((127 : Nat) : Int) = 127 from rfl] at h
    rw [h]
    exact Nat.and_le_right
  have h2 : bits .and .i64 z 127 = ((BitVec.ofInt 64 z &&& BitVec.ofInt 64 (127 : Int)).toNat : Int) := by
    show IntKind.i64.wrap ((BitVec.ofInt 64 z &&& BitVec.ofInt 64 (127 : Int)).toNat : Int) = _
    exact Bm.wrap_i64_nat _ (by omega)
  rw [h2]
  omega

/-- the first octet of a kind, with N(S) in it -/
def fo (n : Nat) (pf : Bool) (a : Int) : Int := if n = 0 then 2 * a else foct n pf
theorem foct_inj (pf : Bool) (i j : Nat) (hi : i < 10) (hj : j < 10) (hi1 : 1 ≤ i) (hj1 : 1 ≤ j) (h : foct i pf = foct j pf) : i = j := by
  have h1 : ∀ i : Nat, i < 10 → ∀ j : Nat, j < 10 → 1 ≤ i → 1 ≤ j → foct i false = foct j false → i = j := by decide
  have h2 : ∀ i : Nat, i < 10 → ∀ j : Nat, j < 10 → 1 ≤ i → 1 ≤ j → foct i true = foct j true → i = j := by decide
  cases pf
  · exact h1 i hi j hj hi1 hj1 h
  · exact h2 i hi j hj hi1 hj1 h
theorem fo_inj (pf : Bool) (a : Int) (i j : Nat) (hi : i < 10) (hj : j < 10) (h : fo i pf a = fo j pf a) : i = j := by
  unfold fo at h
  by_cases h1 : i = 0 <;> by_cases h2 : j = 0
  · omega
  · rw [if_pos h1, if_neg h2] at h
    have := foct_odd j pf (by omega) hj
    omega
  · rw [if_neg h1, if_pos h2] at h
    have := foct_odd i pf (by omega) hi
    omega
  · rw [if_neg h1, if_neg h2] at h
    exact foct_inj pf i j hi hj (by omega) (by omega) h
theorem fo_bd (n : Nat) (pf : Bool) (a : Int) (h : 0 ≤ a ∧ a ≤ 127) : 0 ≤ fo n pf a ∧ fo n pf a ≤ 255 := by
  have := foct_bd n pf
  unfold fo; split <;> omega

/-- Put of numbers that may be, of every kind: its first octet -/
theorem put_first (n : Nat) (pf : Bool) (a b : Int) (hn : n < 10) (ha : 0 ≤ a ∧ a ≤ 127) (hb : 0 ≤ b ∧ b ≤ 127) :
    ∃ r : List Int, putRes (n : Int) pf a b = (strOfNums (fo n pf a :: r), 0) ∧ r.length ≤ 1 := by
  by_cases h4 : 4 ≤ n
  · exact ⟨[], by rw [put_high n pf a b hn h4, fo, if_neg (by omega)], by simp⟩
  · by_cases h0 : n = 0
    · subst h0
      exact ⟨[2 * b + Am.crN pf], put_i pf a b ha hb, by simp⟩
    · exact ⟨[2 * b + Am.crN pf], by rw [put_s n pf a b (by omega) (by omega) hb, fo, if_neg h0, foct_low n (by omega) pf, ← foct_low n (by omega) false], by simp⟩
theorem first_at (x : Int) (r : List Int) (h0 : 0 ≤ x) (h1 : x ≤ 255) (h : 0 < (strOfNums (x :: r)).size) : (((strOfNums (x :: r))[0]).toNat : Int) = x := by
  have e := Bm.nums_get (strOfNums (x :: r)) 0 h
  rw [← e]
  simp only [Bm.nums, strOfNums]
  simp
  omega
end Go.Proofs.YtphconnepdbpcaaDoor.Cm
