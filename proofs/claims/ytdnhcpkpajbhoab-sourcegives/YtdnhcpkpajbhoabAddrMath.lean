/-
  Plain mathematics of addresses: the two octets, what Pack and Field make of them, and that they are read back.
-/
import Derived.Test.YtdnhcpkpajbhoabPackMath
namespace Go.Proofs.Ytdnhcpkpajbhoab.Am
open Go.RowKit

/-- the C/R bit as a number -/
def crN (c : Bool) : Int := if c then 1 else 0
theorem crN_bd (c : Bool) : 0 ≤ crN c ∧ crN c ≤ 1 := by cases c <;> decide

theorem pack_first (sapi : Int) (c : Bool) : Bm.packRes [(1, 0), (1, crN c), (6, sapi)] = if 0 ≤ sapi ∧ sapi ≤ 63 then (4 * sapi + 2 * crN c, 0) else (0, 2) := by
  have h1 : Bm.fitsB 1 0 = true := by decide
  have h2 : Bm.fitsB 1 (crN c) = true := by cases c <;> decide
  have p6 : (2 : Int) ^ (6 : Int).toNat = 64 := by decide
  have p1 : (2 : Int) ^ ((0 : Int) + 1).toNat = 2 := by decide
  have p2 : (2 : Int) ^ ((0 : Int) + 1 + 1).toNat = 4 := by decide
  have p0 : (2 : Int) ^ (0 : Int).toNat = 1 := by decide
  have hs : Bm.st [(1, 0), (1, crN c), (6, sapi)] = (4 * sapi + 2 * crN c, 8) := by
    simp only [Bm.st, Bm.step, List.foldl, p0, p1, p2]
    simp only [Prod.mk.injEq]
    omega
  by_cases h : 0 ≤ sapi ∧ sapi ≤ 63
  · have h3 : Bm.fitsB 6 sapi = true := by rw [Bm.fitsB_iff, p6]; omega
    rw [if_pos h, Bm.packRes, if_neg (by simp [Bm.fitsQ, h1, h2, h3]), hs]
    simp
  · have h3 : Bm.fitsB 6 sapi = false := by
      rw [← Bool.not_eq_true, Bm.fitsB_iff, p6]; omega
    rw [if_neg h, Bm.packRes, if_pos (by simp [Bm.fitsQ, h1, h2, h3])]

theorem pack_second (tei : Int) : Bm.packRes [(1, 1), (7, tei)] = if 0 ≤ tei ∧ tei ≤ 127 then (2 * tei + 1, 0) else (0, 2) := by
  have h1 : Bm.fitsB 1 1 = true := by decide
  have p7 : (2 : Int) ^ (7 : Int).toNat = 128 := by decide
  have p1 : (2 : Int) ^ ((0 : Int) + 1).toNat = 2 := by decide
  have p0 : (2 : Int) ^ (0 : Int).toNat = 1 := by decide
  have hs : Bm.st [(1, 1), (7, tei)] = (2 * tei + 1, 8) := by
    simp only [Bm.st, Bm.step, List.foldl, p0, p1]
    simp only [Prod.mk.injEq]
    omega
  by_cases h : 0 ≤ tei ∧ tei ≤ 127
  · have h3 : Bm.fitsB 7 tei = true := by rw [Bm.fitsB_iff, p7]; omega
    rw [if_pos h, Bm.packRes, if_neg (by simp [Bm.fitsQ, h1, h3]), hs]
    simp
  · have h3 : Bm.fitsB 7 tei = false := by
      rw [← Bool.not_eq_true, Bm.fitsB_iff, p7]; omega
    rw [if_neg h, Bm.packRes, if_pos (by simp [Bm.fitsQ, h1, h3])]

/-- what Put answers -/
abbrev good (sapi tei : Int) : Prop := (0 ≤ sapi ∧ sapi ≤ 63) ∧ (0 ≤ tei ∧ tei ≤ 127)
def octs2 (sapi tei : Int) (c : Bool) : List Int := [4 * sapi + 2 * crN c, 2 * tei + 1]
def putRes (sapi tei : Int) (c : Bool) : ByteArray × Int := if good sapi tei then (strOfNums (octs2 sapi tei c), 0) else (ByteArray.empty, 2)

theorem fld_at (x low count : Int) (h0 : 0 ≤ low) (h1 : low ≤ 7) (h2 : 1 ≤ count) (h3 : count ≤ 8) : Bm.fld x low count = x / 2 ^ low.toNat % 2 ^ count.toNat := by
  rw [Bm.fld, if_neg (by omega), show min count 8 = count from by omega]
theorem fld_01 (x : Int) : Bm.fld x 0 1 = x % 2 := by
  rw [fld_at x 0 1 (by decide) (by decide) (by decide) (by decide), show (2 : Int) ^ (0 : Int).toNat = 1 from by decide, show (2 : Int) ^ (1 : Int).toNat = 2 from by decide]; omega
theorem fld_11 (x : Int) : Bm.fld x 1 1 = x / 2 % 2 := by
  rw [fld_at x 1 1 (by decide) (by decide) (by decide) (by decide), show (2 : Int) ^ (1 : Int).toNat = 2 from by decide]
theorem fld_26 (x : Int) (h0 : 0 ≤ x) (h1 : x ≤ 255) : Bm.fld x 2 6 = x / 4 := by
  rw [fld_at x 2 6 (by decide) (by decide) (by decide) (by decide), show (2 : Int) ^ (2 : Int).toNat = 4 from by decide, show (2 : Int) ^ (6 : Int).toNat = 64 from by decide]; omega
theorem fld_17 (x : Int) (h0 : 0 ≤ x) (h1 : x ≤ 255) : Bm.fld x 1 7 = x / 2 := by
  rw [fld_at x 1 7 (by decide) (by decide) (by decide) (by decide), show (2 : Int) ^ (1 : Int).toNat = 2 from by decide, show (2 : Int) ^ (7 : Int).toNat = 128 from by decide]; omega

/-- what Get answers: SAPI, TEI, C/R; the error -/
def getN (l : List Int) : (Int × Int × Bool) × Int :=
  if l.length < 2 then ((0, 0, false), 3)
  else if l.getD 0 0 % 2 ≠ 0 ∨ l.getD 1 0 % 2 ≠ 1 then ((0, 0, false), 4)
  else ((l.getD 0 0 / 4, l.getD 1 0 / 2, decide (l.getD 0 0 / 2 % 2 = 1)), 0)
def getRes (s : ByteArray) : (Int × Int × Bool) × Int := getN (Bm.nums s)

theorem octs2_range (sapi tei : Int) (c : Bool) (h : good sapi tei) : ∀ n ∈ octs2 sapi tei c, 0 ≤ n ∧ n ≤ 255 := by
  obtain ⟨⟨h1, h2⟩, h3, h4⟩ := h
  have := crN_bd c
  intro n hn
  simp [octs2] at hn
  rcases hn with rfl | rfl <;> omega

theorem nums_put (sapi tei : Int) (c : Bool) (h : good sapi tei) : Bm.nums (strOfNums (octs2 sapi tei c)) = octs2 sapi tei c := Bm.nums_str _ (octs2_range sapi tei c h)

theorem nums_append (s t : ByteArray) : Bm.nums (s ++ t) = Bm.nums s ++ Bm.nums t := by simp [Bm.nums]

theorem getN_back (sapi tei : Int) (c : Bool) (r : List Int) (h : good sapi tei) : getN (octs2 sapi tei c ++ r) = ((sapi, tei, c), 0) := by
  obtain ⟨⟨h1, h2⟩, h3, h4⟩ := h
  have e0 : (octs2 sapi tei c ++ r).getD 0 0 = 4 * sapi + 2 * crN c := rfl
  have e1 : (octs2 sapi tei c ++ r).getD 1 0 = 2 * tei + 1 := rfl
  have hl : ¬ (octs2 sapi tei c ++ r).length < 2 := by simp [octs2]
  rw [getN, if_neg hl, e0, e1, if_neg (by omega)]
  have d1 : (4 * sapi + 2 * crN c) / 4 = sapi := by have := crN_bd c; omega
  have d2 : (2 * tei + 1) / 2 = tei := by omega
  have d3 : decide ((4 * sapi + 2 * crN c) / 2 % 2 = 1) = c := by
    cases c
    · rw [decide_eq_false_iff_not, show crN false = 0 from rfl]; omega
    · rw [decide_eq_true_eq, show crN true = 1 from rfl]; omega
  rw [d1, d2, d3]

theorem get_back (sapi tei : Int) (c : Bool) (rest : ByteArray) (h : good sapi tei) : getRes (strOfNums (octs2 sapi tei c) ++ rest) = ((sapi, tei, c), 0) := by
  rw [getRes, nums_append, nums_put sapi tei c h, getN_back sapi tei c _ h]

/-- octets that are read are just the address's own -/
theorem get_puts (s : ByteArray) (h : (getRes s).2 = 0) : good (getRes s).1.1 (getRes s).1.2.1 ∧ 2 ≤ s.size ∧ strOfNums (octs2 (getRes s).1.1 (getRes s).1.2.1 (getRes s).1.2.2) = s.extract 0 2 := by
  have hr := Bm.nums_range s
  unfold getRes at h ⊢
  unfold getN at h ⊢
  by_cases h1 : (Bm.nums s).length < 2
  · rw [if_pos h1] at h; exact absurd h (by decide)
  · rw [if_neg h1] at h ⊢
    by_cases h2 : (Bm.nums s).getD 0 0 % 2 ≠ 0 ∨ (Bm.nums s).getD 1 0 % 2 ≠ 1
    · rw [if_pos h2] at h; exact absurd h (by decide)
    · rw [if_neg h2]
      have hsz : 2 ≤ s.size := by have := Bm.nums_length s; omega
      have hs : Bm.nums (s.extract 0 2) = (Bm.nums s).take 2 := by
        simp [Bm.nums, ByteArray.data_extract, List.map_take]
      match hn : Bm.nums s, h1, hr with
      | [], h1, _ => simp at h1
      | [_], h1, _ => simp at h1
      | x :: y :: r, _, hr =>
        have hx := hr x (by simp)
        have hy := hr y (by simp)
        rw [hn] at h2 hs
        simp only [List.getD_cons_zero, List.getD_cons_succ] at h2 ⊢
        refine ⟨⟨by omega, by omega⟩, hsz, ?_⟩
        rw [← Bm.str_nums (s.extract 0 2), hs]
        have e1 : 4 * (x / 4) + 2 * crN (decide (x / 2 % 2 = 1)) = x := by
          by_cases hc : x / 2 % 2 = 1
          · simp only [hc, decide_true, show crN true = 1 from rfl]; omega
          · simp only [hc, decide_false, show crN false = 0 from rfl]; omega
        have e2 : 2 * (y / 2) + 1 = y := by omega
        simp only [octs2, e1, e2]
        simp

theorem octs2_inj {a b a' b' : Int} {c c' : Bool} (h : good a b) (h' : good a' b') (e : strOfNums (octs2 a b c) = strOfNums (octs2 a' b' c')) : a = a' ∧ b = b' ∧ c = c' := by
  have := get_back a b c ByteArray.empty h
  have h2 := get_back a' b' c' ByteArray.empty h'
  rw [e, h2] at this
  simp only [Prod.mk.injEq] at this
  obtain ⟨⟨h1, h3, h4⟩, _⟩ := this
  exact ⟨h1.symm, h3.symm, h4.symm⟩

/-- what KindOf answers -/
def kind (tei : Int) : Int := if 0 ≤ tei ∧ tei ≤ 63 then 1 else if 64 ≤ tei ∧ tei ≤ 126 then 2 else if tei = 127 then 3 else 0
end Go.Proofs.Ytdnhcpkpajbhoab.Am
