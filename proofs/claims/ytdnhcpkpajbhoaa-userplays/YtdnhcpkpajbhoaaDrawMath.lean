/-
  Plain arithmetic of layer 11: numbers modulo 65536, the step, and what a source tells behind i numbers. It imports nothing of the program.
-/
import Derived.RowKit
namespace Go.Proofs.Ytdnhcpkpajbhoaa.Dm
open Go.RowKit
set_option linter.unusedVariables false
set_option linter.unusedSimpArgs false

/-- a first number, as it is told -/
def md (n : Int) : Int := n % 65536
/-- the next x -/
def st (x : Int) : Int := (x * 6364136223846793005 + 1442695040888963407) % 18446744073709551616
/-- what is told of it -/
def ot (x : Int) : Int := x / 281474976710656
/-- what comes next, what is left, and the next x -/
def nx : List Int → Int → Int
  | [], x => ot (st x)
  | n :: _, _ => md n
def nX : List Int → Int → Int
  | [], x => st x
  | _ :: _, x => x

theorem md_lo (n : Int) : 0 ≤ md n := by unfold md; omega
theorem md_hi (n : Int) : md n ≤ 65535 := by unfold md; omega
theorem st_lo (x : Int) : 0 ≤ st x := by unfold st; omega
theorem st_hi (x : Int) : st x < 18446744073709551616 := by unfold st; omega
theorem ot_lo (x : Int) (h : 0 ≤ x) : 0 ≤ ot x := by unfold ot; omega
theorem ot_hi (x : Int) (h : x < 18446744073709551616) : ot x ≤ 65535 := by unfold ot; omega
theorem nx_lo (L : List Int) (x : Int) : 0 ≤ nx L x := by
  cases L with
  | nil => exact ot_lo _ (st_lo x)
  | cons n r => exact md_lo n
theorem nx_hi (L : List Int) (x : Int) : nx L x ≤ 65535 := by
  cases L with
  | nil => exact ot_hi _ (st_hi x)
  | cons n r => exact md_hi n
theorem nX_lo (L : List Int) (x : Int) (h : 0 ≤ x) : 0 ≤ nX L x := by
  cases L with
  | nil => exact st_lo x
  | cons n r => exact h
theorem nX_hi (L : List Int) (x : Int) (h : x < 18446744073709551616) : nX L x < 18446744073709551616 := by
  cases L with
  | nil => exact st_hi x
  | cons n r => exact h

theorem tmod_cases (n : Int) : (0 ≤ n.tmod 65536 ∧ n.tmod 65536 = n % 65536) ∨ (0 < n % 65536 ∧ n.tmod 65536 = n % 65536 - 65536) := by
  rcases Int.le_total 0 n with h | h
  · have e := Int.tmod_eq_emod_of_nonneg (b := 65536) h
    exact Or.inl ⟨by omega, e⟩
  · have e : n.tmod 65536 = -((-n) % 65536) := by
      have h1 := Int.neg_tmod (a := -n) (b := 65536)
      rw [Int.neg_neg] at h1
      rw [h1, Int.tmod_eq_emod_of_nonneg (by omega)]
    by_cases h0 : n % 65536 = 0
    · exact Or.inl ⟨by omega, by omega⟩
    · exact Or.inr ⟨by omega, by omega⟩
theorem tmod_lo (n : Int) : -65535 ≤ n.tmod 65536 := by rcases tmod_cases n with ⟨_, h⟩ | ⟨h0, h⟩ <;> rw [h] <;> omega
theorem tmod_hi (n : Int) : n.tmod 65536 ≤ 65535 := by rcases tmod_cases n with ⟨_, h⟩ | ⟨h0, h⟩ <;> rw [h] <;> omega
theorem modulo (n : Int) : (n.tmod 65536 + 65536) % 65536 = md n := by
  unfold md
  rcases tmod_cases n with ⟨_, h⟩ | ⟨_, h⟩ <;> rw [h] <;> omega
theorem md_neg (n : Int) (h : n.tmod 65536 < 0) : n.tmod 65536 + 65536 = md n := by
  unfold md
  rcases tmod_cases n with ⟨_, h⟩ | ⟨_, h⟩ <;> omega
theorem md_pos (n : Int) (h : ¬ n.tmod 65536 < 0) : n.tmod 65536 = md n := by
  unfold md
  rcases tmod_cases n with ⟨_, h⟩ | ⟨_, h⟩ <;> omega

/-- x behind k steps -/
def sx (seed : Int) : Nat → Int
  | 0 => seed
  | k + 1 => st (sx seed k)
theorem sx_lo (seed : Int) (h : 0 ≤ seed) : ∀ k, 0 ≤ sx seed k
  | 0 => h
  | k + 1 => st_lo _
theorem sx_hi (seed : Int) (h : seed < 18446744073709551616) : ∀ k, sx seed k < 18446744073709551616
  | 0 => h
  | k + 1 => st_hi _
/-- the number at i, of a source with the first ones F -/
def nth (seed : Int) (F : List Int) (i : Nat) : Int := if i < F.length then md (F.getD i 0) else ot (sx seed (i - F.length + 1))

theorem drop_cons (F : List Int) (i : Nat) (h : i < F.length) : F.drop i = F.getD i 0 :: F.drop (i + 1) := by
  rw [List.drop_eq_getElem_cons h]
  simp [List.getD, List.getElem?_eq_getElem h]
theorem nx_at (seed : Int) (F : List Int) (i : Nat) : nx (F.drop i) (sx seed (i - F.length)) = nth seed F i := by
  unfold nth
  split
  · rename_i h
    rw [drop_cons F i h]
    rfl
  · rename_i h
    rw [List.drop_eq_nil_of_le (by omega)]
    rfl
theorem nX_at (seed : Int) (F : List Int) (i : Nat) : nX (F.drop i) (sx seed (i - F.length)) = sx seed (i + 1 - F.length) := by
  by_cases h : i < F.length
  · rw [drop_cons F i h]
    show sx seed (i - F.length) = _
    rw [show i - F.length = 0 by omega, show i + 1 - F.length = 0 by omega]
  · rw [List.drop_eq_nil_of_le (by omega), show i + 1 - F.length = (i - F.length) + 1 by omega]
    rfl
theorem tail_at (F : List Int) (i : Nat) : (F.drop i).tail = F.drop (i + 1) := by simp
theorem nth_lo (seed : Int) (F : List Int) (i : Nat) : 0 ≤ nth seed F i := by rw [← nx_at]; exact nx_lo _ _
theorem nth_hi (seed : Int) (F : List Int) (i : Nat) : nth seed F i ≤ 65535 := by rw [← nx_at]; exact nx_hi _ _

/-- two sources with as many first ones tell the same behind them -/
theorem nth_behind (seed : Int) (F H : List Int) (i : Nat) (he : H.length = F.length) (h : F.length ≤ i) : nth seed F i = nth seed H i := by
  unfold nth
  rw [if_neg (by omega), if_neg (by omega), he]
theorem nth_none (seed : Int) (F : List Int) (i : Nat) : nth seed F (F.length + i) = nth seed [] i := by
  unfold nth
  rw [if_neg (by omega), if_neg (by simp)]
  simp
/-- a number with its least bit turned -/
def tw (n : Int) : Int := if n % 2 = 0 then n + 1 else n - 1
theorem md_tw (n : Int) : md n ≠ md (tw n) := by
  unfold md tw
  split <;> omega
theorem tw_lo (n : Int) (h : -9223372036854775808 ≤ n) : -9223372036854775808 ≤ tw n := by unfold tw; split <;> omega
theorem tw_hi (n : Int) (h : n ≤ 9223372036854775807) : tw n ≤ 9223372036854775807 := by unfold tw; split <;> omega
theorem nth_tw (seed : Int) (F : List Int) (i : Nat) (h : i < F.length) : nth seed F i ≠ nth seed (F.map tw) i := by
  unfold nth
  rw [if_pos h, if_pos (by simpa using h)]
  have e : (F.map tw).getD i 0 = tw (F.getD i 0) := by simp [List.getD, List.getElem?_eq_getElem h]
  rw [e]
  exact md_tw _
theorem wakes0 : nth 0 [7, -1] 0 = 7 ∧ nth 0 [7, -1] 1 = 65535 ∧ nth 0 [7, -1] 2 = 5125 := by decide

/-! ### the walks' own words -/
theorem step_eq (x : Int) : (x * 6364136223846793005 % 18446744073709551616 + 1442695040888963407) % 18446744073709551616 = st x := by unfold st; omega
end Go.Proofs.Ytdnhcpkpajbhoaa.Dm
