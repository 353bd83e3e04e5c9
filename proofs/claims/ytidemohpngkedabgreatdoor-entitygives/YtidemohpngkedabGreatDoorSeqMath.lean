/-
  Plain arithmetic modulo 128: what the walks of layer 8 come to. It imports nothing of the program.
-/
import Derived.RowKit
namespace Go.Proofs.YtidemohpngkedabGreatDoor.Sm
open Go.RowKit
set_option linter.unusedVariables false
set_option linter.unusedSimpArgs false

/-- P8.1: a number modulo 128 -/
def nm (n : Int) : Int := n % 128
def ad (a n : Int) : Int := (a + n) % 128
def sb (a b : Int) : Int := (a - b) % 128
/-- P8.2 -/
def vd (va nr vs : Int) : Bool := decide (sb nr va ≤ sb vs va)
def rm (va vs k : Int) : Int := max (min (max k 1) 127 - sb vs va) 0

theorem nm_lo (n : Int) : 0 ≤ nm n := by unfold nm; omega
theorem nm_hi (n : Int) : nm n ≤ 127 := by unfold nm; omega
theorem ad_lo (a n : Int) : 0 ≤ ad a n := by unfold ad; omega
theorem ad_hi (a n : Int) : ad a n ≤ 127 := by unfold ad; omega
theorem sb_lo (a b : Int) : 0 ≤ sb a b := by unfold sb; omega
theorem sb_hi (a b : Int) : sb a b ≤ 127 := by unfold sb; omega

/-- the least number that is not below 0, out of Go's rest -/
theorem tmod_cases (n : Int) : (0 ≤ n.tmod 128 ∧ n.tmod 128 = n % 128) ∨ (0 < n % 128 ∧ n.tmod 128 = n % 128 - 128) := by
  rcases Int.le_total 0 n with h | h
  · have e := Int.tmod_eq_emod_of_nonneg (b := 128) h
    exact Or.inl ⟨by omega, e⟩
  · have e : n.tmod 128 = -((-n) % 128) := by
      have h1 := Int.neg_tmod (a := -n) (b := 128)
      rw [Int.neg_neg] at h1
      rw [h1, Int.tmod_eq_emod_of_nonneg (by omega)]
    by_cases h0 : n % 128 = 0
    · exact Or.inl ⟨by omega, by omega⟩
    · exact Or.inr ⟨by omega, by omega⟩
theorem tmod_lo (n : Int) : -127 ≤ n.tmod 128 := by rcases tmod_cases n with ⟨_, h⟩ | ⟨h0, h⟩ <;> rw [h] <;> omega
theorem tmod_hi (n : Int) : n.tmod 128 ≤ 127 := by rcases tmod_cases n with ⟨_, h⟩ | ⟨h0, h⟩ <;> rw [h] <;> omega
theorem modulo (n : Int) : (n.tmod 128 + 128) % 128 = nm n := by
  unfold nm
  rcases tmod_cases n with ⟨_, h⟩ | ⟨_, h⟩ <;> rw [h] <;> omega

theorem ad_eq (a n : Int) : nm (nm a + nm n) = ad a n := by unfold nm ad; omega
theorem sb_eq (a b : Int) : nm (nm a - nm b) = sb a b := by unfold nm sb; omega

/-! ### the document's way: by counting -/
theorem nm_neg (n : Int) (h : n.tmod 128 < 0) : n.tmod 128 + 128 = nm n := by
  unfold nm
  rcases tmod_cases n with ⟨_, h⟩ | ⟨_, h⟩ <;> omega
theorem nm_pos (n : Int) (h : ¬ n.tmod 128 < 0) : n.tmod 128 = nm n := by
  unfold nm
  rcases tmod_cases n with ⟨_, h⟩ | ⟨_, h⟩ <;> omega
theorem ad_nm (a n : Int) : ad a (nm n) = ad a n := by unfold ad nm; omega
theorem ad_zero (a : Int) : nm a = ad a 0 := by unfold ad nm; omega
theorem ad_wrap (a : Int) (i : Nat) (h : ad a i = 127) : ad a ((i + 1 : Nat) : Int) = 0 := by unfold ad at *; omega
theorem ad_step (a : Int) (i : Nat) (h : ¬ ad a i = 127) : ad a ((i + 1 : Nat) : Int) = ad a i + 1 := by unfold ad at *; omega
theorem sb_on (a b : Int) (i : Nat) (h : (i : Int) < sb a b) : (ad b i != nm a) = true := by
  have : ¬ ad b i = nm a := by unfold ad nm sb at *; omega
  simpa using this
theorem sb_end (a b : Int) : (ad b (sb a b) != nm a) = false := by
  have : ad b (sb a b) = nm a := by unfold ad nm sb; omega
  simpa using this

/-- the numbers on the way from va on: which of them r is -/
theorem at_way (va r : Int) (i : Nat) (h : (i : Int) ≤ 127) : (ad va i == nm r) = decide ((i : Int) = sb r va) := by
  have : ad va i = nm r ↔ (i : Int) = sb r va := by unfold ad nm sb; omega
  rw [Bool.eq_iff_iff]
  simpa using this
theorem ad_one (va : Int) (i : Nat) : ad (ad va i) 1 = ad va ((i + 1 : Nat) : Int) := by unfold ad; omega
theorem rm_eq (va vs k : Int) : rm va vs k = if min (max k 1) 127 < sb vs va then 0 else min (max k 1) 127 - sb vs va := by
  unfold rm
  split <;> omega

/-! ### the ring -/
theorem sb_ad (a b : Int) : sb (ad a b) b = nm a := by unfold sb ad nm; omega
theorem ad_sb (a b : Int) : ad (sb a b) b = nm a := by unfold sb ad nm; omega
theorem ad_assoc (a b c : Int) : ad (ad a b) c = ad a (ad b c) := by unfold ad; omega
theorem ad_comm (a b : Int) : ad a b = ad b a := by unfold ad; omega

/-- how many of the first i numbers may come -/
def cnt (a b : Int) : Nat → Nat
  | 0 => 0
  | i + 1 => cnt a b i + (if vd a i b then 1 else 0)
theorem cnt_le (a b : Int) (i : Nat) : cnt a b i ≤ i := by
  induction i with
  | zero => exact Nat.le_refl _
  | succ i ih => unfold cnt; split <;> omega
/-- the same, of numbers as they lie from 0 on: those from nm a up to 127 that are at most d away, and those that come behind 127 -/
theorem cnt_eq (a b : Int) (i : Nat) (h : i ≤ 128) :
    (cnt a b i : Int) = max 0 (min (i : Int) (nm a + sb b a + 1) - nm a) + min (i : Int) (max 0 (nm a + sb b a + 1 - 128)) := by
  induction i with
  | zero =>
    show (0 : Int) = _
    have := sb_lo b a; have := sb_hi b a; have := nm_lo a; have := nm_hi a
    omega
  | succ i ih =>
    have e := ih (by omega)
    have h1 := sb_lo b a; have h2 := sb_hi b a; have h3 := nm_lo a; have h4 := nm_hi a
    have hv : vd a i b = decide (((i : Int) - nm a) % 128 ≤ sb b a) := by
      unfold vd
      have : sb i a = ((i : Int) - nm a) % 128 := by unfold sb nm; omega
      rw [this]
    unfold cnt
    rw [hv]
    generalize sb b a = d at *
    generalize nm a = x at *
    by_cases hd : ((i : Int) - x) % 128 ≤ d
    · rw [if_pos (by simpa using hd)]
      omega
    · rw [if_neg (by simpa using hd)]
      omega
theorem cnt_all (a b : Int) : (cnt a b 128 : Int) = sb b a + 1 := by
  rw [cnt_eq a b 128 (Nat.le_refl _)]
  have h1 := sb_lo b a; have h2 := sb_hi b a; have h3 := nm_lo a; have h4 := nm_hi a
  omega

/-! ### all turned by as many -/
theorem sb_turned (a b n : Int) : sb (ad a n) (ad b n) = sb a b := by unfold sb ad; omega
theorem vd_turned (a b c n : Int) : vd (ad a n) (ad b n) (ad c n) = vd a b c := by unfold vd; rw [sb_turned, sb_turned]
theorem rm_turned (a b c n : Int) : rm (ad a n) (ad b n) c = rm a b c := by unfold rm; rw [sb_turned]

/-! ### one by one -/
theorem ad_next (a : Int) (i : Nat) : ad (ad a i) 1 = ad a ((i + 1 : Nat) : Int) := by unfold ad; omega
theorem sb_self (a : Int) : sb (nm a) a = 0 := by unfold sb nm; omega
theorem sb_way (a : Int) (n : Nat) : sb (ad a n) a = (n : Int) % 128 := by unfold sb ad; omega
end Go.Proofs.YtidemohpngkedabGreatDoor.Sm
