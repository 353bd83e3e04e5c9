/-
  Plain mathematics of control fields: the octets of each kind, what Put and Get answer.
-/
import Derived.Test.YtidemohpngkedabGreatDoorAddrMath
namespace Go.Proofs.YtidemohpngkedabGreatDoor.Cm
open Go.RowKit

/-- the first octets, with no number in them and P/F not set -/
def octs : List Int := [0, 1, 5, 9, 111, 15, 3, 67, 99, 135]
/-- the kinds' names -/
def names : List ByteArray := [⟨#[73]⟩, ⟨#[82, 82]⟩, ⟨#[82, 78, 82]⟩, ⟨#[82, 69, 74]⟩, ⟨#[83, 65, 66, 77, 69]⟩, ⟨#[68, 77]⟩, ⟨#[85, 73]⟩, ⟨#[68, 73, 83, 67]⟩, ⟨#[85, 65]⟩, ⟨#[70, 82, 77, 82]⟩]
def nameAt (n : Nat) : ByteArray := names.getD n ByteArray.empty
abbrev known (k : Int) : Prop := 0 ≤ k ∧ k ≤ 9
/-- is it a kind? -/
def kn (k : Int) : Bool := decide (0 ≤ k ∧ k ≤ 9)
theorem kn_in {k : Int} (h : known k) : kn k = true := by rw [kn, decide_eq_true_eq]; exact h
theorem kn_out {k : Int} (h : ¬ known k) : kn k = false := by rw [kn, decide_eq_false_iff_not]; exact h
def nameOf (k : Int) : ByteArray := if known k then nameAt k.toNat else ByteArray.empty
/-- P5.1: has the kind two octets? -/
def numd (k : Int) : Bool := decide (0 ≤ k ∧ k ≤ 3)

/-- the first octet of a kind, P/F counted where it has but one octet -/
def foct (n : Nat) (pf : Bool) : Int := octs.getD n 0 + (if pf = true ∧ 4 ≤ n then 16 else 0)

/-- what Put answers -/
def putRes (k : Int) (pf : Bool) (ns nr : Int) : ByteArray × Int :=
  if ¬ known k then (ByteArray.empty, 4)
  else if 4 ≤ k then (strOfNums [foct k.toNat pf], 0)
  else if k = 0 ∧ ¬ (0 ≤ ns ∧ ns ≤ 127) then (ByteArray.empty, 2)
  else if ¬ (0 ≤ nr ∧ nr ≤ 127) then (ByteArray.empty, 2)
  else (strOfNums [if k = 0 then 2 * ns else foct k.toNat false, 2 * nr + Am.crN pf], 0)

/-- the kind that an odd octet begins, looked for from kind k on, m of them -/
def begFrom (x : Int) : Nat → Nat → Option (Nat × Bool)
  | 0, _ => none
  | m + 1, k => if x = foct k false then some (k, false) else if x = foct k true then some (k, true) else begFrom x m (k + 1)
/-- the kind, P/F and N(S) that an octet begins -/
def beg (x : Int) : Option (Int × Bool × Int) :=
  if x % 2 = 0 then some (0, false, x / 2) else (begFrom x 9 1).map fun q => ((q.1 : Int), q.2, (0 : Int))

/-- what Get answers: the kind, P/F, N(S), N(R); how many octets; the error -/
def getN : List Int → (Int × Bool × Int × Int) × Int × Int
  | [] => ((0, false, 0, 0), 0, 3)
  | x :: r =>
    match beg x with
    | none => ((0, false, 0, 0), 0, 4)
    | some (k, pf, ns) =>
      if 4 ≤ k then ((k, pf, 0, 0), 1, 0)
      else match r with
        | [] => ((0, false, 0, 0), 0, 3)
        | y :: _ => ((k, y % 2 == 1, ns, y / 2), 2, 0)
def getRes (s : ByteArray) : (Int × Bool × Int × Int) × Int × Int := getN (Bm.nums s)

/-- what Pack makes of a number with one bit below it -/
theorem pack_low (low n : Int) (hl : 0 ≤ low ∧ low ≤ 1) : Bm.packRes [(1, low), (7, n)] = if 0 ≤ n ∧ n ≤ 127 then (2 * n + low, 0) else (0, 2) := by
  have h1 : Bm.fitsB 1 low = true := by rw [Bm.fitsB_iff, show (2 : Int) ^ (1 : Int).toNat = 2 from by decide]; omega
  have p7 : (2 : Int) ^ (7 : Int).toNat = 128 := by decide
  have p1 : (2 : Int) ^ ((0 : Int) + 1).toNat = 2 := by decide
  have p0 : (2 : Int) ^ (0 : Int).toNat = 1 := by decide
  have hs : Bm.st [(1, low), (7, n)] = (2 * n + low, 8) := by
    simp only [Bm.st, Bm.step, List.foldl, p0, p1]
    simp only [Prod.mk.injEq]
    omega
  by_cases h : 0 ≤ n ∧ n ≤ 127
  · have h3 : Bm.fitsB 7 n = true := by rw [Bm.fitsB_iff, p7]; omega
    rw [if_pos h, Bm.packRes, if_neg (by simp [Bm.fitsQ, h1, h3]), hs]
    simp
  · have h3 : Bm.fitsB 7 n = false := by
      rw [← Bool.not_eq_true, Bm.fitsB_iff, p7]; omega
    rw [if_neg h, Bm.packRes, if_pos (by simp [Bm.fitsQ, h1, h3])]

/-- a number with one bit below it, or the error -/
def no (low n : Int) : Int × Int := if 0 ≤ n ∧ n ≤ 127 then (2 * n + low, 0) else (0, 2)
theorem no_in (low n : Int) (h : 0 ≤ n ∧ n ≤ 127) : no low n = (2 * n + low, 0) := by rw [no, if_pos h]
theorem no_out (low n : Int) (h : ¬ (0 ≤ n ∧ n ≤ 127)) : no low n = (0, 2) := by rw [no, if_neg h]
theorem put_none (k : Int) (pf : Bool) (ns nr : Int) (h : ¬ known k) : putRes k pf ns nr = (ByteArray.empty, 4) := by rw [putRes, if_pos h]
theorem put_high (n : Nat) (pf : Bool) (ns nr : Int) (h : n < 10) (h4 : 4 ≤ n) : putRes (n : Int) pf ns nr = (strOfNums [foct n pf], 0) := by
  rw [putRes, if_neg (by have : known (n : Int) := ⟨by omega, by omega⟩; exact fun h => h this), if_pos (by omega), Int.toNat_natCast]
theorem put_badns (pf : Bool) (ns nr : Int) (h : ¬ (0 ≤ ns ∧ ns ≤ 127)) : putRes 0 pf ns nr = (ByteArray.empty, 2) := by
  rw [putRes, if_neg (by decide), if_neg (by decide), if_pos ⟨rfl, h⟩]
theorem put_badnr (n : Nat) (pf : Bool) (ns nr : Int) (h4 : n < 4) (h : ¬ (0 ≤ nr ∧ nr ≤ 127)) : putRes (n : Int) pf ns nr = (ByteArray.empty, 2) := by
  rw [putRes, if_neg (by have : known (n : Int) := ⟨by omega, by omega⟩; exact fun h => h this), if_neg (by omega)]
  split <;> first | rfl | rw [if_pos h]
theorem put_i (pf : Bool) (ns nr : Int) (h : 0 ≤ ns ∧ ns ≤ 127) (h2 : 0 ≤ nr ∧ nr ≤ 127) : putRes 0 pf ns nr = (strOfNums [2 * ns, 2 * nr + Am.crN pf], 0) := by
  rw [putRes, if_neg (by decide), if_neg (by decide), if_neg (fun x => x.2 h), if_neg (fun x => x h2)]; rfl
theorem put_s (n : Nat) (pf : Bool) (ns nr : Int) (h0 : 0 < n) (h4 : n < 4) (h2 : 0 ≤ nr ∧ nr ≤ 127) : putRes (n : Int) pf ns nr = (strOfNums [foct n false, 2 * nr + Am.crN pf], 0) := by
  rw [putRes, if_neg (by have : known (n : Int) := ⟨by omega, by omega⟩; exact fun h => h this), if_neg (by omega), if_neg (by omega), if_neg (fun x => x h2), if_neg (by omega), Int.toNat_natCast]

theorem foct_false (n : Nat) : foct n false = octs.getD n 0 := by simp [foct]
theorem foct_low (n : Nat) (h : n < 4) (pf : Bool) : foct n pf = octs.getD n 0 := by rw [foct, if_neg (by omega)]; simp
theorem foct_high (n : Nat) (h : 4 ≤ n) : foct n true = octs.getD n 0 + 16 := by rw [foct, if_pos ⟨rfl, h⟩]
theorem octs_bd (n : Nat) : 0 ≤ octs.getD n 0 ∧ octs.getD n 0 ≤ 135 := by
  rcases Nat.lt_or_ge n 10 with h | h
  · have : ∀ n < 10, 0 ≤ octs.getD n 0 ∧ octs.getD n 0 ≤ 135 := by decide
    exact this n h
  · rw [List.getD, List.getElem?_eq_none (by simpa [octs] using h)]; decide
theorem foct_bd (n : Nat) (pf : Bool) : 0 ≤ foct n pf ∧ foct n pf ≤ 151 := by
  have := octs_bd n
  rw [foct]; split <;> omega

theorem beg_even (x : Int) (h : x % 2 = 0) : beg x = some (0, false, x / 2) := by rw [beg, if_pos h]
theorem beg_odd (x : Int) (h : x % 2 ≠ 0) : beg x = (begFrom x 9 1).map fun q => ((q.1 : Int), q.2, (0 : Int)) := by rw [beg, if_neg h]
theorem begFrom_hit (x : Int) (m k : Nat) (h : x = foct k false) : begFrom x (m + 1) k = some (k, false) := by rw [begFrom, if_pos h]
theorem begFrom_hit2 (x : Int) (m k : Nat) (h : x ≠ foct k false) (h2 : x = foct k true) : begFrom x (m + 1) k = some (k, true) := by rw [begFrom, if_neg h, if_pos h2]
theorem begFrom_miss (x : Int) (m k : Nat) (h : x ≠ foct k false) (h2 : x ≠ foct k true) : begFrom x (m + 1) k = begFrom x m (k + 1) := by rw [begFrom, if_neg h, if_neg h2]
theorem begFrom_bd (x : Int) : ∀ (m k n : Nat) (pf : Bool), begFrom x m k = some (n, pf) → k ≤ n ∧ n < k + m ∧ x = foct n pf
  | 0, _, _, _, h => by simp [begFrom] at h
  | m + 1, k, n, pf, h => by
    rw [begFrom] at h
    split at h
    · rename_i hx
      simp only [Option.some.injEq, Prod.mk.injEq] at h
      obtain ⟨rfl, rfl⟩ := h
      exact ⟨Nat.le_refl _, by omega, hx⟩
    · split at h
      · rename_i hx
        simp only [Option.some.injEq, Prod.mk.injEq] at h
        obtain ⟨rfl, rfl⟩ := h
        exact ⟨Nat.le_refl _, by omega, hx⟩
      · have := begFrom_bd x m (k + 1) n pf h
        exact ⟨by omega, by omega, this.2.2⟩
theorem foct_odd (n : Nat) (pf : Bool) (h1 : 1 ≤ n) (h : n < 10) : foct n pf % 2 = 1 := by
  have : ∀ n < 10, 1 ≤ n → ∀ pf, foct n pf % 2 = 1 := by decide
  exact this n h h1 pf
/-- what an octet begins -/
theorem beg_some {x k ns : Int} {pf : Bool} (h : beg x = some (k, pf, ns)) :
    ∃ n : Nat, k = (n : Int) ∧ n < 10 ∧ ((n = 0 ∧ pf = false ∧ ns = x / 2 ∧ x % 2 = 0) ∨ (1 ≤ n ∧ ns = 0 ∧ x = foct n pf ∧ x % 2 = 1)) := by
  by_cases hx : x % 2 = 0
  · rw [beg_even x hx] at h
    simp only [Option.some.injEq, Prod.mk.injEq] at h
    obtain ⟨rfl, rfl, rfl⟩ := h
    exact ⟨0, rfl, by decide, Or.inl ⟨rfl, rfl, rfl, hx⟩⟩
  · rw [beg_odd x hx] at h
    obtain ⟨⟨n, q⟩, hq, he⟩ := Option.map_eq_some_iff.1 h
    simp only [Prod.mk.injEq] at he
    obtain ⟨rfl, rfl, rfl⟩ := he
    obtain ⟨h1, h2, h3⟩ := begFrom_bd x 9 1 n q hq
    exact ⟨n, rfl, by omega, Or.inr ⟨h1, rfl, h3, by omega⟩⟩

theorem getN_nil : getN [] = ((0, false, 0, 0), 0, 3) := rfl
theorem getN_none {x : Int} (r : List Int) (h : beg x = none) : getN (x :: r) = ((0, false, 0, 0), 0, 4) := by rw [getN, h]
theorem getN_one {x k ns : Int} {pf : Bool} (r : List Int) (h : beg x = some (k, pf, ns)) (h4 : 4 ≤ k) : getN (x :: r) = ((k, pf, 0, 0), 1, 0) := by rw [getN, h]; simp [h4]
theorem getN_short {x k ns : Int} {pf : Bool} (h : beg x = some (k, pf, ns)) (h4 : k < 4) : getN [x] = ((0, false, 0, 0), 0, 3) := by rw [getN, h]; simp [show ¬ 4 ≤ k from by omega]
theorem getN_two {x k ns : Int} {pf : Bool} (y : Int) (r : List Int) (h : beg x = some (k, pf, ns)) (h4 : k < 4) : getN (x :: y :: r) = ((k, y % 2 == 1, ns, y / 2), 2, 0) := by rw [getN, h]; simp [show ¬ 4 ≤ k from by omega]
theorem nums_one (s : ByteArray) (h : 0 < s.size) : ∃ r, Bm.nums s = (s[0].toNat : Int) :: r ∧ (s.size < 2 → r = []) := by
  have hl := Bm.nums_length s
  match hn : Bm.nums s with
  | [] => rw [hn] at hl; simp at hl; omega
  | x :: r =>
    have e := Bm.nums_get s 0 h
    simp only [hn] at e
    refine ⟨r, by rw [← e]; rfl, fun h2 => ?_⟩
    rw [hn] at hl
    exact List.eq_nil_of_length_eq_zero (by simp at hl; omega)
theorem nums_two (s : ByteArray) (h : 1 < s.size) : ∃ r, Bm.nums s = (s[0].toNat : Int) :: (s[1].toNat : Int) :: r := by
  have hl := Bm.nums_length s
  match hn : Bm.nums s with
  | [] => rw [hn] at hl; simp at hl; omega
  | [_] => rw [hn] at hl; simp at hl; omega
  | x :: y :: r =>
    have e := Bm.nums_get s 0 (by omega)
    have e1 := Bm.nums_get s 1 h
    simp only [hn] at e e1
    exact ⟨r, by rw [← e, ← e1]; rfl⟩
end Go.Proofs.YtidemohpngkedabGreatDoor.Cm
