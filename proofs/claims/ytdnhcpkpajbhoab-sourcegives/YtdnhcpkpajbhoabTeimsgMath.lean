/-
  Plain mathematics of the messages of TEI management: their five octets, what Put and Get answer, and that they are read back.
-/
import Derived.Test.YtdnhcpkpajbhoabAddrMath
namespace Go.Proofs.Ytdnhcpkpajbhoab.Tm
open Go.RowKit

/-- which types there are -/
abbrev known (t : Int) : Prop := 1 ≤ t ∧ t ≤ 7
def kn (t : Int) : Bool := decide (known t)
theorem kn_in {t : Int} (h : known t) : kn t = true := by rw [kn, decide_eq_true_eq]; exact h
theorem kn_out {t : Int} (h : ¬ known t) : kn t = false := by rw [kn, decide_eq_false_iff_not]; exact h
/-- does the network send it? -/
def net (t : Int) : Bool := decide (t = 2 ∨ t = 3 ∨ t = 4 ∨ t = 6)
theorem net_in {t : Int} (h : t = 2 ∨ t = 3 ∨ t = 4 ∨ t = 6) : net t = true := by rw [net, decide_eq_true_eq]; exact h
theorem net_out {t : Int} (h : ¬ (t = 2 ∨ t = 3 ∨ t = 4 ∨ t = 6)) : net t = false := by rw [net, decide_eq_false_iff_not]; exact h

abbrev fits (ri ai : Int) : Prop := (0 ≤ ri ∧ ri ≤ 65535) ∧ (0 ≤ ai ∧ ai ≤ 127)
def octs5 (t ri ai : Int) : List Int := [15, ri / 256, ri % 256, t, 2 * ai + 1]
/-- what Put answers -/
def putRes (t ri ai : Int) : ByteArray × Int := if ¬ known t then (ByteArray.empty, 4) else if fits ri ai then (strOfNums (octs5 t ri ai), 0) else (ByteArray.empty, 2)
theorem put_none {t : Int} (ri ai : Int) (h : ¬ known t) : putRes t ri ai = (ByteArray.empty, 4) := by rw [putRes, if_pos h]
theorem put_bad {t ri ai : Int} (h : known t) (h2 : ¬ fits ri ai) : putRes t ri ai = (ByteArray.empty, 2) := by rw [putRes, if_neg (fun n => n h), if_neg h2]
theorem put_good {t ri ai : Int} (h : known t) (h2 : fits ri ai) : putRes t ri ai = (strOfNums (octs5 t ri ai), 0) := by rw [putRes, if_neg (fun n => n h), if_pos h2]
theorem put_ok {t ri ai : Int} (h : (putRes t ri ai).2 = 0) : known t ∧ fits ri ai ∧ putRes t ri ai = (strOfNums (octs5 t ri ai), 0) := by
  by_cases h1 : known t
  · by_cases h2 : fits ri ai
    · exact ⟨h1, h2, put_good h1 h2⟩
    · rw [put_bad h1 h2] at h; exact absurd h (by decide)
  · rw [put_none ri ai h1] at h; exact absurd h (by decide)
theorem put_err {t ri ai : Int} (h : (putRes t ri ai).2 ≠ 0) : (putRes t ri ai).1 = ByteArray.empty := by
  by_cases h1 : known t
  · by_cases h2 : fits ri ai
    · rw [put_good h1 h2] at h; exact absurd rfl h
    · rw [put_bad h1 h2]
  · rw [put_none ri ai h1]
theorem put_size (t ri ai : Int) : (putRes t ri ai).1.size ≤ 5 := by
  by_cases h1 : known t
  · by_cases h2 : fits ri ai
    · rw [put_good h1 h2, strOfNums_size]; exact Nat.le_refl _
    · rw [put_bad h1 h2]; decide
  · rw [put_none ri ai h1]; decide
theorem put_five {t ri ai : Int} (h : (putRes t ri ai).2 = 0) : (putRes t ri ai).1.size = 5 := by
  rw [(put_ok h).2.2, strOfNums_size]; rfl

/-- what Get answers: type, Ri, Ai; the error -/
def getN (l : List Int) : (Int × Int × Int) × Int :=
  if l.length < 5 then ((0, 0, 0), 3)
  else if 5 < l.length then ((0, 0, 0), 5)
  else if l.getD 0 0 ≠ 15 ∨ ¬ known (l.getD 3 0) ∨ l.getD 4 0 % 2 ≠ 1 then ((0, 0, 0), 4)
  else ((l.getD 3 0, 256 * l.getD 1 0 + l.getD 2 0, l.getD 4 0 / 2), 0)
def getRes (s : ByteArray) : (Int × Int × Int) × Int := getN (Bm.nums s)

theorem octs5_range {t ri ai : Int} (h : known t) (h2 : fits ri ai) : ∀ n ∈ octs5 t ri ai, 0 ≤ n ∧ n ≤ 255 := by
  obtain ⟨h1, h1'⟩ := h
  obtain ⟨⟨h3, h4⟩, h5, h6⟩ := h2
  intro n hn
  simp only [octs5, List.mem_cons, List.not_mem_nil, or_false] at hn
  rcases hn with rfl | rfl | rfl | rfl | rfl <;> omega

theorem get_back {t ri ai : Int} (h : (putRes t ri ai).2 = 0) : getRes (putRes t ri ai).1 = ((t, ri, ai), 0) := by
  obtain ⟨h1, h2, h3⟩ := put_ok h
  rw [h3, getRes, Bm.nums_str _ (octs5_range h1 h2)]
  have e0 : (octs5 t ri ai).getD 0 0 = 15 := rfl
  have e1 : (octs5 t ri ai).getD 1 0 = ri / 256 := rfl
  have e2 : (octs5 t ri ai).getD 2 0 = ri % 256 := rfl
  have e3 : (octs5 t ri ai).getD 3 0 = t := rfl
  have e4 : (octs5 t ri ai).getD 4 0 = 2 * ai + 1 := rfl
  have hl : (octs5 t ri ai).length = 5 := rfl
  rw [getN, hl, if_neg (by decide), if_neg (by decide), e0, e1, e2, e3, e4, if_neg (by rintro (h | h | h) <;> first | exact h rfl | exact h h1 | omega), show 256 * (ri / 256) + ri % 256 = ri from by omega, show (2 * ai + 1) / 2 = ai from by omega]

theorem get_short (s : ByteArray) (h : s.size < 5) : getRes s = ((0, 0, 0), 3) := by
  rw [getRes, getN, if_pos (by rw [Bm.nums_length]; exact h)]
theorem get_long (s : ByteArray) (h : 5 < s.size) : getRes s = ((0, 0, 0), 5) := by
  rw [getRes, getN, if_neg (by rw [Bm.nums_length]; omega), if_pos (by rw [Bm.nums_length]; exact h)]
theorem nums_at (s : ByteArray) (i : Nat) (h : i < s.size) : (Bm.nums s).getD i 0 = (s[i].toNat : Int) := by
  rw [List.getD, List.getElem?_eq_getElem (by rw [Bm.nums_length]; exact h), Bm.nums_get s i h]; rfl
theorem get_at (s : ByteArray) (h : s.size = 5) : getRes s =
    if (s[0].toNat : Int) ≠ 15 ∨ ¬ known (s[3].toNat : Int) ∨ (s[4].toNat : Int) % 2 ≠ 1 then (((0 : Int), (0 : Int), (0 : Int)), (4 : Int))
    else (((s[3].toNat : Int), (256 : Int) * (s[1].toNat : Int) + (s[2].toNat : Int), (s[4].toNat : Int) / 2), (0 : Int)) := by
  rw [getRes, getN, if_neg (by rw [Bm.nums_length]; omega), if_neg (by rw [Bm.nums_length]; omega), nums_at s 0 (by omega), nums_at s 1 (by omega), nums_at s 2 (by omega), nums_at s 3 (by omega), nums_at s 4 (by omega)]

theorem get_err {s : ByteArray} (h : (getRes s).2 ≠ 0) : (getRes s).1 = (0, 0, 0) := by
  unfold getRes at h ⊢
  unfold getN at h ⊢
  split
  · rfl
  · split
    · rfl
    · split
      · rfl
      · rename_i h1 h2 h3
        rw [if_neg h1, if_neg h2, if_neg h3] at h
        exact absurd rfl h
theorem get_known {s : ByteArray} (h : (getRes s).2 = 0) : known (getRes s).1.1 := by
  unfold getRes at h ⊢
  unfold getN at h ⊢
  by_cases h1 : (Bm.nums s).length < 5
  · rw [if_pos h1] at h; exact absurd h (by decide)
  · rw [if_neg h1] at h ⊢
    by_cases h2 : 5 < (Bm.nums s).length
    · rw [if_pos h2] at h; exact absurd h (by decide)
    · rw [if_neg h2] at h ⊢
      by_cases h3 : (Bm.nums s).getD 0 0 ≠ 15 ∨ ¬ known ((Bm.nums s).getD 3 0) ∨ (Bm.nums s).getD 4 0 % 2 ≠ 1
      · rw [if_pos h3] at h; exact absurd h (by decide)
      · rw [if_neg h3]
        exact Classical.byContradiction fun hk => h3 (Or.inr (Or.inl hk))

/-- which message a frame has -/
abbrev isMsg (sapi tei : Int) (c : Bool) (k : Int) : Prop := sapi = 63 ∧ tei = 127 ∧ k = 6 ∧ c = true
def ofRes (sapi tei : Int) (c : Bool) (k : Int) (info : ByteArray) (network : Bool) : (Int × Int × Int) × Bool :=
  if isMsg sapi tei c k ∧ (getRes info).2 = 0 ∧ net (getRes info).1.1 = network then ((getRes info).1, true) else ((0, 0, 0), false)
theorem of_in {sapi tei : Int} {c : Bool} {k : Int} {info : ByteArray} {network : Bool} (h : isMsg sapi tei c k) (h2 : (getRes info).2 = 0) (h3 : net (getRes info).1.1 = network) : ofRes sapi tei c k info network = ((getRes info).1, true) := by
  rw [ofRes, if_pos ⟨h, h2, h3⟩]
theorem of_out {sapi tei : Int} {c : Bool} {k : Int} {info : ByteArray} {network : Bool} (h : ¬ (isMsg sapi tei c k ∧ (getRes info).2 = 0 ∧ net (getRes info).1.1 = network)) : ofRes sapi tei c k info network = ((0, 0, 0), false) := by
  rw [ofRes, if_neg h]

/-- two octets, the higher one first -/
theorem or_join (x y : Int) (hx0 : 0 ≤ x) (hx1 : x ≤ 255) (hy0 : 0 ≤ y) (hy1 : y ≤ 255) : bits .or .i64 (x * 256) y = 256 * x + y := by
  obtain ⟨a, rfl⟩ := Int.eq_ofNat_of_zero_le hx0
  obtain ⟨b, rfl⟩ := Int.eq_ofNat_of_zero_le hy0
  rw [show ((a : Int) * 256) = ((a * 2 ^ 8 : Nat) : Int) from by simp, Bm.i64_or_nat (a * 2 ^ 8) b (by omega) (by omega), nat_join 8 (a * 2 ^ 8) b (Nat.mul_mod_left _ _) (by omega)]
  omega
theorem or_wrap (x y : Int) (hx0 : 0 ≤ x) (hx1 : x ≤ 255) (hy0 : 0 ≤ y) (hy1 : y ≤ 255) : bits .or .i64 (IntKind.i64.wrap (IntKind.i64.wrap x * 256)) (IntKind.i64.wrap y) = 256 * x + y := by
  have e1 : IntKind.i64.wrap x = x := by
    obtain ⟨a, rfl⟩ := Int.eq_ofNat_of_zero_le hx0
    exact Bm.wrap_i64_nat a (by omega)
  have e2 : IntKind.i64.wrap y = y := by
    obtain ⟨a, rfl⟩ := Int.eq_ofNat_of_zero_le hy0
    exact Bm.wrap_i64_nat a (by omega)
  have e3 : IntKind.i64.wrap (x * 256) = x * 256 := by
    obtain ⟨a, rfl⟩ := Int.eq_ofNat_of_zero_le hx0
    rw [show ((a : Int) * 256) = ((a * 256 : Nat) : Int) from by simp]
    exact Bm.wrap_i64_nat _ (by omega)
  rw [e1, e2, e3, or_join x y hx0 hx1 hy0 hy1]
end Go.Proofs.Ytdnhcpkpajbhoab.Tm
