/-
  Plain arithmetic of packing: widths and numbers, one above the other, make an octet. It imports nothing of the program.
-/
import Derived.Test.YtdnhcpkpajbhoabMath
namespace Go.Proofs.Ytdnhcpkpajbhoab.Bm
open Go.RowKit
set_option linter.unusedVariables false
set_option linter.unusedSimpArgs false

/-- P1.4: may a field be so? -/
def fitsB (w n : Int) : Bool := decide (1 ≤ w ∧ w ≤ 8 ∧ 0 ≤ n ∧ n < 2 ^ w.toNat)
def fitsQ (q : Int × Int) : Bool := fitsB q.1 q.2
theorem fitsB_iff (w n : Int) : fitsB w n = true ↔ 1 ≤ w ∧ w ≤ 8 ∧ 0 ≤ n ∧ n < 2 ^ w.toNat := by simp [fitsB]

/-- the number so far, and how wide it is -/
def step (v : Int × Int) (q : Int × Int) : Int × Int := (v.1 + q.2 * 2 ^ v.2.toNat, v.2 + q.1)
def st (ps : List (Int × Int)) : Int × Int := ps.foldl step (0, 0)
theorem st_take (ps : List (Int × Int)) (i : Nat) (h : i < ps.length) : st (ps.take (i + 1)) = step (st (ps.take i)) (ps.getD i (0, 0)) := by
  rw [List.take_succ_eq_append_getElem h, st, List.foldl_append, List.getD, List.getElem?_eq_getElem h]; rfl

/-- P1.4: the octet, or the error -/
def packRes (ps : List (Int × Int)) : Int × Int := if ps.all fitsQ = false then (0, 2) else if 8 < (st ps).2 then (0, 5) else ((st ps).1, 0)

theorem step_bd (v q : Int × Int) (h0 : 0 ≤ v.1) (h1 : v.1 < 2 ^ v.2.toNat) (h2 : 0 ≤ v.2) (hq : fitsQ q = true) :
    0 ≤ (step v q).1 ∧ (step v q).1 < 2 ^ (step v q).2.toNat ∧ v.2 + 1 ≤ (step v q).2 ∧ (step v q).2 ≤ v.2 + 8 := by
  obtain ⟨a, b, c, d⟩ := (fitsB_iff q.1 q.2).1 hq
  have hp : (0 : Int) < 2 ^ v.2.toNat := Int.pow_pos (by decide)
  have e : (2 : Int) ^ (v.2 + q.1).toNat = 2 ^ v.2.toNat * 2 ^ q.1.toNat := by
    rw [show (v.2 + q.1).toNat = v.2.toNat + q.1.toNat from by omega, Int.pow_add]
  have hm : 0 ≤ q.2 * 2 ^ v.2.toNat := Int.mul_nonneg c (by omega)
  have hm2 : (q.2 + 1) * 2 ^ v.2.toNat ≤ 2 ^ q.1.toNat * 2 ^ v.2.toNat := Int.mul_le_mul_of_nonneg_right (by omega) (by omega)
  rw [Int.add_mul] at hm2
  refine ⟨by simp only [step]; omega, ?_, by simp only [step]; omega, by simp only [step]; omega⟩
  simp only [step]
  rw [e, Int.mul_comm (2 ^ v.2.toNat)]
  omega

theorem st_bd (ps : List (Int × Int)) (h : ∀ q ∈ ps, fitsQ q = true) : ∀ v : Int × Int, 0 ≤ v.1 → v.1 < 2 ^ v.2.toNat → 0 ≤ v.2 →
    0 ≤ (ps.foldl step v).1 ∧ (ps.foldl step v).1 < 2 ^ (ps.foldl step v).2.toNat ∧ v.2 ≤ (ps.foldl step v).2 := by
  induction ps with
  | nil => intro v a b c; exact ⟨a, b, Int.le_refl _⟩
  | cons q ps ih =>
    intro v a b c
    obtain ⟨x, y, z, _⟩ := step_bd v q a b c (h q (by simp))
    have := ih (fun q hq => h q (by simp [hq])) (step v q) x y (by omega)
    exact ⟨this.1, this.2.1, by have := this.2.2; simp only [List.foldl_cons]; omega⟩

theorem st_prefix (ps : List (Int × Int)) (i : Nat) (h : ∀ q ∈ ps.take i, fitsQ q = true) : 0 ≤ (st (ps.take i)).1 ∧ (st (ps.take i)).1 < 2 ^ (st (ps.take i)).2.toNat ∧ 0 ≤ (st (ps.take i)).2 :=
  st_bd _ h (0, 0) (by decide) (by decide) (by decide)
theorem st_mono (ps : List (Int × Int)) (i : Nat) (h : ∀ q ∈ ps, fitsQ q = true) : (st (ps.take i)).2 ≤ (st ps).2 := by
  have h1 := st_prefix ps i (fun q hq => h q (List.mem_of_mem_take hq))
  have h2 := st_bd (ps.drop i) (fun q hq => h q (List.mem_of_mem_drop hq)) (st (ps.take i)) h1.1 h1.2.1 h1.2.2
  have e : (ps.drop i).foldl step (st (ps.take i)) = st ps := by rw [st, ← List.foldl_append, List.take_append_drop]; rfl
  rw [e] at h2
  exact h2.2.2

/-- the number above: or is a sum -/
theorem or_above (v x : Int) (k : Nat) (hk : k ≤ 8) (h0 : 0 ≤ v) (h1 : v < 2 ^ k) (hx0 : 0 ≤ x) (hx1 : x ≤ 255) : bits .or .i64 v (wrap64 (x * 2 ^ k)) = v + x * 2 ^ k := by
  obtain ⟨a, rfl⟩ := Int.eq_ofNat_of_zero_le h0
  obtain ⟨b, rfl⟩ := Int.eq_ofNat_of_zero_le hx0
  have e2 : (2 : Int) ^ k = ((2 ^ k : Nat) : Int) := by simp
  have hle : (2 : Nat) ^ k ≤ 256 := Nat.le_trans (Nat.pow_le_pow_right (by decide) hk) (by decide)
  rw [e2] at h1 ⊢
  have hb : b * 2 ^ k ≤ 255 * 256 := Nat.mul_le_mul (by omega) hle
  have e3 : (b : Int) * ((2 ^ k : Nat) : Int) = ((b * 2 ^ k : Nat) : Int) := by simp
  rw [e3, wrap64_id _ (by omega) (by omega), i64_or_nat a (b * 2 ^ k) (by omega) (by omega), Nat.or_comm, nat_join k (b * 2 ^ k) a (Nat.mul_mod_left _ _) (by omega)]
  omega

theorem all_of (ps : List (Int × Int)) (h : ∀ q ∈ ps, fitsQ q = true) : ps.all fitsQ = true := List.all_eq_true.2 h
theorem bad_at (ps : List (Int × Int)) (i : Nat) (hi : i < ps.length) (h : fitsQ (ps.getD i (0, 0)) = false) : ps.all fitsQ = false := by
  rw [List.all_eq_false]
  refine ⟨ps[i], List.getElem_mem _, ?_⟩
  rw [List.getD, List.getElem?_eq_getElem hi] at h
  simp only [Option.getD_some] at h
  rw [h]; decide
theorem take_all (ps : List (Int × Int)) (i : Nat) (hi : i < ps.length) (h : ∀ q ∈ ps.take i, fitsQ q = true) (hq : fitsQ (ps.getD i (0, 0)) = true) : ∀ q ∈ ps.take (i + 1), fitsQ q = true := by
  intro q hm
  rw [List.take_succ_eq_append_getElem hi, List.mem_append] at hm
  rcases hm with hm | hm
  · exact h q hm
  · simp at hm; subst hm
    rw [List.getD, List.getElem?_eq_getElem hi] at hq
    exact hq
end Go.Proofs.Ytdnhcpkpajbhoab.Bm
