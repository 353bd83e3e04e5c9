/-
  Plain mathematics of layer 12: which of 63 places are taken (f), and the place from which one goes on (nx). It names nothing of the program.
-/
import Derived.Test.YtdnhcpkpajbhoabMath
namespace Pm
set_option linter.unusedVariables false
set_option linter.unusedSimpArgs false

def upd (f : Nat → Bool) (p : Nat) (b : Bool) : Nat → Bool := fun i => if i = p then b else f i
theorem upd_same (f : Nat → Bool) (p : Nat) (b : Bool) : upd f p b p = b := by simp [upd]
theorem upd_other (f : Nat → Bool) (p : Nat) (b : Bool) {i : Nat} (h : i ≠ p) : upd f p b i = f i := by simp [upd, h]
theorem upd_id {f : Nat → Bool} {p : Nat} {b : Bool} (h : f p = b) : upd f p b = f := by
  funext i
  by_cases e : i = p
  · rw [e, upd_same, h]
  · rw [upd_other f p b e]

/-- in which round, from nx on, a free place is met first -/
def fd (f : Nat → Bool) (nx : Nat) : Option Nat := (List.range 63).find? (fun i => !f ((nx + i) % 63))
theorem fd_none {f : Nat → Bool} {nx : Nat} (h : fd f nx = none) : ∀ i, i < 63 → f ((nx + i) % 63) = true := by
  intro i hi
  have := List.find?_eq_none.1 h i (by simpa using hi)
  simpa using this
theorem all_of {f : Nat → Bool} {nx : Nat} (hn : nx < 63) (h : ∀ i, i < 63 → f ((nx + i) % 63) = true) : ∀ p, p < 63 → f p = true := by
  intro p hp
  have := h ((p + 63 - nx) % 63) (by omega)
  rwa [show (nx + (p + 63 - nx) % 63) % 63 = p by omega] at this
theorem fd_some {f : Nat → Bool} {nx k : Nat} (h : fd f nx = some k) : k < 63 ∧ f ((nx + k) % 63) = false ∧ ∀ j, j < k → f ((nx + j) % 63) = true := by
  have h1 := List.find?_range_eq_some.1 h
  obtain ⟨h2, h3, h4⟩ := h1
  refine ⟨by simpa using h3, by simpa using h2, fun j hj => ?_⟩
  have := h4 j hj
  simpa using this

def asT (f : Nat → Bool) (nx : Nat) : Int := match fd f nx with | none => 0 | some k => 64 + (((nx + k) % 63 : Nat) : Int)
def asE (f : Nat → Bool) (nx : Nat) : Int := match fd f nx with | none => 10 | some _ => 0
def asF (f : Nat → Bool) (nx : Nat) : Nat → Bool := match fd f nx with | none => f | some k => upd f ((nx + k) % 63) true
def asX (f : Nat → Bool) (nx : Nat) : Nat := match fd f nx with | none => nx | some k => ((nx + k) % 63 + 1) % 63
theorem as_none {f : Nat → Bool} {nx : Nat} (h : fd f nx = none) : asT f nx = 0 ∧ asE f nx = 10 ∧ asF f nx = f ∧ asX f nx = nx := by simp [asT, asE, asF, asX, h]
theorem as_some {f : Nat → Bool} {nx k : Nat} (h : fd f nx = some k) : asT f nx = 64 + (((nx + k) % 63 : Nat) : Int) ∧ asE f nx = 0 ∧ asF f nx = upd f ((nx + k) % 63) true ∧ asX f nx = ((nx + k) % 63 + 1) % 63 := by simp [asT, asE, asF, asX, h]
/-- all are taken, or one that was free is -/
theorem as_ways (f : Nat → Bool) (nx : Nat) (hn : nx < 63) : ((∀ p, p < 63 → f p = true) ∧ asT f nx = 0 ∧ asE f nx = 10 ∧ asF f nx = f ∧ asX f nx = nx) ∨
    ∃ p, p < 63 ∧ f p = false ∧ asT f nx = 64 + (p : Int) ∧ asE f nx = 0 ∧ asF f nx = upd f p true ∧ asX f nx = (p + 1) % 63 := by
  cases h : fd f nx with
  | none => exact Or.inl ⟨all_of hn (fd_none h), as_none h⟩
  | some k =>
    obtain ⟨h1, h2, h3⟩ := fd_some h
    exact Or.inr ⟨(nx + k) % 63, by omega, h2, as_some h⟩
/-- the place nx itself is free -/
theorem as_here {f : Nat → Bool} {nx : Nat} (hn : nx < 63) (hf : f nx = false) : asT f nx = 64 + (nx : Int) ∧ asE f nx = 0 ∧ asF f nx = upd f nx true ∧ asX f nx = (nx + 1) % 63 := by
  cases h : fd f nx with
  | none =>
    have := all_of hn (fd_none h) nx hn
    rw [hf] at this; cases this
  | some k =>
    obtain ⟨h1, h2, h3⟩ := fd_some h
    have hk : k = 0 := by
      rcases Nat.eq_zero_or_pos k with h0 | h0
      · exact h0
      · have := h3 0 h0
        rw [Nat.add_zero, Nat.mod_eq_of_lt hn, hf] at this; cases this
    subst hk
    have := as_some h
    rwa [Nat.add_zero, Nat.mod_eq_of_lt hn] at this
/-- but for the place p all are taken -/
theorem as_only {f : Nat → Bool} {nx p : Nat} (hn : nx < 63) (hp : p < 63) (hf : f p = false) (hall : ∀ i, i < 63 → i ≠ p → f i = true) : asT f nx = 64 + (p : Int) ∧ asE f nx = 0 := by
  rcases as_ways f nx hn with ⟨h, _⟩ | ⟨q, hq, hfq, h1, h2, _⟩
  · have := h p hp; rw [hf] at this; cases this
  · have e : q = p := Decidable.byContradiction fun e => by have := hall q hq e; rw [hfq] at this; cases this
    subst e
    exact ⟨h1, h2⟩
theorem asX_lt (f : Nat → Bool) (nx : Nat) (hn : nx < 63) : asX f nx < 63 := by
  rcases as_ways f nx hn with ⟨_, _, _, _, h⟩ | ⟨q, _, _, _, _, _, h⟩ <;> rw [h] <;> omega

/-- is it one of those that have a place? -/
def au (t : Int) : Bool := decide (64 ≤ t ∧ t ≤ 126)
def at' (t : Int) : Nat := (t - 64).toNat
def has (f : Nat → Bool) (t : Int) : Bool := au t && f (at' t)
def clN (f : Nat → Bool) (t : Int) : Int := if au t = true then if f (at' t) = true then 13 else 0 else 2
def clF (f : Nat → Bool) (t : Int) : Nat → Bool := if au t = true then upd f (at' t) true else f
def frF (f : Nat → Bool) (t : Int) : Nat → Bool := if au t = true then upd f (at' t) false else f
theorem au_place {t : Int} (h : au t = true) : ∃ p : Nat, p < 63 ∧ t = 64 + (p : Int) ∧ at' t = p := by
  have := of_decide_eq_true h
  exact ⟨(t - 64).toNat, by omega, by omega, rfl⟩
theorem au_of (p : Nat) (hp : p < 63) : au (64 + (p : Int)) = true ∧ at' (64 + (p : Int)) = p := ⟨decide_eq_true (by omega), by unfold at'; omega⟩
theorem not_au {t : Int} (h : au t = false) : t < 64 ∨ 126 < t := by
  have := of_decide_eq_false h
  omega
theorem has_of (f : Nat → Bool) (p : Nat) (hp : p < 63) : has f (64 + (p : Int)) = f p := by
  obtain ⟨h1, h2⟩ := au_of p hp
  simp [has, h1, h2]
theorem has_no (f : Nat → Bool) {t : Int} (h : au t = false) : has f t = false := by simp [has, h]
theorem cl_no (f : Nat → Bool) {t : Int} (h : au t = false) : clN f t = 2 ∧ clF f t = f := by simp [clN, clF, h]
theorem cl_there {f : Nat → Bool} {t : Int} (h : au t = true) (hf : f (at' t) = true) : clN f t = 13 ∧ clF f t = f := by
  refine ⟨by simp [clN, h, hf], ?_⟩
  rw [clF, if_pos h]
  exact upd_id hf
theorem cl_ok {f : Nat → Bool} {t : Int} (h : au t = true) (hf : f (at' t) = false) : clN f t = 0 ∧ clF f t = upd f (at' t) true := ⟨by simp [clN, h, hf], by rw [clF, if_pos h]⟩
theorem fr_no {f : Nat → Bool} {t : Int} (h : has f t = false) : frF f t = f := by
  unfold frF
  cases ha : au t with
  | false => simp
  | true =>
    simp only [has, ha, Bool.true_and] at h
    rw [if_pos rfl]
    exact upd_id h
theorem fr_ok {f : Nat → Bool} {t : Int} (h : has f t = true) : au t = true ∧ f (at' t) = true ∧ frF f t = upd f (at' t) false := by
  simp only [has, Bool.and_eq_true] at h
  exact ⟨h.1, h.2, by rw [frF, if_pos h.1]⟩

/-- those of the first n places that are taken -/
def ls (f : Nat → Bool) (n : Nat) : List Int := ((List.range n).filter f).map (fun i => 64 + ((i : Nat) : Int))
theorem ls_zero (f : Nat → Bool) : ls f 0 = [] := rfl
theorem ls_on {f : Nat → Bool} {n : Nat} (h : f n = true) : ls f (n + 1) = ls f n ++ [64 + (n : Int)] := by simp [ls, List.range_succ, List.filter_append, h]
theorem ls_off {f : Nat → Bool} {n : Nat} (h : f n = false) : ls f (n + 1) = ls f n := by simp [ls, List.range_succ, List.filter_append, h]
theorem ls_len (f : Nat → Bool) (n : Nat) : (ls f n).length ≤ n := by
  have := List.length_filter_le f (List.range n)
  simpa [ls] using this
/-- how many are taken -/
def ct (f : Nat → Bool) (n : Nat) : Nat := (ls f n).length
theorem ct_zero (f : Nat → Bool) : ct f 0 = 0 := rfl
theorem ct_on {f : Nat → Bool} {n : Nat} (h : f n = true) : ct f (n + 1) = ct f n + 1 := by rw [ct, ls_on h]; simp [ct]
theorem ct_off {f : Nat → Bool} {n : Nat} (h : f n = false) : ct f (n + 1) = ct f n := by rw [ct, ls_off h]; simp [ct]
theorem ct_le (f : Nat → Bool) (n : Nat) : ct f n ≤ n := ls_len f n
theorem ct_far (f : Nat → Bool) {p n : Nat} (b : Bool) (h : n ≤ p) : ct (upd f p b) n = ct f n := by
  induction n with
  | zero => rfl
  | succ n ih =>
    have e : upd f p b n = f n := upd_other f p b (by omega)
    cases hf : f n with
    | true => rw [ct_on (e.trans hf), ct_on hf, ih (by omega)]
    | false => rw [ct_off (e.trans hf), ct_off hf, ih (by omega)]
theorem ct_set (f : Nat → Bool) {p n : Nat} (h : p < n) (hf : f p = false) : ct (upd f p true) n = ct f n + 1 := by
  induction n with
  | zero => omega
  | succ n ih =>
    by_cases hp : p = n
    · subst hp
      rw [ct_on (upd_same f p true), ct_off hf, ct_far f true (Nat.le_refl _)]
    · have e : upd f p true n = f n := upd_other f p true (fun e => hp e.symm)
      cases hg : f n with
      | true => rw [ct_on (e.trans hg), ct_on hg, ih (by omega)]
      | false => rw [ct_off (e.trans hg), ct_off hg, ih (by omega)]
theorem upd_upd (f : Nat → Bool) (p : Nat) (a b : Bool) : upd (upd f p a) p b = upd f p b := by
  funext i
  by_cases e : i = p
  · rw [e, upd_same, upd_same]
  · rw [upd_other _ _ _ e, upd_other _ _ _ e, upd_other _ _ _ e]
theorem ct_unset (f : Nat → Bool) {p n : Nat} (h : p < n) (hf : f p = true) : ct (upd f p false) n + 1 = ct f n := by
  rw [← ct_set (upd f p false) h (upd_same f p false), upd_upd, upd_id hf]
theorem ct_full {f : Nat → Bool} : ∀ {n : Nat}, (∀ p, p < n → f p = true) → ct f n = n
  | 0, _ => rfl
  | n + 1, h => by rw [ct_on (h n (by omega)), ct_full (fun p hp => h p (by omega))]
theorem full_ct {f : Nat → Bool} : ∀ {n : Nat}, ct f n = n → ∀ p, p < n → f p = true
  | 0, _, p, hp => by omega
  | n + 1, h, p, hp => by
    have h1 := ct_le f n
    cases hf : f n with
    | false => rw [ct_off hf] at h; omega
    | true =>
      rw [ct_on hf] at h
      by_cases e : p = n
      · rw [e, hf]
      · exact full_ct (n := n) (by omega) p (by omega)
/-- the one behind those of the first n -/
theorem ls_nth (f : Nat → Bool) {n m : Nat} (hn : n < m) (hf : f n = true) : ct f n < ct f m ∧ (ls f m).getD (ct f n) 0 = 64 + (n : Int) := by
  induction m with
  | zero => omega
  | succ m ih =>
    by_cases e : n = m
    · subst e
      refine ⟨by rw [ct_on hf]; omega, ?_⟩
      rw [ls_on hf]
      simp [List.getD, ct]
    · obtain ⟨h1, h2⟩ := ih (by omega)
      cases hm : f m with
      | true =>
        refine ⟨by rw [ct_on hm]; omega, ?_⟩
        rw [ls_on hm, List.getD, List.getElem?_append_left h1]
        exact h2
      | false => rw [ct_off hm, ls_off hm]; exact ⟨h1, h2⟩
end Pm
