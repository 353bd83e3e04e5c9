/-
  Plain mathematics of layer 15: a source as a machine: which places are assigned, which are under a check, what is done. It names nothing of the program.
-/
import Derived.Test.YtdnhcpkpajbhoabPoolMath
import Derived.Test.YtdnhcpkpajbhoabTeimsgMath
namespace Zm
open Pm
set_option linter.unusedVariables false
set_option linter.unusedSimpArgs false

/-- what is done: its kind, the message's type, Ri and Ai, the TEI -/
structure Ef where
  (k ty ri ai tei : Int)
def say (ty ri ai : Int) : Ef := ⟨0, ty, ri, ai, 0⟩
def tell (k t : Int) : Ef := ⟨k, 0, 0, 0, t⟩
/-- a source: its pool; how often the check of a place asked (0: there is none), how many answers came -/
structure St where
  f : Nat → Bool
  nx : Nat
  a : Nat → Nat
  n : Nat → Nat
def new : St := ⟨fun _ => false, 0, fun _ => 0, fun _ => 0⟩
def upn (g : Nat → Nat) (p v : Nat) : Nat → Nat := fun i => if i = p then v else g i
theorem upn_same (g : Nat → Nat) (p v : Nat) : upn g p v p = v := by simp [upn]
theorem upn_other (g : Nat → Nat) (p v : Nat) {i : Nat} (h : i ≠ p) : upn g p v i = g i := by simp [upn, h]
/-- what is always so -/
structure Ok (s : St) : Prop where
  nx : s.nx < 63
  in' : ∀ p, 0 < s.a p → p < 63 ∧ s.f p = true
  a2 : ∀ p, s.a p ≤ 2
  n1 : ∀ p, s.n p ≤ 1
  n0 : ∀ p, s.a p = 0 → s.n p = 0
theorem ok_new : Ok new := ⟨by decide, fun p h => absurd h (by simp [new]), fun p => Nat.zero_le _, fun p => Nat.zero_le _, fun p _ => rfl⟩

/-- is there a check of t? -/
def under (s : St) (t : Int) : Bool := au t && decide (0 < s.a (at' t))
theorem under_of (s : St) (p : Nat) (hp : p < 63) : under s (64 + (p : Int)) = decide (0 < s.a p) := by
  obtain ⟨h1, h2⟩ := au_of p hp
  simp [under, h1, h2]
theorem under_no (s : St) {t : Int} (h : au t = false) : under s t = false := by simp [under, h]
theorem under_yes {s : St} {t : Int} (h : under s t = true) : ∃ p : Nat, p < 63 ∧ t = 64 + (p : Int) ∧ at' t = p ∧ 0 < s.a p := by
  simp only [under, Bool.and_eq_true, decide_eq_true_eq] at h
  obtain ⟨p, hp, e, e2⟩ := au_place h.1
  exact ⟨p, hp, e, e2, by rw [← e2]; exact h.2⟩
theorem under_has {s : St} (h : Ok s) {t : Int} (hu : under s t = true) : has s.f t = true := by
  obtain ⟨p, hp, rfl, _, ha⟩ := under_yes hu
  rw [has_of s.f p hp]
  exact (h.in' p ha).2

/-- a check is set, or there is none any more -/
def setC (s : St) (p a n : Nat) : St := { s with a := upn s.a p a, n := upn s.n p n }
theorem setC_ok {s : St} (h : Ok s) {p a n : Nat} (hp : p < 63) (hf : 0 < a → s.f p = true) (ha : a ≤ 2) (hn : n ≤ 1) (h0 : a = 0 → n = 0) : Ok (setC s p a n) := by
  refine ⟨h.nx, fun i hi => ?_, fun i => ?_, fun i => ?_, fun i hi => ?_⟩
  · by_cases e : i = p
    · subst e
      exact ⟨hp, hf (by have : 0 < upn s.a i a i := hi; rwa [upn_same] at this)⟩
    · exact h.in' i (by have : 0 < upn s.a p a i := hi; rwa [upn_other _ _ _ e] at this)
  · show upn s.a p a i ≤ 2
    by_cases e : i = p
    · rw [e, upn_same]; exact ha
    · rw [upn_other _ _ _ e]; exact h.a2 i
  · show upn s.n p n i ≤ 1
    by_cases e : i = p
    · rw [e, upn_same]; exact hn
    · rw [upn_other _ _ _ e]; exact h.n1 i
  · show upn s.n p n i = 0
    have hi' : upn s.a p a i = 0 := hi
    by_cases e : i = p
    · rw [e, upn_same] at hi' ⊢; exact h0 hi'
    · rw [upn_other _ _ _ e] at hi' ⊢; exact h.n0 i hi'
/-- t is assigned no more -/
def free (s : St) (t : Int) : St := { s with f := frF s.f t }
def freeE (s : St) (t : Int) : List Ef := if has s.f t then [tell 2 t] else []
theorem free_ok {s : St} (h : Ok s) {t : Int} (hu : under s t = false) : Ok (free s t) := by
  refine ⟨h.nx, fun i hi => ⟨(h.in' i hi).1, ?_⟩, h.a2, h.n1, h.n0⟩
  show frF s.f t i = true
  cases hh : has s.f t with
  | false => rw [fr_no hh]; exact (h.in' i hi).2
  | true =>
    obtain ⟨ha, _, he⟩ := fr_ok hh
    obtain ⟨p, hp, rfl, hat⟩ := au_place ha
    rw [he, hat]
    have hne : i ≠ p := by
      intro e
      subst e
      have := h.in' i hi
      rw [under_of s i hp] at hu
      have := of_decide_eq_false hu
      exact this hi
    rw [upd_other _ _ _ hne]
    exact (h.in' i hi).2

/-! ### what it does -/
/-- it asks for the k-th time -/
def ask (s : St) (t : Int) (k : Nat) : St := setC s (at' t) k 0
def askE (t : Int) : List Ef := [say 4 0 t, tell 3 t]
/-- there is no check of t any more -/
def drop (s : St) (t : Int) : St := if under s t then setC s (at' t) 0 0 else s
theorem drop_ok {s : St} (h : Ok s) (t : Int) : Ok (drop s t) := by
  unfold drop
  split
  · rename_i hu
    obtain ⟨p, hp, e, e2, _⟩ := under_yes hu
    rw [e2]
    exact setC_ok h hp (fun x => absurd x (Nat.lt_irrefl 0)) (by decide) (by decide) (fun _ => rfl)
  · exact h
theorem drop_f (s : St) (t : Int) : (drop s t).f = s.f := by
  unfold drop
  split <;> rfl
theorem drop_nx (s : St) (t : Int) : (drop s t).nx = s.nx := by
  unfold drop
  split <;> rfl
theorem drop_under (s : St) (t : Int) : under (drop s t) t = false := by
  unfold drop
  split
  · rename_i hu
    obtain ⟨p, hp, e, e2, _⟩ := under_yes hu
    rw [e2, e, under_of _ p hp]
    show decide (0 < upn s.a p 0 p) = false
    rw [upn_same]
    rfl
  · rename_i hu
    simpa using hu
def remove (s : St) (t : Int) : St := free (drop s t) t
def removeE (s : St) (t : Int) : List Ef := [say 6 0 t, say 6 0 t] ++ (if under s t then [tell 4 t] else []) ++ freeE s t
theorem remove_ok {s : St} (h : Ok s) (t : Int) : Ok (remove s t) := free_ok (drop_ok h t) (drop_under s t)
/-- all that are assigned are checked -/
def audit (s : St) : St := { s with a := fun p => if p < 63 ∧ s.f p = true then 1 else s.a p, n := fun p => if p < 63 ∧ s.f p = true then 0 else s.n p }
def auditE (s : St) : List Ef := say 4 0 127 :: (ls s.f 63).map (tell 3)
theorem audit_ok {s : St} (h : Ok s) : Ok (audit s) := by
  refine ⟨h.nx, fun i hi => ?_, fun i => ?_, fun i => ?_, fun i hi => ?_⟩
  · have hi' : 0 < (if i < 63 ∧ s.f i = true then 1 else s.a i) := hi
    split at hi'
    · assumption
    · exact h.in' i hi'
  · show (if i < 63 ∧ s.f i = true then 1 else s.a i) ≤ 2
    split
    · decide
    · exact h.a2 i
  · show (if i < 63 ∧ s.f i = true then 0 else s.n i) ≤ 1
    split
    · decide
    · exact h.n1 i
  · show (if i < 63 ∧ s.f i = true then 0 else s.n i) = 0
    have hi' : (if i < 63 ∧ s.f i = true then 1 else s.a i) = 0 := hi
    split
    · rfl
    · rename_i hn
      rw [if_neg hn] at hi'
      exact h.n0 i hi'
/-- one more is assigned -/
def grant (s : St) : St := { s with f := asF s.f s.nx, nx := asX s.f s.nx }
theorem grant_ok {s : St} (h : Ok s) : Ok (grant s) := by
  refine ⟨asX_lt _ _ h.nx, fun i hi => ⟨(h.in' i hi).1, ?_⟩, h.a2, h.n1, h.n0⟩
  show asF s.f s.nx i = true
  have hf := (h.in' i hi).2
  rcases as_ways s.f s.nx h.nx with ⟨_, _, _, e, _⟩ | ⟨p, _, _, _, _, e, _⟩
  · rw [e]; exact hf
  · rw [e]
    by_cases hp : i = p
    · rw [hp, upd_same]
    · rw [upd_other _ _ _ hp]; exact hf

/-! ### P15.1 -/
def good (ty ri ai : Int) : Bool := decide ((Go.Proofs.Ytdnhcpkpajbhoab.Tm.putRes ty ri ai).2 = 0)
def assign (s : St) (ri ai : Int) : St × List Ef :=
  if ai ≠ 127 then (s, [say 3 ri ai])
  else if asE s.f s.nx = 0 then (grant s, [say 2 ri (asT s.f s.nx), tell 1 (asT s.f s.nx)])
  else (audit s, say 3 ri ai :: auditE s)
def isFree (s : St) (t : Int) : Bool := au t && !has s.f t
def answer (s : St) (t : Int) : St × List Ef :=
  if under s t then (if 0 < s.n (at' t) then (remove s t, removeE s t) else (setC s (at' t) (s.a (at' t)) 1, []))
  else (s, if isFree s t then [say 6 0 t] else [])
def checkN (s : St) (t : Int) : Int := if has s.f t then if under s t then 13 else 0 else 11
def check (s : St) (t : Int) : St × List Ef := if checkN s t = 0 then (ask s t 1, askE t) else (s, [])
def verify (s : St) (t : Int) : St × List Ef := if isFree s t then (s, [say 6 0 t]) else check s t
def message (s : St) (ty ri ai : Int) : St × List Ef :=
  if good ty ri ai then
    if ty = 1 then assign s ri ai
    else if ty = 5 then answer s ai
    else if ty = 7 then verify s ai
    else (s, [])
  else (s, [])
/-! ### P15.2, P15.3 -/
def removeN (t : Int) : Int := if au t then 0 else 2
def removeOp (s : St) (t : Int) : St × List Ef := if au t then (remove s t, removeE s t) else (s, [])
def timeout (s : St) (t : Int) : St × List Ef :=
  if under s t then
    if s.n (at' t) = 0 ∧ s.a (at' t) < 2 then (ask s t (s.a (at' t) + 1), askE t)
    else if 0 < s.n (at' t) then (drop s t, [])
    else (free (drop s t) t, freeE s t)
  else (s, [])

theorem ask_ok {s : St} (h : Ok s) {t : Int} (hh : has s.f t = true) {k : Nat} (hk : k ≤ 2) : Ok (ask s t k) := by
  obtain ⟨ha, hf, _⟩ := fr_ok hh
  obtain ⟨p, hp, rfl, hat⟩ := au_place ha
  unfold ask
  rw [hat] at hf ⊢
  exact setC_ok h hp (fun _ => hf) hk (by decide) (fun _ => rfl)
theorem assign_ok {s : St} (h : Ok s) (ri ai : Int) : Ok (assign s ri ai).1 := by
  unfold assign
  split
  · exact h
  · split
    · exact grant_ok h
    · exact audit_ok h
theorem answer_ok {s : St} (h : Ok s) (t : Int) : Ok (answer s t).1 := by
  unfold answer
  split
  · rename_i hu
    split
    · exact remove_ok h t
    · obtain ⟨p, hp, rfl, hat, ha⟩ := under_yes hu
      rw [hat]
      exact setC_ok h hp (fun _ => (h.in' p ha).2) (h.a2 p) (by decide) (fun x => by omega)
  · exact h
theorem check_ok {s : St} (h : Ok s) (t : Int) : Ok (check s t).1 := by
  unfold check
  split
  · rename_i h0
    refine ask_ok h ?_ (by decide)
    unfold checkN at h0
    cases hh : has s.f t with
    | true => rfl
    | false => rw [hh] at h0; simp at h0
  · exact h
theorem verify_ok {s : St} (h : Ok s) (t : Int) : Ok (verify s t).1 := by
  unfold verify
  split
  · exact h
  · exact check_ok h t
theorem message_ok {s : St} (h : Ok s) (ty ri ai : Int) : Ok (message s ty ri ai).1 := by
  unfold message
  split
  · split
    · exact assign_ok h ri ai
    · split
      · exact answer_ok h ai
      · split
        · exact verify_ok h ai
        · exact h
  · exact h
theorem removeOp_ok {s : St} (h : Ok s) (t : Int) : Ok (removeOp s t).1 := by
  unfold removeOp
  split
  · exact remove_ok h t
  · exact h
theorem timeout_ok {s : St} (h : Ok s) (t : Int) : Ok (timeout s t).1 := by
  unfold timeout
  split
  · rename_i hu
    split
    · rename_i hs
      exact ask_ok h (under_has h hu) (by omega)
    · split
      · exact drop_ok h t
      · exact free_ok (drop_ok h t) (drop_under s t)
  · exact h
/-- how much is done at most -/
theorem message_len (s : St) (ty ri ai : Int) : (message s ty ri ai).2.length ≤ 70 := by
  have hl := ls_len s.f 63
  have hf : (freeE s ai).length ≤ 1 := by unfold freeE; split <;> simp
  unfold message
  split
  · split
    · unfold assign
      split
      · simp
      · split
        · simp
        · simp [auditE]; omega
    · split
      · unfold answer
        split
        · split
          · simp only [removeE, List.length_append, List.length_cons, List.length_nil]
            split <;> simp <;> omega
          · simp
        · split <;> simp
      · split
        · unfold verify
          split
          · simp
          · unfold check
            split <;> simp [askE]
        · simp
  · simp
/-! ### an audit, one by one -/
def audL (s : St) (l : List Int) : St := { s with a := fun p => if 64 + (p : Int) ∈ l then 1 else s.a p, n := fun p => if 64 + (p : Int) ∈ l then 0 else s.n p }
theorem audL_nil (s : St) : audL s [] = s := by simp [audL]
theorem audL_step (s : St) (l : List Int) (p : Nat) : setC (audL s l) p 1 0 = audL s (l ++ [64 + (p : Int)]) := by
  have h1 : upn (audL s l).a p 1 = (audL s (l ++ [64 + (p : Int)])).a := by
    funext i
    show upn (fun q => if 64 + (q : Int) ∈ l then 1 else s.a q) p 1 i = if 64 + (i : Int) ∈ l ++ [64 + (p : Int)] then 1 else s.a i
    by_cases e : i = p
    · subst e
      rw [upn_same, if_pos (by simp)]
    · rw [upn_other _ _ _ e]
      have hi : (64 + (i : Int) ∈ l ++ [64 + (p : Int)]) ↔ 64 + (i : Int) ∈ l := by
        simp
        omega
      simp only [hi]
  have h2 : upn (audL s l).n p 0 = (audL s (l ++ [64 + (p : Int)])).n := by
    funext i
    show upn (fun q => if 64 + (q : Int) ∈ l then 0 else s.n q) p 0 i = if 64 + (i : Int) ∈ l ++ [64 + (p : Int)] then 0 else s.n i
    by_cases e : i = p
    · subst e
      rw [upn_same, if_pos (by simp)]
    · rw [upn_other _ _ _ e]
      have hi : (64 + (i : Int) ∈ l ++ [64 + (p : Int)]) ↔ 64 + (i : Int) ∈ l := by
        simp
        omega
      simp only [hi]
  unfold setC
  rw [h1, h2]
  rfl
theorem ls_mem (f : Nat → Bool) (n : Nat) (t : Int) : t ∈ ls f n ↔ ∃ p : Nat, p < n ∧ f p = true ∧ t = 64 + (p : Int) := by
  simp only [ls, List.mem_map, List.mem_filter, List.mem_range]
  constructor
  · rintro ⟨p, ⟨h1, h2⟩, rfl⟩
    exact ⟨p, h1, h2, rfl⟩
  · rintro ⟨p, h1, h2, rfl⟩
    exact ⟨p, ⟨h1, h2⟩, rfl⟩
theorem audL_all (s : St) : audL s (ls s.f 63) = audit s := by
  have hi : ∀ p : Nat, (64 + (p : Int) ∈ ls s.f 63) ↔ (p < 63 ∧ s.f p = true) := by
    intro p
    rw [ls_mem]
    constructor
    · rintro ⟨q, h1, h2, e⟩
      obtain rfl : p = q := by omega
      exact ⟨h1, h2⟩
    · rintro ⟨h1, h2⟩
      exact ⟨p, h1, h2, rfl⟩
  unfold audL audit
  simp only [hi]
theorem audL_ok {s : St} (h : Ok s) {l : List Int} (hl : ∀ t ∈ l, ∃ p : Nat, p < 63 ∧ s.f p = true ∧ t = 64 + (p : Int)) : Ok (audL s l) := by
  refine ⟨h.nx, fun i hi => ?_, fun i => ?_, fun i => ?_, fun i hi => ?_⟩
  · have hi' : 0 < (if 64 + (i : Int) ∈ l then 1 else s.a i) := hi
    split at hi'
    · rename_i hm
      obtain ⟨p, h1, h2, e⟩ := hl _ hm
      obtain rfl : i = p := by omega
      exact ⟨h1, h2⟩
    · exact h.in' i hi'
  · show (if 64 + (i : Int) ∈ l then 1 else s.a i) ≤ 2
    split
    · decide
    · exact h.a2 i
  · show (if 64 + (i : Int) ∈ l then 0 else s.n i) ≤ 1
    split
    · decide
    · exact h.n1 i
  · show (if 64 + (i : Int) ∈ l then 0 else s.n i) = 0
    have hi' : (if 64 + (i : Int) ∈ l then 1 else s.a i) = 0 := hi
    split
    · rfl
    · rename_i hn
      rw [if_neg hn] at hi'
      exact h.n0 i hi'
end Zm
