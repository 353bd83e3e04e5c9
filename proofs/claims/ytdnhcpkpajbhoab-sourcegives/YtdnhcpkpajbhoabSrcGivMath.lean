/-
  What SourceGives watches, told plainly: given and freed, started and stopped, in turn.
-/
import Derived.Test.YtdnhcpkpajbhoabSrcWakes
namespace Go.Proofs.Ytdnhcpkpajbhoab
open Go.RowKit
set_option linter.unusedVariables false
set_option linter.unusedSimpArgs false
set_option maxRecDepth 100000

/-- what is done turns (f, u) into (f', u'), each in its turn -/
def Lk : (Nat → Bool) → (Nat → Bool) → List Zm.Ef → (Nat → Bool) → (Nat → Bool) → Prop
  | f, u, [], f', u' => f = f' ∧ u = u'
  | f, u, x :: l, f', u' => (x.k = 0 ∧ Lk f u l f' u') ∨ ∃ p : Nat, p < 63 ∧ x.tei = 64 + (p : Int) ∧ ((x.k = 1 ∧ f p = false ∧ Lk (Pm.upd f p true) u l f' u') ∨ (x.k = 2 ∧ f p = true ∧ Lk (Pm.upd f p false) u l f' u') ∨ (x.k = 3 ∧ Lk f (Pm.upd u p true) l f' u') ∨ (x.k = 4 ∧ u p = true ∧ Lk f (Pm.upd u p false) l f' u'))
theorem lk_nil (f u : Nat → Bool) : Lk f u [] f u := ⟨rfl, rfl⟩
theorem lk_say (f u f' u' : Nat → Bool) (ty ri ai : Int) {l : List Zm.Ef} (h : Lk f u l f' u') : Lk f u (Zm.say ty ri ai :: l) f' u' := Or.inl ⟨rfl, h⟩
theorem lk_given {f u f' u' : Nat → Bool} {p : Nat} (hp : p < 63) (hf : f p = false) {l : List Zm.Ef} (h : Lk (Pm.upd f p true) u l f' u') : Lk f u (Zm.tell 1 (64 + (p : Int)) :: l) f' u' := Or.inr ⟨p, hp, rfl, Or.inl ⟨rfl, hf, h⟩⟩
theorem lk_freed {f u f' u' : Nat → Bool} {p : Nat} (hp : p < 63) (hf : f p = true) {l : List Zm.Ef} (h : Lk (Pm.upd f p false) u l f' u') : Lk f u (Zm.tell 2 (64 + (p : Int)) :: l) f' u' := Or.inr ⟨p, hp, rfl, Or.inr (Or.inl ⟨rfl, hf, h⟩)⟩
theorem lk_start {f u f' u' : Nat → Bool} {p : Nat} (hp : p < 63) {l : List Zm.Ef} (h : Lk f (Pm.upd u p true) l f' u') : Lk f u (Zm.tell 3 (64 + (p : Int)) :: l) f' u' := Or.inr ⟨p, hp, rfl, Or.inr (Or.inr (Or.inl ⟨rfl, h⟩))⟩
theorem lk_stop {f u f' u' : Nat → Bool} {p : Nat} (hp : p < 63) (hu : u p = true) {l : List Zm.Ef} (h : Lk f (Pm.upd u p false) l f' u') : Lk f u (Zm.tell 4 (64 + (p : Int)) :: l) f' u' := Or.inr ⟨p, hp, rfl, Or.inr (Or.inr (Or.inr ⟨rfl, hu, h⟩))⟩
section
variable {s : Zm.St}
theorem lk_ask {t : Int} {k : Nat} (hh : Pm.has s.f t = true) (hk : 0 < k) : Lk s.f (Zm.ua s) (Zm.askE t) (Zm.ask s t k).f (Zm.ua (Zm.ask s t k)) := by
  obtain ⟨ha, _, _⟩ := Pm.fr_ok hh
  obtain ⟨p, hp, rfl, hat⟩ := Pm.au_place ha
  unfold Zm.askE Zm.ask
  rw [hat, Zm.ua_setC, decide_eq_true hk]
  exact lk_say _ _ _ _ _ _ _ (lk_start hp (lk_nil _ _))
theorem lk_freeE {s : Zm.St} {t : Int} : Lk s.f (Zm.ua s) (Zm.freeE s t) (Zm.free s t).f (Zm.ua (Zm.free s t)) := by
  unfold Zm.freeE
  show Lk s.f (Zm.ua s) _ (Pm.frF s.f t) (Zm.ua s)
  cases hh : Pm.has s.f t with
  | false => rw [Pm.fr_no hh]; exact lk_nil _ _
  | true =>
    obtain ⟨ha, hf, he⟩ := Pm.fr_ok hh
    obtain ⟨p, hp, rfl, hat⟩ := Pm.au_place ha
    rw [hat] at hf he
    rw [he]
    exact lk_freed hp hf (lk_nil _ _)
theorem drop_e {t : Int} : Zm.freeE (Zm.drop s t) t = Zm.freeE s t := by unfold Zm.freeE; rw [Zm.drop_f]
theorem lk_remove {t : Int} : Lk s.f (Zm.ua s) (Zm.removeE s t) (Zm.remove s t).f (Zm.ua (Zm.remove s t)) := by
  unfold Zm.removeE Zm.remove
  have h1 := lk_freeE (s := Zm.drop s t) (t := t)
  rw [drop_e] at h1
  cases hu : Zm.under s t with
  | false =>
    have hd : Zm.drop s t = s := by unfold Zm.drop; rw [hu, if_neg (by decide)]
    rw [hd] at h1 ⊢
    exact lk_say _ _ _ _ _ _ _ (lk_say _ _ _ _ _ _ _ h1)
  | true =>
    obtain ⟨p, hp, rfl, hat, ha⟩ := Zm.under_yes hu
    have hd : Zm.drop s (64 + (p : Int)) = Zm.setC s p 0 0 := by unfold Zm.drop; rw [hu, if_pos rfl, hat]
    refine lk_say _ _ _ _ _ _ _ (lk_say _ _ _ _ _ _ _ (lk_stop hp (by unfold Zm.ua; exact decide_eq_true ha) ?_))
    have h2 : Zm.ua (Zm.drop s (64 + (p : Int))) = Pm.upd (Zm.ua s) p false := by rw [hd, Zm.ua_setC]; rfl
    rw [h2, Zm.drop_f] at h1
    exact h1
theorem lk_starts (f : Nat → Bool) : ∀ (l : List Int) (u : Nat → Bool), (∀ t ∈ l, ∃ p : Nat, p < 63 ∧ t = 64 + (p : Int)) → Lk f u (l.map (Zm.tell 3)) f (fun p => if 64 + (p : Int) ∈ l then true else u p)
  | [], u, _ => by simp [Lk]
  | t :: l, u, h => by
    obtain ⟨p, hp, rfl⟩ := h t (by simp)
    have ih := lk_starts f l (Pm.upd u p true) (fun t ht => h t (by simp [ht]))
    refine lk_start hp ?_
    have e : (fun q : Nat => if 64 + (q : Int) ∈ (64 + (p : Int)) :: l then true else u q) = fun q : Nat => if 64 + (q : Int) ∈ l then true else Pm.upd u p true q := by
      funext q
      by_cases e : q = p
      · subst e; simp [Pm.upd_same]
      · have : ¬ (64 + (q : Int) = 64 + (p : Int)) := by omega
        simp [Pm.upd_other _ _ _ e, this]
    rw [e]
    exact ih
theorem ua_audit : Zm.ua (Zm.audit s) = fun p : Nat => if 64 + (p : Int) ∈ Pm.ls s.f 63 then true else Zm.ua s p := by
  funext p
  have hi : (64 + (p : Int) ∈ Pm.ls s.f 63) ↔ (p < 63 ∧ s.f p = true) := by
    rw [Zm.ls_mem]
    constructor
    · rintro ⟨q, h1, h2, e⟩
      obtain rfl : p = q := by omega
      exact ⟨h1, h2⟩
    · rintro ⟨h1, h2⟩
      exact ⟨p, h1, h2, rfl⟩
  unfold Zm.ua Zm.audit
  by_cases h : p < 63 ∧ s.f p = true
  · simp only [if_pos h, if_pos (hi.2 h)]; rfl
  · simp only [if_neg h, if_neg (fun x => h (hi.1 x))]
theorem lk_audit : Lk s.f (Zm.ua s) (Zm.auditE s) (Zm.audit s).f (Zm.ua (Zm.audit s)) := by
  rw [ua_audit]
  exact lk_say _ _ _ _ _ _ _ (lk_starts s.f _ _ (fun t ht => by
    obtain ⟨p, hp, _, e⟩ := (Zm.ls_mem _ _ _).1 ht
    exact ⟨p, hp, e⟩))
theorem lk_check (t : Int) : Lk s.f (Zm.ua s) (Zm.check s t).2 (Zm.check s t).1.f (Zm.ua (Zm.check s t).1) := by
  unfold Zm.check
  split
  · rename_i h0
    refine lk_ask ?_ (by decide)
    unfold Zm.checkN at h0
    cases hh : Pm.has s.f t with
    | true => rfl
    | false => rw [hh] at h0; simp at h0
  · exact lk_nil _ _
theorem lk_rem (t : Int) : Lk s.f (Zm.ua s) (Zm.removeOp s t).2 (Zm.removeOp s t).1.f (Zm.ua (Zm.removeOp s t).1) := by
  unfold Zm.removeOp
  split
  · exact lk_remove
  · exact lk_nil _ _
theorem lk_answer (h : Zm.Ok s) (t : Int) : Lk s.f (Zm.ua s) (Zm.answer s t).2 (Zm.answer s t).1.f (Zm.ua (Zm.answer s t).1) := by
  unfold Zm.answer
  split
  · rename_i hu
    obtain ⟨p, hp, rfl, hat, ha⟩ := Zm.under_yes hu
    split
    · exact lk_remove
    · rw [hat, Zm.ua_setC, decide_eq_true ha]
      have : Pm.upd (Zm.ua s) p true = Zm.ua s := Pm.upd_id (by unfold Zm.ua; exact decide_eq_true ha)
      rw [this]
      exact lk_nil _ _
  · split
    · exact lk_say _ _ _ _ _ _ _ (lk_nil _ _)
    · exact lk_nil _ _
theorem lk_message (h : Zm.Ok s) (ty ri ai : Int) : Lk s.f (Zm.ua s) (Zm.message s ty ri ai).2 (Zm.message s ty ri ai).1.f (Zm.ua (Zm.message s ty ri ai).1) := by
  unfold Zm.message
  split
  · split
    · unfold Zm.assign
      split
      · exact lk_say _ _ _ _ _ _ _ (lk_nil _ _)
      · split
        · rename_i he
          rcases Pm.as_ways s.f s.nx h.nx with ⟨_, _, e, _⟩ | ⟨p, hp, hf, e1, _, e2, _⟩
          · rw [e] at he; exact absurd he (by decide)
          · rw [e1]
            refine lk_say _ _ _ _ _ _ _ (lk_given hp hf ?_)
            show Lk _ _ [] (Pm.asF s.f s.nx) (Zm.ua s)
            rw [e2]
            exact lk_nil _ _
        · exact lk_say _ _ _ _ _ _ _ lk_audit
    · split
      · exact lk_answer h ai
      · split
        · unfold Zm.verify
          split
          · exact lk_say _ _ _ _ _ _ _ (lk_nil _ _)
          · exact lk_check ai
        · exact lk_nil _ _
  · exact lk_nil _ _
/-- a timer is over: it runs no more, ahead of the rest -/
theorem lk_timeout (h : Zm.Ok s) (t : Int) : Lk s.f (Pm.frF (Zm.ua s) t) (Zm.timeout s t).2 (Zm.timeout s t).1.f (Zm.ua (Zm.timeout s t).1) := by
  unfold Zm.timeout
  cases hu : Zm.under s t with
  | false =>
    have hh : Pm.has (Zm.ua s) t = false := hu
    rw [Pm.fr_no hh, if_neg (by decide)]
    exact lk_nil _ _
  | true =>
    have hh : Pm.has (Zm.ua s) t = true := hu
    obtain ⟨_, _, he⟩ := Pm.fr_ok hh
    obtain ⟨p, hp, rfl, hat, ha⟩ := Zm.under_yes hu
    have hf := (h.in' p ha).2
    rw [if_pos rfl, he, hat]
    have hd : Zm.drop s (64 + (p : Int)) = Zm.setC s p 0 0 := by unfold Zm.drop; rw [hu, if_pos rfl, hat]
    have h2 : Zm.ua (Zm.drop s (64 + (p : Int))) = Pm.upd (Zm.ua s) p false := by rw [hd, Zm.ua_setC]; rfl
    split
    · unfold Zm.askE Zm.ask
      rw [hat, Zm.ua_setC, decide_eq_true (Nat.succ_pos _)]
      refine lk_say _ _ _ _ _ _ _ (lk_start hp ?_)
      rw [Pm.upd_upd]
      exact lk_nil _ _
    · split
      · show Lk _ _ [] (Zm.drop s (64 + (p : Int))).f (Zm.ua (Zm.drop s (64 + (p : Int))))
        rw [h2, Zm.drop_f]
        exact lk_nil _ _
      · have h1 := lk_freeE (s := Zm.drop s (64 + (p : Int))) (t := 64 + (p : Int))
        rw [drop_e, h2, Zm.drop_f] at h1
        exact h1
/-- each place under a check is assigned -/
theorem ua_in (h : Zm.Ok s) {p : Nat} (hp : Zm.ua s p = true) : p < 63 ∧ s.f p = true := h.in' p (by unfold Zm.ua at hp; exact of_decide_eq_true hp)
end
end Go.Proofs.Ytdnhcpkpajbhoab
