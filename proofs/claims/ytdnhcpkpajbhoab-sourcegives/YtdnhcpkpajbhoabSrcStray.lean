/-
  What SourceStrays does, told plainly: requests that are granted, and what its last message does (five ways); Checks of a source of the call's own.
-/
import Derived.Test.YtdnhcpkpajbhoabSrcChecks
import Derived.Laws.StructEq
namespace Go.Proofs.Ytdnhcpkpajbhoab
open Go.RowKit
set_option linter.unusedVariables false
set_option linter.unusedSimpArgs false
set_option maxRecDepth 100000

/-- behind i requests, all of them granted -/
structure Dq (s : Zm.St) (i : Nat) : Prop where
  f : ∀ p, p < 63 → s.f p = decide (p < i)
  nx : s.nx = i % 63
  a : ∀ p, s.a p = 0
  n : ∀ p, s.n p = 0
  ct : Pm.ct s.f 63 = i
theorem dq_new : Dq Zm.new 0 := ⟨fun p hp => by show false = _; simp, rfl, fun _ => rfl, fun _ => rfl, by show Pm.ct (fun _ => false) 63 = 0; first | rfl | decide | kernel_rfl⟩
theorem sq_good {ty ri ai : Int} (ht : ty = 1 ∨ ty = 5 ∨ ty = 7) (h0 : 0 ≤ ri) (h1 : ri ≤ 65535) (h2 : 0 ≤ ai) (h3 : ai ≤ 127) : Zm.good ty ri ai = true := by
  unfold Zm.good
  rw [Tm.put_good (by unfold Tm.known; omega) (by unfold Tm.fits; omega)]
  rfl
theorem dq_more {s : Zm.St} {i : Nat} (h : Dq s i) (hi : i < 63) : (Zm.message s 1 1 127).1 = Zm.grant s ∧ Dq (Zm.grant s) (i + 1) := by
  have hx : s.nx = i := by rw [h.nx]; omega
  have hfx : s.f s.nx = false := by rw [hx, h.f i hi]; simp
  obtain ⟨a1, a2, a3, a4⟩ := Pm.as_here (by rw [hx]; exact hi) hfx
  refine ⟨?_, ⟨fun p hp => ?_, ?_, h.a, h.n, ?_⟩⟩
  · unfold Zm.message
    rw [sq_good (Or.inl rfl) (by omega) (by omega) (by omega) (by omega), if_pos rfl, if_pos rfl]
    unfold Zm.assign
    rw [if_neg (by decide), if_pos a2]
  · show Pm.asF s.f s.nx p = _
    rw [a3, hx]
    by_cases hpi : p = i
    · rw [hpi, Pm.upd_same]; simp
    · rw [Pm.upd_other _ _ _ hpi, h.f p hp]
      by_cases hlt : p < i
      · simp [hlt]; omega
      · simp [hlt]; omega
  · show Pm.asX s.f s.nx = _
    rw [a4, hx]
  · show Pm.ct (Pm.asF s.f s.nx) 63 = _
    rw [a3, Pm.ct_set s.f (by rw [hx]; exact hi) hfx, h.ct]
theorem dq_cks {s : Zm.St} {i : Nat} (h : Dq s i) : (Zm.cks s).length = 0 := by
  unfold Zm.cks
  rw [List.length_map]
  have : Zm.ua s = fun _ => false := by funext p; unfold Zm.ua; rw [h.a p]; rfl
  rw [this]
  show Pm.ct (fun _ => false) 63 = 0
  first | rfl | decide | kernel_rfl
/-- what the last message does: five ways -/
theorem dq_last {s : Zm.St} {i : Nat} (h : Dq s i) (hi : i ≤ 63) {t : Int} (t0 : 0 ≤ t) (t1 : t ≤ 127) (vf : Bool) :
    (64 ≤ t ∧ t < 64 + (i : Int) ∧ vf = true ∧ (Zm.message s 7 3 t).2.length = 2 ∧ Pm.ct (Zm.message s 7 3 t).1.f 63 = i ∧ (Zm.cks (Zm.message s 7 3 t).1).length = 1) ∨
    (64 ≤ t ∧ t < 64 + (i : Int) ∧ vf = false ∧ (Zm.message s 5 3 t).2.length = 0 ∧ Pm.ct (Zm.message s 5 3 t).1.f 63 = i ∧ (Zm.cks (Zm.message s 5 3 t).1).length = 0) ∨
    (64 + (i : Int) ≤ t ∧ t ≤ 126 ∧ (∀ k, k = 5 ∨ k = 7 → (Zm.message s k 3 t).2 = [Zm.say 6 0 t] ∧ Pm.ct (Zm.message s k 3 t).1.f 63 = i ∧ (Zm.cks (Zm.message s k 3 t).1).length = 0)) ∨
    ((t < 64 ∨ t = 127) ∧ (∀ k, k = 5 ∨ k = 7 → (Zm.message s k 3 t).2.length = 0 ∧ Pm.ct (Zm.message s k 3 t).1.f 63 = i ∧ (Zm.cks (Zm.message s k 3 t).1).length = 0)) := by
  have hu : ∀ x, Zm.under s x = false := fun x => by unfold Zm.under; rw [h.a]; simp
  have g5 := sq_good (ty := 5) (ri := 3) (ai := t) (Or.inr (Or.inl rfl)) (by omega) (by omega) t0 t1
  have g7 := sq_good (ty := 7) (ri := 3) (ai := t) (Or.inr (Or.inr rfl)) (by omega) (by omega) t0 t1
  have m5 : Zm.message s 5 3 t = (s, if Zm.isFree s t then [Zm.say 6 0 t] else []) := by
    unfold Zm.message
    rw [g5, if_pos rfl, if_neg (by decide), if_pos rfl]
    unfold Zm.answer
    rw [hu]
    rfl
  have m7 : Zm.message s 7 3 t = Zm.verify s t := by
    unfold Zm.message
    rw [g7, if_pos rfl, if_neg (by decide), if_neg (by decide), if_pos rfl]
  have hk0 := dq_cks h
  by_cases ha : 64 ≤ t ∧ t ≤ 126
  · obtain ⟨p, hp⟩ : ∃ p : Nat, t = 64 + (p : Int) := ⟨(t - 64).toNat, by omega⟩
    have hp63 : p < 63 := by omega
    by_cases hlt : p < i
    · have hh : Pm.has s.f t = true := by rw [hp, Pm.has_of _ p hp63, h.f p hp63]; simpa using hlt
      have hfr : Zm.isFree s t = false := by unfold Zm.isFree; rw [hh]; simp
      cases vf with
      | true =>
        left
        have hv : Zm.message s 7 3 t = (Zm.ask s t 1, Zm.askE t) := by
          rw [m7]; unfold Zm.verify Zm.check Zm.checkN
          rw [hfr, hh, hu]; rfl
        refine ⟨ha.1, by omega, rfl, by rw [hv]; rfl, by rw [hv]; exact h.ct, ?_⟩
        rw [hv]
        unfold Zm.cks
        rw [List.length_map]
        show Pm.ct (Zm.ua (Zm.setC s (Pm.at' t) 1 0)) 63 = 1
        rw [Zm.ua_setC, hp, (Pm.au_of p hp63).2]
        have hz : Zm.ua s = fun _ => false := by funext q; unfold Zm.ua; rw [h.a q]; rfl
        rw [hz]
        show Pm.ct (Pm.upd (fun _ => false) p true) 63 = 1
        rw [Pm.ct_set (fun _ => false) hp63 rfl]
        first | rfl | decide | kernel_rfl
      | false =>
        right; left
        exact ⟨ha.1, by omega, rfl, by rw [m5, hfr]; rfl, by rw [m5]; exact h.ct, by rw [m5]; exact hk0⟩
    · right; right; left
      have hh : Pm.has s.f t = false := by rw [hp, Pm.has_of _ p hp63, h.f p hp63]; simpa using hlt
      have hfr : Zm.isFree s t = true := by unfold Zm.isFree; rw [hh, hp, (Pm.au_of p hp63).1]; rfl
      refine ⟨by omega, ha.2, fun k hk => ?_⟩
      rcases hk with rfl | rfl
      · rw [m5, hfr]; exact ⟨rfl, h.ct, hk0⟩
      · have hv : Zm.message s 7 3 t = (s, [Zm.say 6 0 t]) := by rw [m7]; unfold Zm.verify; rw [hfr]; rfl
        rw [hv]; exact ⟨rfl, h.ct, hk0⟩
  · right; right; right
    have hau : Pm.au t = false := by unfold Pm.au; simp; omega
    have hh : Pm.has s.f t = false := Pm.has_no _ hau
    have hfr : Zm.isFree s t = false := by unfold Zm.isFree; rw [hau]; rfl
    refine ⟨by omega, fun k hk => ?_⟩
    rcases hk with rfl | rfl
    · rw [m5, hfr]; exact ⟨rfl, h.ct, hk0⟩
    · have hv : Zm.message s 7 3 t = (s, []) := by rw [m7]; unfold Zm.verify Zm.check Zm.checkN; rw [hfr, hh]; rfl
      rw [hv]; exact ⟨rfl, h.ct, hk0⟩
theorem owns_checks {b : Nat} {W0 w : World} {C P M : Nat} {s : Zm.St} (h : OwnS b W0 w C P M s) : Calls Try.prog 13 #[.pointer (some ⟨C, 0, none⟩)] w fun r w' => ∃ a cap, r = .returned (.slice a (Zm.cks s).length cap) ∧ Below w.heap.size w w' ∧ OwnS b W0 w' C P M s :=
  (schecks_any C P M s w h.sr).mono fun r w' ⟨v, h1, h2, h3⟩ => by
    obtain ⟨a, cap, rfl⟩ := h2.form
    exact ⟨a, cap, h1, h3, h.below h3⟩
end Go.Proofs.Ytdnhcpkpajbhoab
