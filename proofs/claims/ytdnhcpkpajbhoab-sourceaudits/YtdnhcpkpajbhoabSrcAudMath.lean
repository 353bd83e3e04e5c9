/-
  What SourceAudits does, told plainly: behind an audit each place's state hangs on how many answers came for it, and how many timers were over.
-/
import Derived.Test.YtdnhcpkpajbhoabSrcStray
namespace Go.Proofs.Ytdnhcpkpajbhoab
open Go.RowKit
set_option linter.unusedVariables false
set_option linter.unusedSimpArgs false
set_option maxRecDepth 100000

/-- is it assigned; how often was it asked; how many answers: k came, r timers were over -/
def gf (k r : Nat) : Bool := if k = 0 then decide (r < 2) else decide (k = 1)
def ga (k r : Nat) : Nat := if k = 0 then (if r < 2 then r + 1 else 0) else if k = 1 then (if r < 1 then 1 else 0) else 0
def gn (k r : Nat) : Nat := if k = 1 then (if r < 1 then 1 else 0) else 0
structure Ad (s : Zm.St) (n : Nat) (c r : Nat → Nat) : Prop where
  f : ∀ p, p < 63 → s.f p = (decide (p < n) && gf (c p) (r p))
  a : ∀ p, s.a p = if p < n then ga (c p) (r p) else 0
  m : ∀ p, s.n p = if p < n then gn (c p) (r p) else 0
section
variable {s : Zm.St} {n : Nat} {c r : Nat → Nat}
theorem ad_new (h : Dq s n) (hn : n ≤ 63) : Ad (Zm.audit s) n (fun _ => 0) (fun _ => 0) := by
  refine ⟨fun p hp => ?_, fun p => ?_, fun p => ?_⟩
  · show s.f p = _
    rw [h.f p hp]
    simp [gf]
  · show (if p < 63 ∧ s.f p = true then 1 else s.a p) = _
    by_cases e : p < n
    · rw [if_pos ⟨by omega, by rw [h.f p (by omega)]; simpa using e⟩, if_pos e]; rfl
    · rw [if_neg (fun x => by have := x.2; rw [h.f p x.1] at this; exact e (by simpa using this)), if_neg e, h.a p]
  · show (if p < 63 ∧ s.f p = true then 0 else s.n p) = _
    rw [h.n p]
    simp [gn]
theorem Ad.congr {r' : Nat → Nat} (h : Ad s n c r) (hr : ∀ p, p < n → r p = r' p) : Ad s n c r' := by
  refine ⟨fun p hp => ?_, fun p => ?_, fun p => ?_⟩
  · rw [h.f p hp]
    by_cases e : p < n
    · rw [hr p e]
    · simp [e]
  · rw [h.a p]
    by_cases e : p < n
    · rw [hr p e]
    · simp [e]
  · rw [h.m p]
    by_cases e : p < n
    · rw [hr p e]
    · simp [e]
/-- one place is turned -/
theorem Ad.turn {s' : Zm.St} {c' r' : Nat → Nat} {p : Nat} (h : Ad s n c r) (hp : p < n) (hf : ∀ i, i ≠ p → s'.f i = s.f i) (ha : ∀ i, i ≠ p → s'.a i = s.a i) (hm : ∀ i, i ≠ p → s'.n i = s.n i) (hc : ∀ i, i ≠ p → c' i = c i) (hr : ∀ i, i ≠ p → r' i = r i)
    (kf : s'.f p = gf (c' p) (r' p)) (ka : s'.a p = ga (c' p) (r' p)) (km : s'.n p = gn (c' p) (r' p)) : Ad s' n c' r' := by
  refine ⟨fun i hi => ?_, fun i => ?_, fun i => ?_⟩
  · by_cases e : i = p
    · subst e; rw [kf]; simp [hp]
    · rw [hf i e, h.f i hi, hc i e, hr i e]
  · by_cases e : i = p
    · subst e; rw [ka, if_pos hp]
    · rw [ha i e, h.a i, hc i e, hr i e]
  · by_cases e : i = p
    · subst e; rw [km, if_pos hp]
    · rw [hm i e, h.m i, hc i e, hr i e]
theorem drop_other {p i : Nat} (hp : p < 63) (hu : Zm.under s (64 + (p : Int)) = true) (e : i ≠ p) : (Zm.drop s (64 + (p : Int))).a i = s.a i ∧ (Zm.drop s (64 + (p : Int))).n i = s.n i ∧ (Zm.drop s (64 + (p : Int))).a p = 0 ∧ (Zm.drop s (64 + (p : Int))).n p = 0 := by
  unfold Zm.drop
  rw [hu, if_pos rfl, (Pm.au_of p hp).2]
  exact ⟨Zm.upn_other _ _ _ e, Zm.upn_other _ _ _ e, Zm.upn_same _ _ _, Zm.upn_same _ _ _⟩
theorem free_at {t : Zm.St} {p : Nat} (hp : p < 63) : (∀ i, i ≠ p → (Zm.free t (64 + (p : Int))).f i = t.f i) ∧ (Zm.free t (64 + (p : Int))).f p = false := by
  have he : (Zm.free t (64 + (p : Int))).f = Pm.frF t.f (64 + (p : Int)) := rfl
  rw [he]
  cases hh : Pm.has t.f (64 + (p : Int)) with
  | false =>
    rw [Pm.fr_no hh]
    rw [Pm.has_of _ p hp] at hh
    exact ⟨fun _ _ => rfl, hh⟩
  | true =>
    obtain ⟨_, _, h3⟩ := Pm.fr_ok hh
    rw [h3, (Pm.au_of p hp).2]
    exact ⟨fun i e => Pm.upd_other _ _ _ e, Pm.upd_same _ _ _⟩
/-- an answer comes -/
theorem ad_more (h : Ad s n c (fun _ => 0)) (hn : n ≤ 63) {p : Nat} (hp : p < n) : Ad (Zm.message s 5 5 (64 + (p : Int))).1 n (Zm.upn c p (c p + 1)) (fun _ => 0) := by
  have hp63 : p < 63 := by omega
  have e1 : (Zm.message s 5 5 (64 + (p : Int))).1 = (Zm.answer s (64 + (p : Int))).1 := by
    unfold Zm.message
    rw [sq_good (Or.inr (Or.inl rfl)) (by omega) (by omega) (by omega) (by omega), if_pos rfl, if_neg (by decide), if_pos rfl]
  rw [e1]
  have ha := h.a p
  have hm := h.m p
  have hf := h.f p hp63
  rw [if_pos hp] at ha hm
  have hu := Zm.under_of s p hp63
  rw [ha] at hu
  unfold Zm.answer
  rw [(Pm.au_of p hp63).2]
  by_cases c0 : c p = 0
  · rw [c0] at ha hm hu hf
    have hu' : Zm.under s (64 + (p : Int)) = true := hu
    rw [hu', if_pos rfl, hm, if_neg (by decide)]
    refine h.turn hp (fun i e => rfl) (fun i e => Zm.upn_other _ _ _ e) (fun i e => Zm.upn_other _ _ _ e) (fun i e => Zm.upn_other _ _ _ e) (fun i e => rfl) ?_ ?_ ?_
    · show s.f p = _
      rw [Zm.upn_same, hf, c0]; simp [hp, gf]
    · show Zm.upn s.a p (s.a p) p = _
      rw [Zm.upn_same, Zm.upn_same, ha, c0]; rfl
    · show Zm.upn s.n p 1 p = _
      rw [Zm.upn_same, Zm.upn_same, c0]; rfl
  · by_cases c1 : c p = 1
    · rw [c1] at ha hm hu hf
      have hu' : Zm.under s (64 + (p : Int)) = true := hu
      rw [hu', if_pos rfl, hm, if_pos (by decide)]
      have hd := fun i (e : i ≠ p) => drop_other hp63 hu' e
      have hd0 := drop_other (i := p + 1) hp63 hu' (by omega)
      refine h.turn hp (fun i e => ?_) (fun i e => (hd i e).1) (fun i e => (hd i e).2.1) (fun i e => Zm.upn_other _ _ _ e) (fun i e => rfl) ?_ ?_ ?_
      · exact ((free_at hp63).1 i e).trans (by rw [Zm.drop_f])
      · rw [Zm.upn_same, c1]; exact (free_at hp63).2
      · rw [Zm.upn_same, c1]; exact hd0.2.2.1
      · rw [Zm.upn_same, c1]; exact hd0.2.2.2
    · have ea : ga (c p) 0 = 0 := by unfold ga; rw [if_neg c0, if_neg c1]
      have en : gn (c p) 0 = 0 := by unfold gn; rw [if_neg c1]
      have ef : gf (c p) 0 = false := by unfold gf; rw [if_neg c0]; simpa using c1
      rw [ea] at ha hu
      rw [en] at hm
      rw [ef] at hf
      have hu' : Zm.under s (64 + (p : Int)) = false := hu
      rw [hu', if_neg (by decide)]
      refine h.turn hp (fun i e => rfl) (fun i e => rfl) (fun i e => rfl) (fun i e => Zm.upn_other _ _ _ e) (fun i e => rfl) ?_ ?_ ?_
      · rw [Zm.upn_same]; show s.f p = _; rw [hf]; unfold gf; rw [if_neg (by omega)]; simp [c0]
      · rw [Zm.upn_same]; show s.a p = _; rw [ha]; unfold ga; rw [if_neg (by omega), if_neg (by omega)]
      · rw [Zm.upn_same]; show s.n p = _; rw [hm]; unfold gn; rw [if_neg (by omega)]
/-- a timer is over -/
theorem ad_time (h : Ad s n c r) (hn : n ≤ 63) {p : Nat} (hp : p < n) (hr : r p < 2) : Ad (Zm.timeout s (64 + (p : Int))).1 n c (Zm.upn r p (r p + 1)) := by
  have hp63 : p < 63 := by omega
  have ha := h.a p
  have hm := h.m p
  have hf := h.f p hp63
  rw [if_pos hp] at ha hm
  have hu := Zm.under_of s p hp63
  rw [ha] at hu
  unfold Zm.timeout
  rw [(Pm.au_of p hp63).2]
  have hr2 : r p = 0 ∨ r p = 1 := by omega
  by_cases c0 : c p = 0
  · rw [c0] at ha hm hu hf
    rcases hr2 with hr2 | hr2
    · rw [hr2] at ha hm hu hf
      have hu' : Zm.under s (64 + (p : Int)) = true := hu
      have ha' : s.a p = 1 := ha
      have hm' : s.n p = 0 := hm
      rw [hu', if_pos rfl, hm', ha', if_pos (by decide)]
      unfold Zm.ask
      rw [(Pm.au_of p hp63).2]
      refine h.turn hp (fun i e => rfl) (fun i e => Zm.upn_other _ _ _ e) (fun i e => Zm.upn_other _ _ _ e) (fun i e => rfl) (fun i e => Zm.upn_other _ _ _ e) ?_ ?_ ?_
      · show s.f p = _
        rw [hf, Zm.upn_same, hr2, c0]; simp [hp, gf]
      · show Zm.upn s.a p (1 + 1) p = _
        rw [Zm.upn_same, Zm.upn_same, hr2, c0]; rfl
      · show Zm.upn s.n p 0 p = _
        rw [Zm.upn_same, Zm.upn_same, hr2, c0]; rfl
    · rw [hr2] at ha hm hu hf
      have hu' : Zm.under s (64 + (p : Int)) = true := hu
      have ha' : s.a p = 2 := ha
      have hm' : s.n p = 0 := hm
      rw [hu', if_pos rfl, hm', ha', if_neg (by decide), if_neg (by decide)]
      have hd := fun i (e : i ≠ p) => drop_other hp63 hu' e
      have hd0 := drop_other (i := p + 1) hp63 hu' (by omega)
      refine h.turn hp (fun i e => ?_) (fun i e => (hd i e).1) (fun i e => (hd i e).2.1) (fun i e => rfl) (fun i e => Zm.upn_other _ _ _ e) ?_ ?_ ?_
      · exact ((free_at hp63).1 i e).trans (by rw [Zm.drop_f])
      · rw [Zm.upn_same, c0, hr2]; exact (free_at hp63).2
      · rw [Zm.upn_same, c0, hr2]; exact hd0.2.2.1
      · rw [Zm.upn_same, c0, hr2]; exact hd0.2.2.2
  · by_cases c1 : c p = 1
    · rw [c1] at ha hm hu hf
      rcases hr2 with hr2 | hr2
      · rw [hr2] at ha hm hu hf
        have hu' : Zm.under s (64 + (p : Int)) = true := hu
        have ha' : s.a p = 1 := ha
        have hm' : s.n p = 1 := hm
        rw [hu', if_pos rfl, hm', ha', if_neg (by decide), if_pos (by decide)]
        have hd := fun i (e : i ≠ p) => drop_other hp63 hu' e
        have hd0 := drop_other (i := p + 1) hp63 hu' (by omega)
        refine h.turn hp (fun i e => by rw [Zm.drop_f]) (fun i e => (hd i e).1) (fun i e => (hd i e).2.1) (fun i e => rfl) (fun i e => Zm.upn_other _ _ _ e) ?_ ?_ ?_
        · rw [Zm.drop_f, hf, Zm.upn_same, c1, hr2]; simp [hp, gf]
        · rw [Zm.upn_same, c1, hr2]; exact hd0.2.2.1
        · rw [Zm.upn_same, c1, hr2]; exact hd0.2.2.2
      · rw [hr2] at ha hm hu hf
        have hu' : Zm.under s (64 + (p : Int)) = false := hu
        rw [hu', if_neg (by decide)]
        refine h.turn hp (fun i e => rfl) (fun i e => rfl) (fun i e => rfl) (fun i e => rfl) (fun i e => Zm.upn_other _ _ _ e) ?_ ?_ ?_
        · rw [Zm.upn_same, c1, hr2]; show s.f p = _; rw [hf]; simp [hp, gf]
        · rw [Zm.upn_same, c1, hr2]; show s.a p = _; rw [ha]; rfl
        · rw [Zm.upn_same, c1, hr2]; show s.n p = _; rw [hm]; rfl
    · have ea : ∀ q, ga (c p) q = 0 := fun q => by unfold ga; rw [if_neg c0, if_neg c1]
      have en : ∀ q, gn (c p) q = 0 := fun q => by unfold gn; rw [if_neg c1]
      have ef : ∀ q, gf (c p) q = false := fun q => by unfold gf; rw [if_neg c0]; simpa using c1
      rw [ea] at ha hu
      rw [en] at hm
      rw [ef] at hf
      have hu' : Zm.under s (64 + (p : Int)) = false := hu
      rw [hu', if_neg (by decide)]
      refine h.turn hp (fun i e => rfl) (fun i e => rfl) (fun i e => rfl) (fun i e => rfl) (fun i e => Zm.upn_other _ _ _ e) ?_ ?_ ?_
      · rw [ef]; show s.f p = _; rw [hf]; simp
      · rw [ea]; exact ha
      · rw [en]; exact hm
/-- a timer of a TEI that nobody has -/
theorem ad_none (h : Ad s n c r) (hn : n ≤ 63) {t : Int} (ht : t < 64 ∨ 64 + (n : Int) ≤ t) : (Zm.timeout s t).1 = s := by
  have hu : Zm.under s t = false := by
    cases ha : Pm.au t with
    | false => exact Zm.under_no s ha
    | true =>
      obtain ⟨p, hp, rfl, _⟩ := Pm.au_place ha
      rw [Zm.under_of s p hp, h.a p, if_neg (by omega)]
      rfl
  unfold Zm.timeout
  rw [hu, if_neg (by decide)]
/-- how many timers of each place were over, in round R ahead of TEI T -/
def rT (R T : Nat) (p : Nat) : Nat := R + (if 64 + p < T then 1 else 0)
theorem ad_round {R T : Nat} (h : Ad s n c (rT R T)) (hn : n ≤ 63) (hR : R < 2) : Ad (Zm.timeout s (T : Int)).1 n c (rT R (T + 1)) := by
  by_cases ht : 64 ≤ T ∧ T < 64 + n
  · obtain ⟨p, rfl⟩ : ∃ p, T = 64 + p := ⟨T - 64, by omega⟩
    have e0 : rT R (64 + p) p = R := by unfold rT; rw [if_neg (by omega)]; omega
    have h1 := ad_time h hn (p := p) (by omega) (by rw [e0]; exact hR)
    have e1 : ((64 + p : Nat) : Int) = 64 + (p : Int) := by omega
    rw [e1]
    refine h1.congr (fun i hi => ?_)
    by_cases e : i = p
    · rw [e, Zm.upn_same, e0]; unfold rT; rw [if_pos (by omega)]
    · rw [Zm.upn_other _ _ _ e]
      unfold rT
      by_cases hlt : i < p
      · rw [if_pos (by omega), if_pos (by omega)]
      · rw [if_neg (by omega), if_neg (by omega)]
  · rw [ad_none h hn (by omega)]
    refine h.congr (fun i hi => ?_)
    unfold rT
    by_cases hlt : 64 + i < T
    · rw [if_pos hlt, if_pos (by omega)]
    · rw [if_neg hlt, if_neg (by omega)]
theorem ad_next {R : Nat} (h : Ad s n c (rT R 128)) (hn : n ≤ 63) : Ad s n c (rT (R + 1) 0) := h.congr (fun i hi => by unfold rT; rw [if_pos (by omega), if_neg (by omega)])
/-- who stays: one answer -/
def fin (n : Nat) (c : Nat → Nat) (p : Nat) : Bool := decide (p < n) && decide (c p = 1)
theorem ct_same {f g : Nat → Bool} : ∀ {m : Nat}, (∀ p, p < m → f p = g p) → Pm.ls f m = Pm.ls g m
  | 0, _ => rfl
  | m + 1, h => by
    have ih := ct_same (m := m) (fun p hp => h p (by omega))
    have hm := h m (by omega)
    cases e : f m with
    | true => rw [Pm.ls_on e, Pm.ls_on (by rw [← hm]; exact e), ih]
    | false => rw [Pm.ls_off e, Pm.ls_off (by rw [← hm]; exact e), ih]
theorem ct_cut {f : Nat → Bool} {n : Nat} : ∀ {m : Nat}, (∀ p, n ≤ p → f p = false) → n ≤ m → Pm.ct f m = Pm.ct f n
  | 0, _, h => by rw [show n = 0 by omega]
  | m + 1, hf, h => by
    by_cases e : n = m + 1
    · rw [e]
    · rw [Pm.ct_off (hf m (by omega)), ct_cut hf (by omega)]
theorem ad_end (h : Ad s n c (rT 2 0)) (hn : n ≤ 63) : Pm.ls s.f 63 = Pm.ls (fin n c) 63 ∧ Pm.ct s.f 63 = Pm.ct (fin n c) n ∧ (Zm.cks s).length = 0 := by
  have e2 : ∀ p, rT 2 0 p = 2 := fun p => by unfold rT; rw [if_neg (by omega)]
  have h1 : Pm.ls s.f 63 = Pm.ls (fin n c) 63 := ct_same (fun p hp => by
    rw [h.f p hp, e2]
    unfold fin gf
    by_cases c0 : c p = 0
    · rw [if_pos c0, c0]; simp
    · rw [if_neg c0])
  refine ⟨h1, ?_, ?_⟩
  · show (Pm.ls s.f 63).length = _
    rw [h1]
    exact ct_cut (fun p hp => by unfold fin; simp; omega) hn
  · unfold Zm.cks
    rw [List.length_map]
    have : Zm.ua s = fun _ => false := by
      funext p
      unfold Zm.ua
      rw [h.a p, e2]
      have : ga (c p) 2 = 0 := by unfold ga; split <;> (try split) <;> first | rfl | omega
      rw [this]
      simp
    rw [this]
    show Pm.ct (fun _ => false) 63 = 0
    first | rfl | decide | kernel_rfl
end
end Go.Proofs.Ytdnhcpkpajbhoab
