/-
  SourceAudits' own map: how many answers came for each place; with the source it stands in memory of the call's own.
-/
import Derived.Test.YtdnhcpkpajbhoabSrcAudMath
namespace Go.Proofs.Ytdnhcpkpajbhoab
open Go.RowKit Go.Maps Go.WideMaps
set_option linter.unusedVariables false
set_option linter.unusedSimpArgs false
set_option maxRecDepth 100000

/-- how an int reads -/
def intElem (v : Value) : Option (DataW Unit × List MemPlace) := match v with | .int .i64 n => some (.lit (.int .i64 n), []) | _ => none
theorem intElem_inv {v : Value} {n : Int} {ps : List MemPlace} (h : intElem v = some (.lit (.int .i64 n), ps)) : v = .int .i64 n := by
  unfold intElem at h
  split at h
  · injection h with h
    injection h with h _
    injection h with h
    injection h with _ h
    rw [h]
  · exact absurd h (by simp)
theorem zeroInt (w : World) : (zeroValue 3).run Try.prog w = .ok (.int .i64 0) w := by kernel_rfl
/-- block Q is such a map: k counts came -/
structure CtIs (w : World) (Q k : Nat) (c : Nat → Nat) : Prop where
  own : ∃ D, w.ownsMap Try.prog 3 intElem Q k D ∧ ∀ p : Nat, p < 63 → D.atKey (ik (64 + (p : Int))) (.lit (.int .i64 0)) = .lit (.int .i64 (c p))
  le : ∀ p, c p ≤ k
section
variable {w w' : World} {Q k : Nat} {c : Nat → Nat}
theorem CtIs.lt (h : CtIs w Q k c) : Q < w.heap.size := by obtain ⟨D, h, _⟩ := h.own; exact h.lt
theorem CtIs.of_block (h : CtIs w Q k c) (hb : w'.heap[Q]? = w.heap[Q]?) : CtIs w' Q k c := by
  obtain ⟨⟨D, ⟨es, clock, h1, F, hs, hD⟩, hR⟩, hl⟩ := h
  exact ⟨⟨D, ⟨es, clock, hb.trans h1, F, hs, hD⟩, hR⟩, hl⟩
theorem CtIs.below (h : CtIs w Q k c) (hb : Below w.heap.size w w') : CtIs w' Q k c := h.of_block (hb.block Q h.lt)
theorem CtIs.kept {T : Nat → Prop} (h : CtIs w Q k c) (hk : Kept w w' T) (hT : ¬ T Q) : CtIs w' Q k c := h.of_block (hk.block Q h.lt hT)
theorem ctIs_made (w : World) : CtIs (w.alloc (.map #[] 0)) w.heap.size 0 (fun _ => 0) := ⟨⟨.map [], World.ownsMap_made _ _ _ _, fun p hp => rfl⟩, fun _ => Nat.le_refl _⟩
theorem CtIs.look (h : CtIs w Q k c) {p : Nat} (hp : p < 63) : (Instr.lookup 62 (.map (some Q)) (.int .i64 (64 + (p : Int))) false).run Try.prog w = .ok (.int .i64 (c p)) w := by
  obtain ⟨D, ho, hR⟩ := h.own
  obtain ⟨v, ps, hrun, hv⟩ := ho.lookup ilaw Try.underlying62 (zeroInt w) (zd := .lit (.int .i64 0)) (zp := []) rfl (ik_of (in_place p hp))
  rw [hR p hp] at hv
  rw [intElem_inv hv] at hrun
  exact hrun
theorem CtIs.store (h : CtIs w Q k c) (hk : k ≤ 1000) {p : Nat} (hp : p < 63) {v : Int} (hv : v = ((c p + 1 : Nat) : Int)) : ∃ w', (Instr.mapUpdate 62 (.map (some Q)) (.int .i64 (64 + (p : Int))) (.int .i64 v)).run Try.prog w = .ok () w' ∧ CtIs w' Q (k + 1) (Zm.upn c p (c p + 1)) ∧ Kept w w' (fun k => k = Q) := by
  subst hv
  obtain ⟨D, ho, hR⟩ := h.own
  obtain ⟨w', hrun, ho', ht⟩ := ho.store ilaw Try.underlying62 (by unfold maxLen; omega) (ik_of (in_place p hp)) (show intElem (.int .i64 ((c p + 1 : Nat) : Int)) = some (.lit (.int .i64 ((c p + 1 : Nat) : Int)), []) from rfl)
  refine ⟨w', hrun, ⟨⟨_, ho', fun i hi => ?_⟩, fun i => ?_⟩, Kept.of_grown ht.grown (fun k e => by injection e with e; exact e.symm)⟩
  · by_cases e : i = p
    · subst e
      rw [Zm.upn_same]
      exact atKey_put_same (ho.tidy ilaw).isMap (ik_key _) _ _
    · rw [Zm.upn_other _ _ _ e, atKey_put_other (ik_ne (by omega))]
      exact hR i hi
  · by_cases e : i = p
    · subst e; rw [Zm.upn_same]; have := h.le i; omega
    · rw [Zm.upn_other _ _ _ e]; have := h.le i; omega
end
theorem cmk (W : World) : (Instr.makeMap 62 none).run Try.prog W = .ok (.map (some W.heap.size)) (W.alloc (.map #[] 0)) := by
  kernel_rfl
/-- the source behind its audit, and the counts -/
structure AudS (b : Nat) (W0 w : World) (C P M Q k n : Nat) (c r : Nat → Nat) (s : Zm.St) : Prop where
  o : OwnS b W0 w C P M s
  d : Ad s n c r
  q : CtIs w Q k c
  ne : Q ≠ C ∧ Q ≠ P ∧ Q ≠ M
  bq : b ≤ Q
section
variable {b : Nat} {W0 w w' : World} {C P M Q k n : Nat} {c r : Nat → Nat} {s : Zm.St}
theorem AudS.below (h : AudS b W0 w C P M Q k n c r s) (hb : Below w.heap.size w w') : AudS b W0 w' C P M Q k n c r s := ⟨h.o.below hb, h.d, h.q.below hb, h.ne, h.bq⟩
theorem AudS.moved {s' : Zm.St} {c' r' : Nat → Nat} (h : AudS b W0 w C P M Q k n c r s) (hm : Mvs w w' C P M s') (hd : Ad s' n c r') : AudS b W0 w' C P M Q k n c r' s' :=
  ⟨h.o.then hm, hd, h.q.kept hm.2 (fun e => by rcases e with e | e; exact h.ne.2.1 e; exact h.ne.2.2 e), h.ne, h.bq⟩
/-- an answer is counted, and comes -/
theorem AudS.counted (h : AudS b W0 w C P M Q k n c r s) {w1 : World} {c' : Nat → Nat} {k' : Nat} (hq : CtIs w1 Q k' c') (hk : Kept w w1 (fun k => k = Q)) : OwnS b W0 w1 C P M s :=
  ⟨h.o.sr.kept hk (fun e => h.ne.1 e.symm) (fun e => h.ne.2.1 e.symm) (fun e => h.ne.2.2 e.symm), h.o.bC, h.o.bP, h.o.bM, h.o.bel.trans (hk.below h.o.bs (fun k e => by rw [e]; exact h.bq))⟩
end
end Go.Proofs.Ytdnhcpkpajbhoab
