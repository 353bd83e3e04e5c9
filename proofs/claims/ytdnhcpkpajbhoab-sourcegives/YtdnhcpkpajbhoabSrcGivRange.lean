/-
  SourceGives' map of what is given, gone through: how many are true, whatever the order.
-/
import Derived.Test.YtdnhcpkpajbhoabSrcGivRow
import Derived.Maps.Range
import Derived.Test.YtdnhcpkpajbhoabSrcChks
namespace Go.Proofs.Ytdnhcpkpajbhoab
open Go.RowKit Go.Maps Go.WideMaps
set_option linter.unusedVariables false
set_option linter.unusedSimpArgs false
set_option maxRecDepth 100000

theorem ct_eq {f g : Nat → Bool} : ∀ {m : Nat}, (∀ p, p < m → f p = g p) → Pm.ct f m = Pm.ct g m
  | 0, _ => rfl
  | m + 1, h => by
    have ih := ct_eq (m := m) (fun p hp => h p (by omega))
    have hm := h m (by omega)
    cases e : f m with
    | true => rw [Pm.ct_on e, Pm.ct_on (by rw [← hm]; exact e), ih]
    | false => rw [Pm.ct_off e, Pm.ct_off (by rw [← hm]; exact e), ih]
theorem Gv.sub {D : DataW Unit} {hs f : Nat → Bool} (h : Gv D hs f) {p : Nat} (hp : p < 63) (hf : f p = true) : Maps.has D (ik (64 + (p : Int))) = true := by
  cases hh : Maps.has D (ik (64 + (p : Int))) with
  | true => rfl
  | false =>
    have h1 := h.val p hp
    rw [atKey_of_not_has hh, hf] at h1
    exact absurd h1 (by simp)
/-- under way: block r is the iterator; n of the true ones are through -/
def RgS (w : World) (M r : Nat) (hs f : Nat → Bool) (n : Nat) : Prop :=
  ∃ D left cnt, w.ranges Try.prog 3 boolElem M r 63 D left cnt ∧ Gv D hs f ∧ (∀ kl, left kl = true → Maps.has D kl = true) ∧ Pm.ct (fun p => f p && !left (ik (64 + (p : Int)))) 63 = n
section
variable {w w' : World} {M r n : Nat} {hs f : Nat → Bool}
theorem RgS.is (h : RgS w M r hs f n) : GvIs w M hs f := by obtain ⟨D, left, cnt, h1, h2, _⟩ := h; exact ⟨D, h1.owns, h2⟩
theorem RgS.lt (h : RgS w M r hs f n) : r < w.heap.size := by obtain ⟨D, left, cnt, h1, h2, _⟩ := h; exact h1.lt
theorem GvIs.range (h : GvIs w M hs f) : ∃ w', (Instr.range 46 (.map (some M))).run Try.prog w = .ok (.pointer (some ⟨w.heap.size, 0, none⟩)) w' ∧ RgS w' M w.heap.size hs f 0 ∧ Below w.heap.size w w' := by
  obtain ⟨D, ho, hR⟩ := h
  obtain ⟨w', hrun, hr, hg, hsz⟩ := ho.range ilaw Try.underlying46
  refine ⟨w', hrun, ⟨D, _, _, hr, hR, fun _ h => h, ?_⟩, ?_⟩
  · rw [ct_eq (g := fun _ => false) (fun p hp => by
      cases hf : f p with
      | false => rfl
      | true => rw [hR.sub hp hf]; rfl)]
    first | rfl | decide | kernel_rfl
  · exact (Kept.of_grown hg (T := fun _ => False) (fun k e => by cases e)).below (Nat.le_refl _) (fun k x => x.elim)
theorem RgS.next (h : RgS w M r hs f n) (ty : TypeId) :
    (Pm.ct f 63 = n ∧ (Instr.next (.pointer (some ⟨r, 0, none⟩)) false ty).run Try.prog w = .ok (.tuple #[.bool false]) w) ∨
    ∃ (p : Nat) (v : Value) (w' : World), p < 63 ∧ (Instr.next (.pointer (some ⟨r, 0, none⟩)) false ty).run Try.prog w = .ok (.tuple #[.bool true, .int .i64 (64 + (p : Int)), v]) w' ∧ RgS w' M r hs f (n + if f p then 1 else 0) ∧ Kept w w' (fun k => k = r) ∧ w'.rangeLeft M r < w.rangeLeft M r ∧ (Instr.entry (.pointer (some ⟨r, 0, none⟩))).run Try.prog w' = .ok (.tuple #[.int .i64 (64 + (p : Int)), v]) w' := by
  obtain ⟨D, left, cnt, hr, hR, hsub, hn⟩ := h
  rcases hr.next ilaw ty with ⟨_, hall, hrun⟩ | ⟨key, v, kl, y, w', cnt', hk, hl, _, _, hrun, hr', hlt, hg, _, hent⟩
  · refine Or.inl ⟨?_, hrun⟩
    rw [← hn]
    exact ct_eq (fun p hp => by rw [hall]; simp)
  · obtain ⟨x, rfl, rfl, hx⟩ := Maps.keyOf_i64 Try.underlying3 hk
    have hin : In64 x := by
      have := hx
      simp [Lit.wf, IntKind.min, IntKind.max, IntKind.signed, IntKind.bits] at this
      constructor <;> omega
    have hh : Maps.has D (ik x) = true := hsub _ hl
    rw [hR.has x hin] at hh
    have hau : Pm.au x = true := by
      cases ha : Pm.au x with
      | true => rfl
      | false => rw [Pm.has_no _ ha] at hh; cases hh
    obtain ⟨p, hp, rfl, -⟩ := Pm.au_place hau
    refine Or.inr ⟨p, v, w', hp, hrun, ⟨D, _, _, hr', hR, fun kl h => hsub kl (by simp at h; exact h.1), ?_⟩, Kept.of_grown hg (fun k e => by injection e with e; exact e.symm), by rw [hr'.left_eq, hr.left_eq]; exact hlt, hent⟩
    have hl' : left (ik (64 + (p : Int))) = true := hl
    have hsame : ∀ q : Nat, (ik (64 + (q : Int))).sameKey (.int .i64 (64 + (p : Int))) = decide (q = p) := fun q => by
      show (ik (64 + (q : Int))).sameKey (ik (64 + (p : Int))) = _
      by_cases e : q = p
      · subst e; rw [WideAt.sameKey_self (ik_key _)]; simp
      · rw [decide_eq_false e]
        cases hs : (ik (64 + (q : Int))).sameKey (ik (64 + (p : Int))) with
        | false => rfl
        | true => exact absurd (WideAt.sameKey_eq hs) (ik_ne (by omega))
    cases hf : f p with
    | false =>
      rw [← hn]
      simp only [Bool.false_eq_true, if_false, Nat.add_zero]
      refine ct_eq (fun q hq => ?_)
      rw [hsame]
      by_cases e : q = p
      · subst e; rw [hf]; rfl
      · simp [e]
    | true =>
      rw [← hn]
      simp only [if_true]
      have h0 : (fun q : Nat => f q && !left (ik (64 + (q : Int)))) p = false := by
        show (f p && !left (ik (64 + (p : Int)))) = false
        rw [hl']; simp
      rw [← Pm.ct_set _ hp h0]
      refine ct_eq (fun q hq => ?_)
      rw [hsame]
      by_cases e : q = p
      · subst e; rw [Pm.upd_same, hf]; simp
      · rw [Pm.upd_other _ _ _ e]; simp [e]
end
end Go.Proofs.Ytdnhcpkpajbhoab
