/-
  SourceGives' own maps: which TEIs it holds for given, whose timers run; its function 'look'.
-/
import Derived.Test.YtdnhcpkpajbhoabSrcGivMath
namespace Go.Proofs.Ytdnhcpkpajbhoab
open Go.RowKit Go.Maps Go.WideMaps
set_option linter.unusedVariables false
set_option linter.unusedSimpArgs false
set_option maxRecDepth 100000

/-- keys at the places of hs; true at those of f -/
structure Gv (D : DataW Unit) (hs f : Nat → Bool) : Prop where
  has : ∀ t : Int, In64 t → Maps.has D (ik t) = Pm.has hs t
  val : ∀ p : Nat, p < 63 → D.atKey (ik (64 + (p : Int))) (.lit (.bool false)) = .lit (.bool (f p))
  size : Maps.size D = Pm.ct hs 63
theorem gv_nil : Gv (.map []) (fun _ => false) (fun _ => false) := by
  refine ⟨fun t _ => ?_, fun p hp => rfl, rfl⟩
  show false = _
  unfold Pm.has; simp
theorem Gv.put {D : DataW Unit} {hs f : Nat → Bool} (h : Gv D hs f) (hD : Tidy D) {p : Nat} (hp : p < 63) (v : Bool) : Gv (D.put (ik (64 + (p : Int))) (.lit (.bool v))) (Pm.upd hs p true) (Pm.upd f p v) := by
  refine ⟨fun t ht => ?_, fun i hi => ?_, ?_⟩
  · rw [has_upd hs hp]
    by_cases e : t = 64 + (p : Int)
    · rw [if_pos e, e, has_put_same hD.isMap (ik_key _)]
    · rw [if_neg e, has_put_other (ik_ne e), h.has t ht]
  · by_cases e : i = p
    · subst e; rw [Pm.upd_same]; exact atKey_put_same hD.isMap (ik_key _) _ _
    · rw [Pm.upd_other _ _ _ e, atKey_put_other (ik_ne (by omega))]
      exact h.val i hi
  · rw [size_put hD, h.has _ (in_place p hp), Pm.has_of hs p hp]
    cases hf : hs p with
    | false => rw [Pm.ct_set hs hp hf, h.size]; rfl
    | true => rw [Pm.upd_id hf, h.size]; rfl
theorem Gv.del {D : DataW Unit} {hs f : Nat → Bool} (h : Gv D hs f) (hD : Tidy D) {t : Int} (ht : In64 t) (hsub : ∀ p, p < 63 → hs p = f p) : Gv (D.del (ik t)) (Pm.frF hs t) (Pm.frF f t) := by
  have hhf : ∀ t, Pm.has hs t = Pm.has f t := fun t => by
    cases ha : Pm.au t with
    | false => rw [Pm.has_no _ ha, Pm.has_no _ ha]
    | true =>
      obtain ⟨p, hp, rfl, -⟩ := Pm.au_place ha
      rw [Pm.has_of _ p hp, Pm.has_of _ p hp, hsub p hp]
  cases hh : Pm.has hs t with
  | false =>
    rw [del_of_not_has (by rw [h.has t ht, hh]), Pm.fr_no hh, Pm.fr_no (by rw [← hhf]; exact hh)]
    exact h
  | true =>
    obtain ⟨ha, hf, he⟩ := Pm.fr_ok hh
    obtain ⟨_, _, he2⟩ := Pm.fr_ok (show Pm.has f t = true by rw [← hhf]; exact hh)
    obtain ⟨p, hp, rfl, hat⟩ := Pm.au_place ha
    rw [hat] at hf he he2
    rw [he, he2]
    have h0 : Maps.has D (ik (64 + (p : Int))) = true := by rw [h.has _ ht, hh]
    refine ⟨fun t' ht' => ?_, fun i hi => ?_, ?_⟩
    · rw [has_upd hs hp]
      by_cases e : t' = 64 + (p : Int)
      · rw [if_pos e, e, has_del_same]
      · rw [if_neg e, has_del_other (ik_ne e), h.has t' ht']
    · by_cases e : i = p
      · subst e; rw [Pm.upd_same]; exact atKey_of_not_has has_del_same _
      · rw [Pm.upd_other _ _ _ e, atKey_del_other (ik_ne (by omega))]
        exact h.val i hi
    · have h1 := size_del (k := ik (64 + (p : Int))) hD
      have h2 := Pm.ct_unset hs hp hf
      rw [h0, h.size] at h1
      simp only [if_true] at h1
      omega
/-- block M is such a map -/
def GvIs (w : World) (M : Nat) (hs f : Nat → Bool) : Prop := ∃ D, w.ownsMap Try.prog 3 boolElem M 63 D ∧ Gv D hs f
section
variable {w w' : World} {M : Nat} {hs f : Nat → Bool}
theorem GvIs.lt (h : GvIs w M hs f) : M < w.heap.size := by obtain ⟨D, h, _⟩ := h; exact h.lt
theorem GvIs.of_block (h : GvIs w M hs f) (hb : w'.heap[M]? = w.heap[M]?) : GvIs w' M hs f := by
  obtain ⟨D, ⟨es, clock, h1, F, hs, hD⟩, hR⟩ := h
  exact ⟨D, ⟨es, clock, hb.trans h1, F, hs, hD⟩, hR⟩
theorem GvIs.below (h : GvIs w M hs f) (hb : Below w.heap.size w w') : GvIs w' M hs f := h.of_block (hb.block M h.lt)
theorem GvIs.kept {T : Nat → Prop} (h : GvIs w M hs f) (hk : Kept w w' T) (hT : ¬ T M) : GvIs w' M hs f := h.of_block (hk.block M h.lt hT)
theorem gvIs_made (w : World) : GvIs (w.alloc (.map #[] 0)) w.heap.size (fun _ => false) (fun _ => false) := ⟨.map [], (World.ownsMap_made _ _ _ _).mono (Nat.zero_le _), gv_nil⟩
theorem GvIs.look (h : GvIs w M hs f) {p : Nat} (hp : p < 63) : (Instr.lookup 46 (.map (some M)) (.int .i64 (64 + (p : Int))) false).run Try.prog w = .ok (.bool (f p)) w := by
  obtain ⟨D, ho, hR⟩ := h
  obtain ⟨v, ps, hrun, hv⟩ := ho.lookup ilaw Try.underlying46 (zeroBool w) (zd := .lit (.bool false)) (zp := []) rfl (ik_of (in_place p hp))
  rw [hR.val p hp] at hv
  rw [boolElem_inv hv] at hrun
  exact hrun
theorem GvIs.store (h : GvIs w M hs f) {p : Nat} (hp : p < 63) (v : Bool) : ∃ w', (Instr.mapUpdate 46 (.map (some M)) (.int .i64 (64 + (p : Int))) (.bool v)).run Try.prog w = .ok () w' ∧ GvIs w' M (Pm.upd hs p true) (Pm.upd f p v) ∧ Kept w w' (fun k => k = M) := by
  obtain ⟨D, ho, hR⟩ := h
  obtain ⟨w', hrun, ho', ht⟩ := ho.store ilaw Try.underlying46 (by unfold maxLen; omega) (ik_of (in_place p hp)) (show boolElem (.bool v) = some (.lit (.bool v), []) from rfl)
  have hR' := hR.put (ho.tidy ilaw) hp v
  exact ⟨w', hrun, ⟨_, owns_tight ho' (by rw [hR'.size]; exact Pm.ct_le _ _), hR'⟩, Kept.of_grown ht.grown (fun k e => by injection e with e; exact e.symm)⟩
theorem GvIs.drop (h : GvIs w M hs f) {t : Int} (ht : In64 t) (hsub : ∀ p, p < 63 → hs p = f p) (ty : TypeId) : ∃ w', (Builtin.delete_ #[46, 3] ty #[.map (some M), .int .i64 t]).run Try.prog w = .ok (.tuple #[]) w' ∧ GvIs w' M (Pm.frF hs t) (Pm.frF f t) ∧ Kept w w' (fun k => k = M) := by
  obtain ⟨D, ho, hR⟩ := h
  obtain ⟨w', hrun, ho', hk⟩ := ho.drop ilaw Try.underlying46 (ik_of ht) ty
  have hR' := hR.del (ho.tidy ilaw) ht hsub
  exact ⟨w', hrun, ⟨_, ho', hR'⟩, Kept.of_grown hk.grown (fun k e => by injection e with e; exact e.symm)⟩
theorem GvIs.len (h : GvIs w M hs f) (ty : TypeId) : (Builtin.len_ #[46] ty #[.map (some M)]).run Try.prog w = .ok (.int .i64 (Pm.ct hs 63)) w := by
  obtain ⟨D, ho, hR⟩ := h
  have := ho.len (t := 46) Try.underlying46 ty
  rwa [hR.size] at this
end
theorem gmk (W : World) : (Instr.makeMap 46 none).run Try.prog W = .ok (.map (some W.heap.size)) (W.alloc (.map #[] 0)) := by
  kernel_rfl
/-- both maps, behind the variables that hold them: blocks A, B; M, N -/
structure GvS (w : World) (A B M N : Nat) (hs f u : Nat → Bool) : Prop where
  la : A < w.heap.size
  lb : B < w.heap.size
  ca : w.cell? ⟨A, 0, none⟩ = some (.map (some M))
  cb : w.cell? ⟨B, 0, none⟩ = some (.map (some N))
  m : GvIs w M hs f
  n : GvIs w N u u
  ne : A ≠ M ∧ A ≠ N ∧ B ≠ M ∧ B ≠ N ∧ M ≠ N
section
variable {w w' : World} {A B M N : Nat} {hs f u : Nat → Bool}
theorem GvS.kept {T : Nat → Prop} (h : GvS w A B M N hs f u) (hk : Kept w w' T) (h1 : ¬ T A) (h2 : ¬ T B) (h3 : ¬ T M) (h4 : ¬ T N) : GvS w' A B M N hs f u :=
  ⟨Nat.lt_of_lt_of_le h.la hk.size, Nat.lt_of_lt_of_le h.lb hk.size, (hk.cell (p := ⟨A, 0, none⟩) h.la h1).trans h.ca, (hk.cell (p := ⟨B, 0, none⟩) h.lb h2).trans h.cb, h.m.kept hk h3, h.n.kept hk h4, h.ne⟩
theorem GvS.below (h : GvS w A B M N hs f u) (hb : Below w.heap.size w w') : GvS w' A B M N hs f u :=
  h.kept (T := fun _ => False) (Kept.of_below hb (fun k hk h' => by omega)) (fun x => x) (fun x => x) (fun x => x) (fun x => x)
theorem GvS.turnM {hs' f' : Nat → Bool} (h : GvS w A B M N hs f u) (hm : GvIs w' M hs' f') (hk : Kept w w' (fun k => k = M)) : GvS w' A B M N hs' f' u :=
  ⟨Nat.lt_of_lt_of_le h.la hk.size, Nat.lt_of_lt_of_le h.lb hk.size, (hk.cell (p := ⟨A, 0, none⟩) h.la h.ne.1).trans h.ca, (hk.cell (p := ⟨B, 0, none⟩) h.lb h.ne.2.2.1).trans h.cb, hm, h.n.kept hk (fun e => h.ne.2.2.2.2 e.symm), h.ne⟩
theorem GvS.turnN {u' : Nat → Bool} (h : GvS w A B M N hs f u) (hm : GvIs w' N u' u') (hk : Kept w w' (fun k => k = N)) : GvS w' A B M N hs f u' :=
  ⟨Nat.lt_of_lt_of_le h.la hk.size, Nat.lt_of_lt_of_le h.lb hk.size, (hk.cell (p := ⟨A, 0, none⟩) h.la h.ne.2.1).trans h.ca, (hk.cell (p := ⟨B, 0, none⟩) h.lb h.ne.2.2.2.1).trans h.cb, h.m.kept hk h.ne.2.2.2.2, hm, h.ne⟩
end
end Go.Proofs.Ytdnhcpkpajbhoab
