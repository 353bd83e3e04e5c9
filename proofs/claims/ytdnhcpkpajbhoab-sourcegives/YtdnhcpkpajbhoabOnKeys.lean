/-
  A map from numbers to truth values that the call made: it holds just the numbers of the places that are taken, each as true.
-/
import Derived.Test.YtdnhcpkpajbhoabPoolRow
import Derived.Test.YtdnhcpkpajbhoabIntRow
import Derived.Maps.OwnSet
import Derived.Maps.OwnOps
namespace Go.Proofs.Ytdnhcpkpajbhoab
open Go.RowKit Go.Maps Go.WideMaps
set_option linter.unusedVariables false
set_option linter.unusedSimpArgs false
set_option maxRecDepth 100000

theorem ilaw : Keyed Try.prog 3 := int_keyed Try.underlying3
theorem zeroBool (w : World) : (zeroValue 4).run Try.prog w = .ok (.bool false) w := by kernel_rfl
/-- how a bool reads -/
def boolElem (v : Value) : Option (DataW Unit × List MemPlace) := match v with | .bool b => some (.lit (.bool b), []) | _ => none
theorem boolElem_inv {v : Value} {b : Bool} {ps : List MemPlace} (h : boolElem v = some (.lit (.bool b), ps)) : v = .bool b := by
  unfold boolElem at h
  split at h
  · injection h with h
    injection h with h _
    injection h with h
    injection h with h
    rw [h]
  · exact absurd h (by simp)
def ik (t : Int) : Lit := .int .i64 t
theorem ik_of {t : Int} (h : In64 t) : keyOf Try.prog 3 (.int .i64 t) = some (ik t) :=
  keyOf_int_mk Try.underlying3 (by have := h.1; have := h.2; simp [Lit.wf, IntKind.min, IntKind.max, IntKind.signed, IntKind.bits]; omega)
theorem ik_key (t : Int) : WideAt.IsKeyLit (ik t) := trivial
theorem ik_ne {t t' : Int} (h : t ≠ t') : ik t ≠ ik t' := by
  intro e
  unfold ik at e
  injection e with _ e
  exact h e
theorem in_place (p : Nat) (hp : p < 63) : In64 (64 + (p : Int)) := ⟨by omega, by omega⟩

theorem has_upd (f : Nat → Bool) {p : Nat} (hp : p < 63) (b : Bool) (t : Int) : Pm.has (Pm.upd f p b) t = if t = 64 + (p : Int) then b else Pm.has f t := by
  by_cases e : t = 64 + (p : Int)
  · rw [if_pos e, e, Pm.has_of _ p hp, Pm.upd_same]
  · rw [if_neg e]
    cases ha : Pm.au t with
    | false => rw [Pm.has_no _ ha, Pm.has_no _ ha]
    | true =>
      obtain ⟨p', hp', rfl, -⟩ := Pm.au_place ha
      rw [Pm.has_of _ p' hp', Pm.has_of _ p' hp', Pm.upd_other f p b (by omega)]

structure Onm (D : DataW Unit) (f : Nat → Bool) : Prop where
  has : ∀ t : Int, In64 t → Maps.has D (ik t) = Pm.has f t
  val : ∀ t : Int, Maps.has D (ik t) = true → ∀ z, D.atKey (ik t) z = .lit (.bool true)
  size : Maps.size D = Pm.ct f 63
theorem onm_nil : Onm (.map []) (fun _ => false) := by
  refine ⟨fun t _ => ?_, fun t h => (by simp [Maps.has] at h), rfl⟩
  show false = _
  unfold Pm.has; simp
theorem Onm.put {D : DataW Unit} {f : Nat → Bool} (h : Onm D f) (hD : Tidy D) {p : Nat} (hp : p < 63) (hf : f p = false) : Onm (D.put (ik (64 + (p : Int))) (.lit (.bool true))) (Pm.upd f p true) := by
  have h0 : Maps.has D (ik (64 + (p : Int))) = false := by rw [h.has _ (in_place p hp), Pm.has_of f p hp, hf]
  refine ⟨fun t ht => ?_, fun t ht z => ?_, ?_⟩
  · rw [has_upd f hp]
    by_cases e : t = 64 + (p : Int)
    · rw [if_pos e, e, has_put_same hD.isMap (ik_key _)]
    · rw [if_neg e, has_put_other (ik_ne e), h.has t ht]
  · by_cases e : t = 64 + (p : Int)
    · rw [e]; exact atKey_put_same hD.isMap (ik_key _) _ z
    · rw [has_put_other (ik_ne e)] at ht
      rw [atKey_put_other (ik_ne e)]
      exact h.val t ht z
  · rw [size_put hD, h0, Pm.ct_set f hp hf, h.size]; rfl
theorem Onm.del {D : DataW Unit} {f : Nat → Bool} (h : Onm D f) (hD : Tidy D) {t : Int} (ht : In64 t) : Onm (D.del (ik t)) (Pm.frF f t) := by
  cases hh : Pm.has f t with
  | false => rw [del_of_not_has (by rw [h.has t ht, hh]), Pm.fr_no hh]; exact h
  | true =>
    obtain ⟨ha, hf, he⟩ := Pm.fr_ok hh
    obtain ⟨p, hp, rfl, hat⟩ := Pm.au_place ha
    rw [hat] at hf he
    rw [he]
    have h0 : Maps.has D (ik (64 + (p : Int))) = true := by rw [h.has _ ht, hh]
    refine ⟨fun t' ht' => ?_, fun t' ht' z => ?_, ?_⟩
    · rw [has_upd f hp]
      by_cases e : t' = 64 + (p : Int)
      · rw [if_pos e, e, has_del_same]
      · rw [if_neg e, has_del_other (ik_ne e), h.has t' ht']
    · by_cases e : t' = 64 + (p : Int)
      · rw [e, has_del_same] at ht'; cases ht'
      · rw [has_del_other (ik_ne e)] at ht'
        rw [atKey_del_other (ik_ne e)]
        exact h.val t' ht' z
    · have h1 := size_del (k := ik (64 + (p : Int))) hD
      have h2 := Pm.ct_unset f hp hf
      rw [h0, h.size] at h1
      simp only [if_true] at h1
      omega

/-- block M is such a map -/
def OnIs (w : World) (M : Nat) (f : Nat → Bool) : Prop := ∃ D, w.ownsMap Try.prog 3 boolElem M 63 D ∧ Onm D f
/-- how many entries it has -/
def ents (w : World) (M : Nat) : Nat := match w.heap[M]? with | some (.map es _) => es.size | _ => 0
section
variable {w w' : World} {M : Nat} {f : Nat → Bool}
theorem OnIs.lt (h : OnIs w M f) : M < w.heap.size := by obtain ⟨D, h, _⟩ := h; exact h.lt
theorem OnIs.of_block (h : OnIs w M f) (hb : w'.heap[M]? = w.heap[M]?) : OnIs w' M f := by
  obtain ⟨D, ⟨es, clock, h1, F, hs, hD⟩, hR⟩ := h
  exact ⟨D, ⟨es, clock, hb.trans h1, F, hs, hD⟩, hR⟩
theorem OnIs.below (h : OnIs w M f) (hb : Below w.heap.size w w') : OnIs w' M f := h.of_block (hb.block M h.lt)
theorem OnIs.kept {T : Nat → Prop} (h : OnIs w M f) (hk : Kept w w' T) (hT : ¬ T M) : OnIs w' M f := h.of_block (hk.block M h.lt hT)
theorem onIs_made (w : World) : OnIs (w.alloc (.map #[] 0)) w.heap.size (fun _ => false) := ⟨.map [], (World.ownsMap_made _ _ _ _).mono (Nat.zero_le _), onm_nil⟩
theorem owns_size {k : TypeId} {R : Value → Option (DataW Unit × List MemPlace)} {n : Nat} {D : DataW Unit} (h : w.ownsMap Try.prog k R M n D) : ents w M = Maps.size D := by
  obtain ⟨es, clock, h1, F, hs, rfl⟩ := h
  unfold ents
  rw [h1]
  simp [Maps.size, length_sorted]
theorem owns_tight {k : TypeId} {R : Value → Option (DataW Unit × List MemPlace)} {n m : Nat} {D : DataW Unit} (h : w.ownsMap Try.prog k R M n D) (hm : Maps.size D ≤ m) : w.ownsMap Try.prog k R M m D := by
  have h0 := owns_size h
  obtain ⟨es, clock, h1, F, hs, hD⟩ := h
  refine ⟨es, clock, h1, F, ?_, hD⟩
  unfold ents at h0
  rw [h1] at h0
  simp only at h0
  omega
theorem OnIs.ents (h : OnIs w M f) : ents w M = Pm.ct f 63 := by obtain ⟨D, h, hR⟩ := h; rw [owns_size h, hR.size]
theorem OnIs.look (h : OnIs w M f) {t : Int} (ht : In64 t) : (Instr.lookup 46 (.map (some M)) (.int .i64 t) false).run Try.prog w = .ok (.bool (Pm.has f t)) w := by
  obtain ⟨D, ho, hR⟩ := h
  obtain ⟨v, ps, hrun, hv⟩ := ho.lookup ilaw Try.underlying46 (zeroBool w) (zd := .lit (.bool false)) (zp := []) rfl (ik_of ht)
  have h1 := hR.has t ht
  cases hh : Pm.has f t with
  | false =>
    rw [hh] at h1
    rw [atKey_of_not_has h1] at hv
    rw [boolElem_inv hv] at hrun
    exact hrun
  | true =>
    rw [hh] at h1
    rw [hR.val t h1] at hv
    rw [boolElem_inv hv] at hrun
    exact hrun
theorem OnIs.store (h : OnIs w M f) {p : Nat} (hp : p < 63) (hf : f p = false) : ∃ w', (Instr.mapUpdate 46 (.map (some M)) (.int .i64 (64 + (p : Int))) (.bool true)).run Try.prog w = .ok () w' ∧ OnIs w' M (Pm.upd f p true) ∧ Kept w w' (fun k => k = M) := by
  obtain ⟨D, ho, hR⟩ := h
  obtain ⟨w', hrun, ho', ht⟩ := ho.store ilaw Try.underlying46 (by unfold maxLen; omega) (ik_of (in_place p hp)) (show boolElem (.bool true) = some (.lit (.bool true), []) from rfl)
  have hR' := hR.put (ho.tidy ilaw) hp hf
  exact ⟨w', hrun, ⟨_, owns_tight ho' (by rw [hR'.size]; exact Pm.ct_le _ _), hR'⟩, Kept.of_grown ht.grown (fun k e => by injection e with e; exact e.symm)⟩
theorem OnIs.drop (h : OnIs w M f) {t : Int} (ht : In64 t) (ty : TypeId) : ∃ w', (Builtin.delete_ #[46, 3] ty #[.map (some M), .int .i64 t]).run Try.prog w = .ok (.tuple #[]) w' ∧ OnIs w' M (Pm.frF f t) ∧ Kept w w' (fun k => k = M) := by
  obtain ⟨D, ho, hR⟩ := h
  obtain ⟨w', hrun, ho', hk⟩ := ho.drop ilaw Try.underlying46 (ik_of ht) ty
  have hR' := hR.del (ho.tidy ilaw) ht
  exact ⟨w', hrun, ⟨_, ho', hR'⟩, Kept.of_grown hk.grown (fun k e => by injection e with e; exact e.symm)⟩
theorem OnIs.len (h : OnIs w M f) (ty : TypeId) : (Builtin.len_ #[46] ty #[.map (some M)]).run Try.prog w = .ok (.int .i64 (Pm.ct f 63)) w := by
  obtain ⟨D, ho, hR⟩ := h
  have := ho.len (t := 46) Try.underlying46 ty
  rwa [hR.size] at this
end
end Go.Proofs.Ytdnhcpkpajbhoab
