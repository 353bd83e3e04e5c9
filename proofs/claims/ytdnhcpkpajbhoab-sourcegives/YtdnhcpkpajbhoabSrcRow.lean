/-
  A map from numbers to checks, and a source in the world: its pool, its checks; what a call leaves of it; the effects that a call hands out.
-/
import Derived.Test.YtdnhcpkpajbhoabSrcMath
import Derived.Test.YtdnhcpkpajbhoabOnKeys
import Derived.Maps.AppendAt
import Derived.Laws.OwnMore
import Derived.Deep.AppendLies
namespace Go.Proofs.Ytdnhcpkpajbhoab
open Go.RowKit Go.Maps Go.WideMaps
set_option linter.unusedVariables false
set_option linter.unusedSimpArgs false
set_option maxRecDepth 100000

/-! ### the map of checks -/
def chD (t a n : Int) : DataW Unit := .agg [.lit (.int .i64 t), .lit (.int .i64 a), .lit (.int .i64 n)]
def chV (t a n : Int) : Value := .agg #[.int .i64 t, .int .i64 a, .int .i64 n]
theorem chD_inj {t a n t' a' n' : Int} (h : chD t a n = chD t' a' n') : t = t' ∧ a = a' ∧ n = n' := by
  unfold chD at h
  injection h with h
  injection h with h1 h
  injection h with h2 h
  injection h with h3 h
  injection h1 with h1
  injection h2 with h2
  injection h3 with h3
  injection h1 with _ h1
  injection h2 with _ h2
  injection h3 with _ h3
  exact ⟨h1, h2, h3⟩
/-- how a check reads -/
def chElem (v : Value) : Option (DataW Unit × List MemPlace) :=
  match v with
  | .agg cs =>
    match cs.toList with
    | [.int .i64 a, .int .i64 b, .int .i64 c] => some (chD a b c, [])
    | _ => none
  | _ => none
theorem chElem_mk (a b c : Int) : chElem (chV a b c) = some (chD a b c, []) := rfl
theorem chElem_inv {v : Value} {t a n : Int} {ps : List MemPlace} (h : chElem v = some (chD t a n, ps)) : v = chV t a n := by
  unfold chElem at h
  split at h
  · rename_i cs
    split at h
    · rename_i a' b' c' hl
      injection h with h
      injection h with h _
      obtain ⟨rfl, rfl, rfl⟩ := chD_inj h
      unfold chV
      congr 1
      exact Array.toList_inj.1 hl
    · exact absurd h (by simp)
  · exact absurd h (by simp)
theorem zeroChk (w : World) : (zeroValue 44).run Try.prog w = .ok (chV 0 0 0) w := by kernel_rfl

/-- which are under a check -/
def Zm.ua (s : Zm.St) (p : Nat) : Bool := decide (0 < s.a p)
theorem Zm.under_ua (s : Zm.St) (t : Int) : Zm.under s t = Pm.has (Zm.ua s) t := rfl
theorem Zm.ua_setC {s : Zm.St} {p a n : Nat} : Zm.ua (Zm.setC s p a n) = Pm.upd (Zm.ua s) p (decide (0 < a)) := by
  funext i
  unfold Zm.ua Zm.setC
  by_cases e : i = p
  · rw [e, Pm.upd_same]
    show decide (0 < Zm.upn s.a p a p) = _
    rw [Zm.upn_same]
  · rw [Pm.upd_other _ _ _ e]
    show decide (0 < Zm.upn s.a p a i) = _
    rw [Zm.upn_other _ _ _ e]
structure ChD (D : DataW Unit) (s : Zm.St) : Prop where
  has : ∀ t : Int, In64 t → Maps.has D (ik t) = Pm.has (Zm.ua s) t
  only : ∀ kl, Maps.has D kl = true → ∃ t, In64 t ∧ kl = ik t
  val : ∀ p : Nat, p < 63 → 0 < s.a p → ∀ z, D.atKey (ik (64 + (p : Int))) z = chD (64 + (p : Int)) (s.a p) (s.n p)
  size : Maps.size D = Pm.ct (Zm.ua s) 63
theorem ct_congr {f g : Nat → Bool} : ∀ n, (∀ i, i < n → f i = g i) → Pm.ct f n = Pm.ct g n
  | 0, _ => rfl
  | n + 1, h => by
    have ih := ct_congr n (fun i hi => h i (by omega))
    have e := h n (by omega)
    cases hg : g n with
    | true => rw [Pm.ct_on hg, Pm.ct_on (e.trans hg), ih]
    | false => rw [Pm.ct_off hg, Pm.ct_off (e.trans hg), ih]
theorem ct_none {f : Nat → Bool} : ∀ n, (∀ i, i < n → f i = false) → Pm.ct f n = 0
  | 0, _ => rfl
  | n + 1, h => by rw [Pm.ct_off (h n (by omega)), ct_none n (fun i hi => h i (by omega))]
theorem chd_nil {s : Zm.St} (h : ∀ p, s.a p = 0) : ChD (.map []) s := by
  have hu : Zm.ua s = fun _ => false := by funext p; unfold Zm.ua; rw [h p]; rfl
  refine ⟨fun t _ => ?_, fun kl hk => by simp [Maps.has] at hk, fun p _ hp => by rw [h p] at hp; omega, ?_⟩
  · show false = _
    rw [hu]
    unfold Pm.has; simp
  · rw [hu, ct_none 63 (fun _ _ => rfl)]; rfl
theorem ChD.put {D : DataW Unit} {s : Zm.St} (h : ChD D s) (hD : Tidy D) {p a n : Nat} (hp : p < 63) (ha : 0 < a) : ChD (D.put (ik (64 + (p : Int))) (chD (64 + (p : Int)) a n)) (Zm.setC s p a n) := by
  have hd : decide (0 < a) = true := decide_eq_true ha
  refine ⟨fun t ht => ?_, fun kl hk => ?_, fun q hq hqa z => ?_, ?_⟩
  · rw [Zm.ua_setC, has_upd _ hp, hd]
    by_cases e : t = 64 + (p : Int)
    · rw [if_pos e, e, has_put_same hD.isMap (ik_key _)]
    · rw [if_neg e, has_put_other (ik_ne e), h.has t ht]
  · by_cases e : kl = ik (64 + (p : Int))
    · exact ⟨_, in_place p hp, e⟩
    · rw [has_put_other e] at hk
      exact h.only kl hk
  · have hqa' : 0 < Zm.upn s.a p a q := hqa
    show _ = chD _ (Zm.upn s.a p a q) (Zm.upn s.n p n q)
    by_cases e : q = p
    · subst e
      rw [atKey_put_same hD.isMap (ik_key _) _ z, Zm.upn_same, Zm.upn_same]
    · rw [Zm.upn_other _ _ _ e] at hqa' ⊢
      rw [Zm.upn_other _ _ _ e, atKey_put_other (ik_ne (by omega))]
      exact h.val q hq hqa' z
  · rw [size_put hD, h.has _ (in_place p hp), Pm.has_of _ p hp, Zm.ua_setC, hd, h.size]
    cases hf : Zm.ua s p with
    | true => rw [Pm.upd_id hf]; rfl
    | false => rw [Pm.ct_set _ hp hf]; rfl
theorem ChD.del {D : DataW Unit} {s : Zm.St} (h : ChD D s) (hD : Tidy D) {t : Int} (ht : In64 t) : ChD (D.del (ik t)) (Zm.drop s t) := by
  unfold Zm.drop
  cases hu : Zm.under s t with
  | false => rw [del_of_not_has (by rw [h.has t ht]; exact hu), if_neg (by decide)]; exact h
  | true =>
    rw [if_pos rfl]
    obtain ⟨p, hp, rfl, hat, ha⟩ := Zm.under_yes hu
    rw [hat]
    have h0 : Maps.has D (ik (64 + (p : Int))) = true := by rw [h.has _ ht]; exact hu
    have hf : Zm.ua s p = true := by unfold Zm.ua; exact decide_eq_true ha
    refine ⟨fun t' ht' => ?_, fun kl hk => ?_, fun q hq hqa z => ?_, ?_⟩
    · rw [Zm.ua_setC, has_upd _ hp]
      by_cases e : t' = 64 + (p : Int)
      · rw [if_pos e, e, has_del_same]; rfl
      · rw [if_neg e, has_del_other (ik_ne e), h.has t' ht']
    · by_cases e : kl = ik (64 + (p : Int))
      · exact ⟨_, in_place p hp, e⟩
      · rw [has_del_other e] at hk
        exact h.only kl hk
    · have hqa' : 0 < Zm.upn s.a p 0 q := hqa
      show _ = chD _ (Zm.upn s.a p 0 q) (Zm.upn s.n p 0 q)
      by_cases e : q = p
      · subst e
        rw [Zm.upn_same] at hqa'; omega
      · rw [Zm.upn_other _ _ _ e] at hqa' ⊢
        rw [Zm.upn_other _ _ _ e, atKey_del_other (ik_ne (by omega))]
        exact h.val q hq hqa' z
    · have h1 := size_del (k := ik (64 + (p : Int))) hD
      have h2 := Pm.ct_unset (Zm.ua s) hp hf
      rw [h0, h.size] at h1
      rw [Zm.ua_setC]
      simp only [if_true] at h1
      show _ = Pm.ct (Pm.upd (Zm.ua s) p (decide (0 < 0))) 63
      rw [show decide (0 < 0) = false from rfl]
      omega
theorem ChD.congr {D : DataW Unit} {s s' : Zm.St} (h : ChD D s) (h1 : s'.a = s.a) (h2 : s'.n = s.n) : ChD D s' := by
  have hu : Zm.ua s' = Zm.ua s := by funext p; unfold Zm.ua; rw [h1]
  exact ⟨fun t ht => by rw [hu]; exact h.has t ht, h.only, fun p hp hpa z => by rw [h1] at hpa ⊢; rw [h2]; exact h.val p hp hpa z, by rw [hu]; exact h.size⟩
/-- block M is such a map -/
def ChIs (w : World) (M : Nat) (s : Zm.St) : Prop := ∃ D, w.ownsMap Try.prog 3 chElem M 63 D ∧ ChD D s
/-- what a look-up tells -/
def chkV (s : Zm.St) (t : Int) : Value := if Zm.under s t then chV t (s.a (Pm.at' t)) (s.n (Pm.at' t)) else chV 0 0 0
section
variable {w w' : World} {M : Nat} {s : Zm.St}
theorem ChIs.lt (h : ChIs w M s) : M < w.heap.size := by obtain ⟨D, h, _⟩ := h; exact h.lt
theorem ChIs.of_block (h : ChIs w M s) (hb : w'.heap[M]? = w.heap[M]?) : ChIs w' M s := by
  obtain ⟨D, ⟨es, clock, h1, F, hs, hD⟩, hR⟩ := h
  exact ⟨D, ⟨es, clock, hb.trans h1, F, hs, hD⟩, hR⟩
theorem ChIs.kept {T : Nat → Prop} (h : ChIs w M s) (hk : Kept w w' T) (hT : ¬ T M) : ChIs w' M s := h.of_block (hk.block M h.lt hT)
theorem ChIs.congr {s' : Zm.St} (h : ChIs w M s) (h1 : s'.a = s.a) (h2 : s'.n = s.n) : ChIs w M s' := by
  obtain ⟨D, ho, hR⟩ := h
  exact ⟨D, ho, hR.congr h1 h2⟩
theorem chIs_made (w : World) {s : Zm.St} (h : ∀ p, s.a p = 0) : ChIs (w.alloc (.map #[] 0)) w.heap.size s := ⟨.map [], (World.ownsMap_made _ _ _ _).mono (Nat.zero_le _), chd_nil h⟩
theorem ChIs.at (h : ChIs w M s) {t : Int} (ht : In64 t) : ∀ D, w.ownsMap Try.prog 3 chElem M 63 D → ChD D s → ∀ v ps, chElem v = some (D.atKey (ik t) (chD 0 0 0), ps) → v = chkV s t := by
  intro D ho hR v ps hv
  have h1 := hR.has t ht
  unfold chkV
  cases hu : Zm.under s t with
  | false =>
    have h1' : Maps.has D (ik t) = false := h1.trans hu
    rw [atKey_of_not_has h1'] at hv
    rw [if_neg (by decide)]
    exact chElem_inv hv
  | true =>
    obtain ⟨p, hp, rfl, hat, ha⟩ := Zm.under_yes hu
    rw [hR.val p hp ha] at hv
    rw [if_pos rfl, hat]
    exact chElem_inv hv
theorem ChIs.look (h : ChIs w M s) {t : Int} (ht : In64 t) : (Instr.lookup 67 (.map (some M)) (.int .i64 t) true).run Try.prog w = .ok (.tuple #[chkV s t, .bool (Zm.under s t)]) w := by
  have h0 := h
  obtain ⟨D, ho, hR⟩ := h
  obtain ⟨v, ps, hrun, hv⟩ := ho.look_ok ilaw Try.underlying67 (zeroChk w) (zd := chD 0 0 0) (zp := []) rfl (ik_of ht)
  rw [h0.at ht D ho hR v ps hv] at hrun
  have h1 := hR.has t ht
  rw [h1] at hrun
  exact hrun
theorem ChIs.look1 (h : ChIs w M s) {t : Int} (ht : In64 t) : (Instr.lookup 67 (.map (some M)) (.int .i64 t) false).run Try.prog w = .ok (chkV s t) w := by
  have h0 := h
  obtain ⟨D, ho, hR⟩ := h
  obtain ⟨v, ps, hrun, hv⟩ := ho.lookup ilaw Try.underlying67 (zeroChk w) (zd := chD 0 0 0) (zp := []) rfl (ik_of ht)
  rw [h0.at ht D ho hR v ps hv] at hrun
  exact hrun
theorem ChIs.store (h : ChIs w M s) {p a n : Nat} (hp : p < 63) (ha : 0 < a) : ∃ w', (Instr.mapUpdate 67 (.map (some M)) (.int .i64 (64 + (p : Int))) (chV (64 + (p : Int)) a n)).run Try.prog w = .ok () w' ∧ ChIs w' M (Zm.setC s p a n) ∧ Kept w w' (fun k => k = M) := by
  obtain ⟨D, ho, hR⟩ := h
  obtain ⟨w', hrun, ho', ht⟩ := ho.store ilaw Try.underlying67 (by unfold maxLen; omega) (ik_of (in_place p hp)) (chElem_mk (64 + (p : Int)) a n)
  have hR' := hR.put (ho.tidy ilaw) hp ha (n := n)
  exact ⟨w', hrun, ⟨_, owns_tight ho' (by rw [hR'.size]; exact Pm.ct_le _ _), hR'⟩, Kept.of_grown ht.grown (fun k e => by injection e with e; exact e.symm)⟩
theorem ChIs.drop (h : ChIs w M s) {t : Int} (ht : In64 t) (ty : TypeId) : ∃ w', (Builtin.delete_ #[67, 3] ty #[.map (some M), .int .i64 t]).run Try.prog w = .ok (.tuple #[]) w' ∧ ChIs w' M (Zm.drop s t) ∧ Kept w w' (fun k => k = M) := by
  obtain ⟨D, ho, hR⟩ := h
  obtain ⟨w', hrun, ho', hk⟩ := ho.drop ilaw Try.underlying67 (ik_of ht) ty
  have hR' := hR.del (ho.tidy ilaw) ht
  exact ⟨w', hrun, ⟨_, ho', hR'⟩, Kept.of_grown hk.grown (fun k e => by injection e with e; exact e.symm)⟩
end

/-! ### the effects that a call hands out -/
def efV (x : Zm.Ef) : Value := .agg #[.int .i64 x.k, .int .i64 x.ty, .int .i64 x.ri, .int .i64 x.ai, .int .i64 x.tei]
def efL (x : Zm.Ef) : List Value := [.int .i64 x.k, .int .i64 x.ty, .int .i64 x.ri, .int .i64 x.ai, .int .i64 x.tei]
def efsL (l : List Zm.Ef) : List Value := l.flatMap efL
theorem efsL_app (l m : List Zm.Ef) : efsL l ++ efsL m = efsL (l ++ m) := by simp [efsL]
theorem efsL_len : ∀ l : List Zm.Ef, (efsL l).length = l.length * 5
  | [] => rfl
  | x :: l => by
    show (efL x ++ efsL l).length = _
    rw [List.length_append, efsL_len l]
    simp [efL]; omega
theorem efsL_one (l : List Zm.Ef) : ∀ u ∈ efsL l, u.oneCell' = true := by
  intro u hu
  obtain ⟨x, _, hx⟩ := List.mem_flatMap.1 hu
  simp [efL] at hx
  rcases hx with rfl | rfl | rfl | rfl | rfl <;> rfl
theorem ef_info : (Try.prog.info? 53).map (fun i => (i.zero, i.size, i.bytes)) = some (some (efV ⟨0, 0, 0, 0, 0⟩), 5, 40) := by kernel_rfl
/-- what is handed out: a slice of the call's own, or nil -/
def Out (b : Nat) (w : World) (v : Value) (l : List Zm.Ef) : Prop := w.ownsRow b 53 5 v l.length (efsL l)
theorem out_nil (b : Nat) (w : World) : Out b w (.slice none 0 0) [] := World.ownsRow_nil _ _ _ _
theorem Out.kept {b : Nat} {w w' : World} {v : Value} {l : List Zm.Ef} {T : Nat → Prop} (h : Out b w v l) (hk : Kept w w' T) (hT : ∀ k, b ≤ k → ¬ T k) : Out b w' v l :=
  hk.owns h (fun B hB => hT B (by
    rcases h.2 with ⟨rfl, _⟩ | ⟨g, cap, cur, rfl, hb, _⟩
    · cases hB
    · have : g = B := by simpa [Value.ownBlock] using hB
      omega))
theorem Out.up {b b2 : Nat} {w : World} {v : Value} {l : List Zm.Ef} (h : Out b w v l) (hb : b2 ≤ b) : Out b2 w v l := by
  refine ⟨h.1, ?_⟩
  rcases h.2 with h' | ⟨g, cap, cur, rfl, hg, r⟩
  · exact Or.inl h'
  · exact Or.inr ⟨g, cap, cur, rfl, Nat.le_trans hb hg, r⟩
theorem Out.form {b : Nat} {w : World} {v : Value} {l : List Zm.Ef} (h : Out b w v l) : ∃ a cap, v = .slice a l.length cap := by
  rcases h.2 with ⟨rfl, h0⟩ | ⟨g, cap, cur, rfl, _⟩
  · exact ⟨none, 0, by rw [h0]⟩
  · exact ⟨_, cap, rfl⟩

theorem out_made {b : Nat} (w : World) {cs : Array Value} (l : List Zm.Ef) (hb : b ≤ w.heap.size) (hc : cs = (efsL l).toArray) (hl : l.length ≤ 1000000) : Out b (w.alloc (.cells cs 53)) (.slice (some ⟨w.heap.size, 0, none⟩) l.length l.length) l := by
  refine ⟨efsL_len l, Or.inr ⟨w.heap.size, l.length, cs, rfl, hb, heap_alloc_new w _, Nat.le_refl _, by unfold maxLen; omega, by rw [hc]; simp [efsL_len], ?_⟩⟩
  rw [hc]
  show (efsL l).take (l.length * 5) = efsL l
  rw [List.take_of_length_le (by rw [efsL_len]; omega)]
theorem Out.bel {b : Nat} {w w' : World} {v : Value} {l : List Zm.Ef} (h : Out b w v l) (hb : Below w.heap.size w w') : Out b w' v l :=
  h.kept (T := fun k => w.heap.size ≤ k ∧ False) (Kept.of_below hb (fun k hk h' => by omega)) (fun _ _ x => x.2)
/-- one behind the other -/
theorem append_out {w : World} {b : Nat} {v u : Value} {l m : List Zm.Ef} (h1 : Out b w v l) (h2 : Out b w u m) (hl : l.length ≤ 100000) (hm : m.length ≤ 100000) (hb : b ≤ w.heap.size) :
    ∃ v' w', (∀ ty, (Builtin.append_ #[47, 47] ty #[v, u]).run Try.prog w = .ok v' w') ∧ Out b w' v' (l ++ m) ∧ w.grownBy w' v.ownBlock ∧ (v'.ownBlock = v.ownBlock ∨ v'.ownBlock = some w.heap.size) := by
  obtain ⟨i0, hi, hz0, hz1, hz2⟩ := info_parts ef_info
  rcases h2.2 with ⟨rfl, h0⟩ | ⟨g, cap, cur, rfl, hg, hgg, r1, r2, r3, r4⟩
  · have e : m = [] := List.eq_nil_of_length_eq_zero h0
    subst e
    refine ⟨v, w, fun ty => run_append_owned_none (P := Try.prog) (w := w) b 47 ty 53 i0 5 Try.underlying47 hi v l.length (efsL l) h1, by rw [List.append_nil]; exact h1, ⟨rfl, rfl, rfl, Nat.le_refl _, fun _ _ _ => rfl⟩, Or.inl rfl⟩
  · have hcells : ∀ j u, (efsL m)[j]? = some u → w.cell? ((⟨g, 0, none⟩ : Addr).add j) = some u := World.ownsRow.cells (g := g) h2 rfl
    have hall : ∀ ty, _ := fun ty => run_append_own_at (P := Try.prog) w b 47 ty 53 i0 (efV ⟨0, 0, 0, 0, 0⟩) 5 40 Try.underlying47 hi hz0 hz1 hz2 rfl (by decide) v l.length (efsL l) h1 ⟨g, 0, none⟩ m.length cap (efsL m) (efsL_len m) hcells (efsL_one m) (by unfold maxLen; omega) (by omega) hb
    obtain ⟨v', w', hr, ho, hgr, _, hat⟩ := hall 0
    refine ⟨v', w', fun ty => hr, ?_, hgr, hat⟩
    show w'.ownsRow b _ 5 v' (l ++ m).length (efsL (l ++ m))
    rw [List.length_append, ← efsL_app]
    exact ho
/-! ### a source -/
structure Sr (w : World) (C P M : Nat) (s : Zm.St) : Prop where
  lt : C < w.heap.size
  c0 : w.cell? ⟨C, 0, none⟩ = some (.pointer (some ⟨P, 0, none⟩))
  c1 : w.cell? ⟨C, 1, none⟩ = some (.map (some M))
  pl : Pl w P s.f s.nx
  ch : ChIs w M s
  ok : Zm.Ok s
  cp : C ≠ P
  cm : C ≠ M
  pm : P ≠ M
/-- what a call leaves -/
def Mvs (w w' : World) (C P M : Nat) (s' : Zm.St) : Prop := Sr w' C P M s' ∧ Kept w w' (fun k => k = P ∨ k = M)
section
variable {w w' : World} {C P M : Nat} {s : Zm.St}
theorem Sr.kept {T : Nat → Prop} (h : Sr w C P M s) (hk : Kept w w' T) (h1 : ¬ T C) (h2 : ¬ T P) (h3 : ¬ T M) : Sr w' C P M s :=
  ⟨Nat.lt_of_lt_of_le h.lt hk.size, (hk.cell (p := ⟨C, 0, none⟩) h.lt h1).trans h.c0, (hk.cell (p := ⟨C, 1, none⟩) h.lt h1).trans h.c1, h.pl.kept hk h2, h.ch.kept hk h3, h.ok, h.cp, h.cm, h.pm⟩
theorem Sr.below (h : Sr w C P M s) (hb : Below w.heap.size w w') : Sr w' C P M s :=
  h.kept (T := fun _ => False) (Kept.of_below hb (fun k hk h' => by omega)) (fun x => x) (fun x => x) (fun x => x)
theorem Sr.same (h : Sr w C P M s) (hb : Below w.heap.size w w') : Mvs w w' C P M s := ⟨h.below hb, Kept.of_below hb (fun k hk h' => by omega)⟩
theorem Mvs.on {w1 : World} {s' : Zm.St} (hk : Kept w w1 (fun k => k = P ∨ k = M)) (h : Mvs w1 w' C P M s') : Mvs w w' C P M s' := ⟨h.1, hk.trans h.2 (fun k _ x => x)⟩
theorem Mvs.ahead {w1 : World} {s' : Zm.St} (hb : Below w.heap.size w w1) (h : Mvs w1 w' C P M s') : Mvs w w' C P M s' := Mvs.on (Kept.of_below hb (fun k hk h' => by omega)) h
theorem Mvs.then {w1 : World} {s' : Zm.St} (h : Mvs w w1 C P M s') (hb : Below w1.heap.size w1 w') : Mvs w w' C P M s' := ⟨h.1.below hb, h.2.trans (Kept.of_below (T := fun k => k = P ∨ k = M) hb (fun k hk h' => by omega)) (fun k _ x => x)⟩
/-- a store into memory of the call's own -/
theorem Mvs.put {w1 : World} {s' : Zm.St} (h : Mvs w w1 C P M s') {B j : Nat} {v : Value} (hB : w.heap.size ≤ B) (hC : C < B) (hP : P < B) (hM : M < B) : Mvs w (w1.setCell ⟨B, j, none⟩ v) C P M s' :=
  ⟨h.1.kept (T := fun k => k = B) ((Kept.refl w1 (fun k => k = B)).setCell (p := ⟨B, j, none⟩) (fun _ => rfl) _) (fun e => by omega) (fun e => by omega) (fun e => by omega), h.2.setCell (p := ⟨B, j, none⟩) (fun hx => by have : B < w.heap.size := hx; omega) _⟩
/-- its checks were turned -/
theorem Sr.checks {s' : Zm.St} (h : Sr w C P M s) (hc : ChIs w' M s') (hk : Kept w w' (fun k => k = M)) (h1 : s'.f = s.f) (h2 : s'.nx = s.nx) (ok : Zm.Ok s') : Mvs w w' C P M s' :=
  ⟨⟨Nat.lt_of_lt_of_le h.lt hk.size, (hk.cell (p := ⟨C, 0, none⟩) h.lt h.cm).trans h.c0, (hk.cell (p := ⟨C, 1, none⟩) h.lt h.cm).trans h.c1, by rw [h1, h2]; exact h.pl.kept hk h.pm, hc, ok, h.cp, h.cm, h.pm⟩, hk.mono (fun k _ x => Or.inr x)⟩
/-- its pool was turned -/
theorem Sr.pool {s' : Zm.St} (h : Sr w C P M s) (hp : Pl w' P s'.f s'.nx) (hk : Kept w w' (fun k => k = P)) (h1 : s'.a = s.a) (h2 : s'.n = s.n) (ok : Zm.Ok s') : Mvs w w' C P M s' :=
  ⟨⟨Nat.lt_of_lt_of_le h.lt hk.size, (hk.cell (p := ⟨C, 0, none⟩) h.lt h.cp).trans h.c0, (hk.cell (p := ⟨C, 1, none⟩) h.lt h.cp).trans h.c1, hp, (h.ch.kept hk (fun e => h.pm e.symm)).congr h1 h2, ok, h.cp, h.cm, h.pm⟩, hk.mono (fun k _ x => Or.inl x)⟩
def Low (w : World) (C P M : Nat) : Prop := C < w.heap.size ∧ P < w.heap.size ∧ M < w.heap.size
theorem Sr.low (h : Sr w C P M s) : Low w C P M := ⟨h.lt, h.pl.lt, h.ch.lt⟩
theorem Mvs.grown {w1 : World} {s' : Zm.St} {r : Option Nat} (h : Mvs w w1 C P M s') (hl : Low w C P M) (hg : w1.grownBy w' r) (hr : ∀ k, r = some k → w.heap.size ≤ k) : Mvs w w' C P M s' := by
  have hk : Kept w1 w' (fun k => w.heap.size ≤ k) := Kept.of_grown hg (fun k e => hr k e)
  obtain ⟨l1, l2, l3⟩ := hl
  exact ⟨h.1.kept hk (fun e => by omega) (fun e => by omega) (fun e => by omega), h.2.trans hk (fun k hlt e => by omega)⟩
theorem Out.base {b B : Nat} {v : Value} {l : List Zm.Ef} (h : Out b w v l) (hB : v.ownBlock = some B) : b ≤ B ∧ B < w.heap.size := by
  rcases h.2 with ⟨rfl, _⟩ | ⟨g, cap, cur, rfl, hb, hgg, _⟩
  · cases hB
  · have : g = B := by simpa [Value.ownBlock] using hB
    subst this
    exact ⟨hb, (Array.getElem?_eq_some_iff.1 hgg).1⟩
theorem Out.mvs {w1 : World} {s' : Zm.St} {v : Value} {l : List Zm.Ef} {b : Nat} (h : Out b w1 v l) (hm : Mvs w1 w' C P M s') (hP : P < b) (hM : M < b) : Out b w' v l :=
  h.kept hm.2 (fun k hk hx => by rcases hx with rfl | rfl <;> omega)
/-- an append of effects -/
theorem append_mvs {w1 : World} {s' : Zm.St} {v u : Value} {l m : List Zm.Ef} (h : Mvs w w1 C P M s') (hl : Low w C P M) (h1 : Out w.heap.size w1 v l) (h2 : Out w.heap.size w1 u m) (n1 : l.length ≤ 100000) (n2 : m.length ≤ 100000) :
    ∃ v' w', (∀ ty, (Builtin.append_ #[47, 47] ty #[v, u]).run Try.prog w1 = .ok v' w') ∧ Out w.heap.size w' v' (l ++ m) ∧ Mvs w w' C P M s' ∧ w1.grownBy w' v.ownBlock ∧ (v'.ownBlock = v.ownBlock ∨ v'.ownBlock = some w1.heap.size) := by
  obtain ⟨v', w', hr, ho, hg, hat⟩ := append_out h1 h2 n1 n2 h.2.size
  exact ⟨v', w', hr, ho, h.grown hl hg (fun k e => (h1.base e).1), hg, hat⟩
theorem wpl_append {ops : Array Oper} {rest : List Oper} {o : Oper} {a : Act} {Q : Exit → Act → World → Prop} {w1 : World} {s' : Zm.St} {v u : Value} {l m : List Zm.Ef} (hgd : o.guard = none) (x y : Operand)
    (ho : o.op = .call { callee := .builtin .append, args := #[x, y], argTypes := #[47, 47] }) (hx : a.eval x = v) (hy : a.eval y = u)
    (hM : Mvs w w1 C P M s') (hl : Low w C P M) (h1 : Out w.heap.size w1 v l) (h2 : Out w.heap.size w1 u m) (n1 : l.length ≤ 100000) (n2 : m.length ≤ 100000)
    (h : ∀ v' w', Out w.heap.size w' v' (l ++ m) → Mvs w w' C P M s' → w1.grownBy w' v.ownBlock → (v'.ownBlock = v.ownBlock ∨ v'.ownBlock = some w1.heap.size) → wpList Try.prog ops Q rest (a.put o.dst v') w') : wpList Try.prog ops Q (o :: rest) a w1 := by
  obtain ⟨v', w', hr, ho', hm', hg', hat'⟩ := append_mvs hM hl h1 h2 n1 n2
  refine wpList_plain hgd fun K hK => ?_
  unfold Oper.wp execOp
  simp only [ho, resolve, invoke, builtin, Sem.run_bind, Sem.run_pure, Result.andThen_ok, List.map_toArray, List.map_cons, List.map_nil, hx, hy, hr]
  exact hK _ _ (h v' w' ho' hm' hg' hat')
end
end Go.Proofs.Ytdnhcpkpajbhoab
