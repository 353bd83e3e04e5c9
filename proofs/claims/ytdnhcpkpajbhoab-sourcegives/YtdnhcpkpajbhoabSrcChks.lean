/-
  The keys of a source's checks, sorted: the TEIs that are under a check, in rising order.
-/
import Derived.Test.YtdnhcpkpajbhoabSrcWakes
import Derived.Test.YtdnhcpkpajbhoabSrcKeys
namespace Go.Proofs.Ytdnhcpkpajbhoab
open Go.RowKit Go.Maps Go.Sort Go.Shelf
set_option linter.unusedVariables false
set_option linter.unusedSimpArgs false
set_option maxRecDepth 100000

theorem ls_pair (f : Nat → Bool) (n : Nat) : (Pm.ls f n).Pairwise (fun a b => a < b) := by
  unfold Pm.ls
  rw [List.pairwise_map]
  exact (List.pairwise_lt_range.filter _).imp (fun {a b} h => by omega)
theorem keys_ls {w : World} {M : Nat} {s : Zm.St} {D : DataW Unit} (ho : w.ownsMap Try.prog 3 chElem M 63 D) (hR : ChD D s) : (Pm.ls (Zm.ua s) 63).Perm (intKeys D) ∧ (intKeys D).mergeSort (fun x y => decide (x ≤ y)) = Pm.ls (Zm.ua s) 63 := by
  obtain ⟨es, hD, hpw, _⟩ := ho.entries ilaw
  obtain ⟨es', hD', hko⟩ := ho.keysOf
  obtain rfl : es = es' := by rw [hD] at hD'; simpa using hD'
  subst hD
  have hk : ∀ p ∈ es, ∃ x, p.1 = .int .i64 x := fun p hp => by
    obtain ⟨v, hv⟩ := hko p hp
    obtain ⟨x, _, hx, _⟩ := Maps.keyOf_i64 Try.underlying3 hv
    exact ⟨x, hx⟩
  have hnd : (Pm.ls (Zm.ua s) 63).Nodup := (ls_pair _ _).imp (fun {a b} h => by omega)
  have hp : (Pm.ls (Zm.ua s) 63).Perm (intKeys (.map es)) := perm_intKeys hpw hk hnd (fun x => by
    constructor
    · intro hx
      obtain ⟨p, hp, hf, rfl⟩ := (Zm.ls_mem _ _ _).1 hx
      have := hR.has _ (in_place p hp)
      rw [Pm.has_of _ p hp, hf] at this
      exact this
    · intro hx
      obtain ⟨t, ht, hxt⟩ := hR.only (.int .i64 x) hx
      have hxt' : x = t := by
        unfold ik at hxt
        injection hxt
      subst hxt'
      have h2 := hR.has x ht
      have h3 : Maps.has (.map es) (ik x) = true := hx
      rw [h3] at h2
      cases ha : Pm.au x with
      | false => rw [Pm.has_no _ ha] at h2; cases h2
      | true =>
        obtain ⟨p, hp, rfl, -⟩ := Pm.au_place ha
        rw [Pm.has_of _ p hp] at h2
        exact (Zm.ls_mem _ _ _).2 ⟨p, hp, h2.symm, rfl⟩)
  refine ⟨hp, ?_⟩
  have h1 : (intKeys (.map es)).mergeSort leI = (Pm.ls (Zm.ua s) 63).mergeSort leI := (mergeSort_of_perm_i hp).symm
  show (intKeys (.map es)).mergeSort leI = _
  rw [h1]
  exact List.mergeSort_of_pairwise ((ls_pair _ _).imp (fun {a b} h => by simp [leI]; omega))

/-! ### checks that are told -/
/-- a check: its TEI, how often it asked, how many answers came -/
structure Ck where
  (t a n : Int)
def ckV (x : Ck) : Value := .agg #[.int .i64 x.t, .int .i64 x.a, .int .i64 x.n]
def ckL (x : Ck) : List Value := [.int .i64 x.t, .int .i64 x.a, .int .i64 x.n]
def cksL (l : List Ck) : List Value := l.flatMap ckL
theorem cksL_app (l m : List Ck) : cksL l ++ cksL m = cksL (l ++ m) := by simp [cksL]
theorem cksL_len : ∀ l : List Ck, (cksL l).length = l.length * 3
  | [] => rfl
  | x :: l => by
    show (ckL x ++ cksL l).length = _
    rw [List.length_append, cksL_len l]
    simp [ckL]; omega
theorem cksL_one (l : List Ck) : ∀ u ∈ cksL l, u.oneCell' = true := by
  intro u hu
  obtain ⟨x, _, hx⟩ := List.mem_flatMap.1 hu
  simp [ckL] at hx
  rcases hx with rfl | rfl | rfl <;> rfl
theorem ck_info : (Try.prog.info? 44).map (fun i => (i.zero, i.size, i.bytes)) = some (some (ckV ⟨0, 0, 0⟩), 3, 24) := by kernel_rfl
/-- what is handed out: a slice of the call's own, or nil -/
def CkO (b : Nat) (w : World) (v : Value) (l : List Ck) : Prop := w.ownsRow b 44 3 v l.length (cksL l)
theorem cko_nil (b : Nat) (w : World) : CkO b w (.slice none 0 0) [] := World.ownsRow_nil _ _ _ _
theorem CkO.kept {b : Nat} {w w' : World} {v : Value} {l : List Ck} {T : Nat → Prop} (h : CkO b w v l) (hk : Kept w w' T) (hT : ∀ k, b ≤ k → ¬ T k) : CkO b w' v l :=
  hk.owns h (fun B hB => hT B (by
    rcases h.2 with ⟨rfl, _⟩ | ⟨g, cap, cur, rfl, hb, _⟩
    · cases hB
    · have : g = B := by simpa [Value.ownBlock] using hB
      omega))
theorem CkO.up {b b2 : Nat} {w : World} {v : Value} {l : List Ck} (h : CkO b w v l) (hb : b2 ≤ b) : CkO b2 w v l := by
  refine ⟨h.1, ?_⟩
  rcases h.2 with h' | ⟨g, cap, cur, rfl, hg, r⟩
  · exact Or.inl h'
  · exact Or.inr ⟨g, cap, cur, rfl, Nat.le_trans hb hg, r⟩
theorem CkO.form {b : Nat} {w : World} {v : Value} {l : List Ck} (h : CkO b w v l) : ∃ a cap, v = .slice a l.length cap := by
  rcases h.2 with ⟨rfl, h0⟩ | ⟨g, cap, cur, rfl, _⟩
  · exact ⟨none, 0, by rw [h0]⟩
  · exact ⟨_, cap, rfl⟩

theorem cko_made {b : Nat} (w : World) {cs : Array Value} (l : List Ck) (hb : b ≤ w.heap.size) (hc : cs = (cksL l).toArray) (hl : l.length ≤ 1000000) : CkO b (w.alloc (.cells cs 44)) (.slice (some ⟨w.heap.size, 0, none⟩) l.length l.length) l := by
  refine ⟨cksL_len l, Or.inr ⟨w.heap.size, l.length, cs, rfl, hb, heap_alloc_new w _, Nat.le_refl _, by unfold maxLen; omega, by rw [hc]; simp [cksL_len], ?_⟩⟩
  rw [hc]
  show (cksL l).take (l.length * 3) = cksL l
  rw [List.take_of_length_le (by rw [cksL_len]; omega)]
theorem CkO.bel {b : Nat} {w w' : World} {v : Value} {l : List Ck} (h : CkO b w v l) (hb : Below w.heap.size w w') : CkO b w' v l :=
  h.kept (T := fun k => w.heap.size ≤ k ∧ False) (Kept.of_below hb (fun k hk h' => by omega)) (fun _ _ x => x.2)
/-- one behind the other -/
theorem append_cko {w : World} {b : Nat} {v u : Value} {l m : List Ck} (h1 : CkO b w v l) (h2 : CkO b w u m) (hl : l.length ≤ 100000) (hm : m.length ≤ 100000) (hb : b ≤ w.heap.size) :
    ∃ v' w', (∀ ty, (Builtin.append_ #[41, 41] ty #[v, u]).run Try.prog w = .ok v' w') ∧ CkO b w' v' (l ++ m) ∧ w.grownBy w' v.ownBlock ∧ (v'.ownBlock = v.ownBlock ∨ v'.ownBlock = some w.heap.size) := by
  obtain ⟨i0, hi, hz0, hz1, hz2⟩ := info_parts ck_info
  rcases h2.2 with ⟨rfl, h0⟩ | ⟨g, cap, cur, rfl, hg, hgg, r1, r2, r3, r4⟩
  · have e : m = [] := List.eq_nil_of_length_eq_zero h0
    subst e
    refine ⟨v, w, fun ty => run_append_owned_none (P := Try.prog) (w := w) b 41 ty 44 i0 3 Try.underlying41 hi v l.length (cksL l) h1, by rw [List.append_nil]; exact h1, ⟨rfl, rfl, rfl, Nat.le_refl _, fun _ _ _ => rfl⟩, Or.inl rfl⟩
  · have hcells : ∀ j u, (cksL m)[j]? = some u → w.cell? ((⟨g, 0, none⟩ : Addr).add j) = some u := World.ownsRow.cells (g := g) h2 rfl
    have hall : ∀ ty, _ := fun ty => run_append_own_at (P := Try.prog) w b 41 ty 44 i0 (ckV ⟨0, 0, 0⟩) 3 24 Try.underlying41 hi hz0 hz1 hz2 rfl (by decide) v l.length (cksL l) h1 ⟨g, 0, none⟩ m.length cap (cksL m) (cksL_len m) hcells (cksL_one m) (by unfold maxLen; omega) (by omega) hb
    obtain ⟨v', w', hr, ho, hgr, _, hat⟩ := hall 0
    refine ⟨v', w', fun ty => hr, ?_, hgr, hat⟩
    show w'.ownsRow b _ 3 v' (l ++ m).length (cksL (l ++ m))
    rw [List.length_append, ← cksL_app]
    exact ho

theorem wpc_append {ops : Array Oper} {rest : List Oper} {o : Oper} {a : Act} {Q : Exit → Act → World → Prop} {w1 : World} {b : Nat} {v u : Value} {l m : List Ck} (hgd : o.guard = none) (x y : Operand)
    (ho : o.op = .call { callee := .builtin .append, args := #[x, y], argTypes := #[41, 41] }) (hx : a.eval x = v) (hy : a.eval y = u)
    (h1 : CkO b w1 v l) (h2 : CkO b w1 u m) (n1 : l.length ≤ 100000) (n2 : m.length ≤ 100000) (hb : b ≤ w1.heap.size)
    (h : ∀ v' w', CkO b w' v' (l ++ m) → w1.grownBy w' v.ownBlock → (v'.ownBlock = v.ownBlock ∨ v'.ownBlock = some w1.heap.size) → wpList Try.prog ops Q rest (a.put o.dst v') w') : wpList Try.prog ops Q (o :: rest) a w1 := by
  obtain ⟨v', w', hr, ho', hg', hat'⟩ := append_cko h1 h2 n1 n2 hb
  refine wpList_plain hgd fun K hK => ?_
  unfold Oper.wp execOp
  simp only [ho, resolve, invoke, builtin, Sem.run_bind, Sem.run_pure, Result.andThen_ok, List.map_toArray, List.map_cons, List.map_nil, hx, hy, hr]
  exact hK _ _ (h v' w' ho' hg' hat')
/-- what is told of t -/
def Zm.ckOf (s : Zm.St) (t : Int) : Ck := ⟨t, (s.a (Pm.at' t) : Int), (s.n (Pm.at' t) : Int)⟩
def Zm.cks (s : Zm.St) : List Ck := (Pm.ls (Zm.ua s) 63).map (Zm.ckOf s)
end Go.Proofs.Ytdnhcpkpajbhoab
