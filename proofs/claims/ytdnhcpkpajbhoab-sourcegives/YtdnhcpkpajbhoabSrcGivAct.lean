/-
  SourceGives at an act: the source, and what it watches.
-/
import Derived.Test.YtdnhcpkpajbhoabSrcGivLook
import Derived.Test.YtdnhcpkpajbhoabSrcGivRange
import Derived.Test.YtdnhcpkpajbhoabSrcStray
namespace Go.Proofs.Ytdnhcpkpajbhoab
open Go.RowKit Go.Maps Go.WideMaps
set_option linter.unusedVariables false
set_option linter.unusedSimpArgs false
set_option maxRecDepth 100000

theorem check_len (s : Zm.St) (t : Int) : (Zm.check s t).2.length ≤ 70 := by unfold Zm.check; split <;> simp [Zm.askE]
theorem audit_len (s : Zm.St) : (Zm.auditE s).length ≤ 70 := by
  have := Pm.ls_len s.f 63
  simp [Zm.auditE]; omega
theorem free_len (s : Zm.St) (t : Int) : (Zm.freeE s t).length ≤ 1 := by unfold Zm.freeE; split <;> simp
theorem rem_len (s : Zm.St) (t : Int) : (Zm.removeOp s t).2.length ≤ 70 := by
  have hf := free_len s t
  unfold Zm.removeOp
  split
  · simp only [Zm.removeE, List.length_append, List.length_cons, List.length_nil]
    split <;> simp <;> omega
  · simp
theorem timeout_len (s : Zm.St) (t : Int) : (Zm.timeout s t).2.length ≤ 70 := by
  have hf := free_len s t
  unfold Zm.timeout
  split
  · split
    · simp [Zm.askE]
    · split
      · simp
      · show (Zm.freeE s t).length ≤ 70
        omega
  · simp
structure GivN (b C P M A B Mo Nr : Nat) : Prop where
  ne : ∀ k, k = A ∨ k = B ∨ k = Mo ∨ k = Nr → k ≠ C ∧ k ≠ P ∧ k ≠ M ∧ b ≤ k
/-- the source and the maps, in step -/
structure GivS (b : Nat) (W0 w : World) (C P M A B Mo Nr : Nat) (s : Zm.St) : Prop where
  n : GivN b C P M A B Mo Nr
  o : OwnS b W0 w C P M s
  g : ∃ hs, GvS w A B Mo Nr hs s.f (Zm.ua s)
/-- behind a call, ahead of look -/
structure GivM (b : Nat) (W0 w : World) (C P M A B Mo Nr : Nat) (s' : Zm.St) (x : Option Addr) (cap : Nat) (l : List Zm.Ef) : Prop where
  n : GivN b C P M A B Mo Nr
  o : OwnS b W0 w C P M s'
  g : ∃ hs f u, GvS w A B Mo Nr hs f u ∧ Lk f u l s'.f (Zm.ua s')
  row : RowZ w x l
  cap : l.length ≤ cap
  len : l.length ≤ 70
  rn : ∀ g, x = some ⟨g, 0, none⟩ → ¬ (g = Mo ∨ g = Nr)
section
variable {b : Nat} {W0 w w' : World} {C P M A B Mo Nr : Nat} {s s' : Zm.St} {x : Option Addr} {cap : Nat} {l : List Zm.Ef}
theorem GivS.below (h : GivS b W0 w C P M A B Mo Nr s) (hb : Below w.heap.size w w') : GivS b W0 w' C P M A B Mo Nr s := by
  obtain ⟨hs, hg⟩ := h.g
  exact ⟨h.n, h.o.below hb, hs, hg.below hb⟩
theorem GivS.kept {T : Nat → Prop} (h : GivS b W0 w C P M A B Mo Nr s) (hk : Kept w w' T) (hT : ∀ k, T k → w.heap.size ≤ k) : GivS b W0 w' C P M A B Mo Nr s :=
  h.below (hk.below (Nat.le_refl _) (fun k hk => hT k hk))
theorem givm_made {hs f u : Nat → Bool} (hn : GivN b C P M A B Mo Nr) (hg : GvS w A B Mo Nr hs f u) (ho : Out w.heap.size w' (.slice x l.length cap) l) (hm : Mvs w w' C P M s') (hO : OwnS b W0 w' C P M s') (hl : Lk f u l s'.f (Zm.ua s')) (hlen : l.length ≤ 70) : GivM b W0 w' C P M A B Mo Nr s' x cap l := by
  refine ⟨hn, hO, ⟨hs, f, u, hg.kept hm.2 ?_ ?_ ?_ ?_, hl⟩, ho.rowZ, ho.capZ, hlen, fun g e hgx => ?_⟩
  · intro e; have := hn.ne A (Or.inl rfl); rcases e with e | e; exact this.2.1 e; exact this.2.2.1 e
  · intro e; have := hn.ne B (Or.inr (Or.inl rfl)); rcases e with e | e; exact this.2.1 e; exact this.2.2.1 e
  · intro e; have := hn.ne Mo (Or.inr (Or.inr (Or.inl rfl))); rcases e with e | e; exact this.2.1 e; exact this.2.2.1 e
  · intro e; have := hn.ne Nr (Or.inr (Or.inr (Or.inr rfl))); rcases e with e | e; exact this.2.1 e; exact this.2.2.1 e
  · subst e
    have hb := (ho.base (B := g) rfl).1
    have h1 := hg.m.lt
    have h2 := hg.n.lt
    omega
theorem GivM.looked (h : GivM b W0 w C P M A B Mo Nr s' x cap l) : Calls Try.prog 14 #[.slice x l.length cap, .pointer (some ⟨A, 0, none⟩), .pointer (some ⟨B, 0, none⟩)] w fun r w' => r = .returned (.bool true) ∧ GivS b W0 w' C P M A B Mo Nr s' := by
  obtain ⟨hs, f, u, hg, hl⟩ := h.g
  refine (glook_any x cap l A B Mo Nr hs f u _ _ w h.row h.cap (by have := h.len; omega) hg hl h.rn).mono ?_
  rintro r w' ⟨rfl, ⟨hs', hg'⟩, hk⟩
  have n1 := h.n.ne Mo (Or.inr (Or.inr (Or.inl rfl)))
  have n2 := h.n.ne Nr (Or.inr (Or.inr (Or.inr rfl)))
  refine ⟨rfl, h.n, ⟨h.o.sr.kept hk ?_ ?_ ?_, h.o.bC, h.o.bP, h.o.bM, h.o.bel.trans (hk.below h.o.bs (fun k e => by rcases e with rfl | rfl; exact n1.2.2.2; exact n2.2.2.2))⟩, hs', hg'⟩
  · intro e; rcases e with e | e; exact n1.1 e.symm; exact n2.1 e.symm
  · intro e; rcases e with e | e; exact n1.2.1 e.symm; exact n2.2.1 e.symm
  · intro e; rcases e with e | e; exact n1.2.2.1 e.symm; exact n2.2.2.1 e.symm
theorem owns_cks (h : OwnS b W0 w C P M s) : Calls Try.prog 13 #[.pointer (some ⟨C, 0, none⟩)] w fun r w' => ∃ a cap, r = .returned (.slice a (Zm.cks s).length cap) ∧ CkO w.heap.size w' (.slice a (Zm.cks s).length cap) (Zm.cks s) ∧ Below w.heap.size w w' :=
  (schecks_any C P M s w h.sr).mono fun r w' ⟨v, h1, h2, h3⟩ => by
    obtain ⟨a, cap, rfl⟩ := h2.form
    exact ⟨a, cap, h1, h2, h3⟩
theorem givs_start {w1 : World} (T : TypeId) (hO : OwnS b W0 w1 C P M Zm.new) :
    GivS b W0 ((((w1.alloc (.map #[] 0)).alloc (.map #[] 0)).alloc (.cells #[.map (some w1.heap.size)] T)).alloc (.cells #[.map (some (w1.heap.size + 1))] T)) C P M (w1.heap.size + 1 + 1) (w1.heap.size + 1 + 1 + 1) w1.heap.size (w1.heap.size + 1) Zm.new := by
  obtain ⟨W2, h2⟩ : ∃ W2, W2 = w1.alloc (.map #[] 0) := ⟨_, rfl⟩
  obtain ⟨W3, h3⟩ : ∃ W3, W3 = W2.alloc (.map #[] 0) := ⟨_, rfl⟩
  obtain ⟨W4, h4⟩ : ∃ W4, W4 = W3.alloc (.cells #[.map (some w1.heap.size)] T) := ⟨_, rfl⟩
  obtain ⟨W5, h5⟩ : ∃ W5, W5 = W4.alloc (.cells #[.map (some (w1.heap.size + 1))] T) := ⟨_, rfl⟩
  have s2 : W2.heap.size = w1.heap.size + 1 := by rw [h2]; simp
  have s3 : W3.heap.size = w1.heap.size + 1 + 1 := by rw [h3]; simp [s2]
  have s4 : W4.heap.size = w1.heap.size + 1 + 1 + 1 := by rw [h4]; simp [s3]
  have s5 : W5.heap.size = w1.heap.size + 1 + 1 + 1 + 1 := by rw [h5]; simp [s4]
  have b2 : Below w1.heap.size w1 W2 := by rw [h2]; exact (Below.refl _ _).alloc (Nat.le_refl _) _
  have b3 : Below W2.heap.size W2 W3 := by rw [h3]; exact (Below.refl _ _).alloc (Nat.le_refl _) _
  have b4 : Below W3.heap.size W3 W4 := by rw [h4]; exact (Below.refl _ _).alloc (Nat.le_refl _) _
  have b5 : Below W4.heap.size W4 W5 := by rw [h5]; exact (Below.refl _ _).alloc (Nat.le_refl _) _
  have m2 : GvIs W2 w1.heap.size (fun _ => false) (fun _ => false) := by rw [h2]; exact gvIs_made w1
  have m3 : GvIs W3 (w1.heap.size + 1) (fun _ => false) (fun _ => false) := by
    have := gvIs_made W2
    rw [s2, ← h3] at this
    exact this
  have c4 : W4.cell? ⟨w1.heap.size + 1 + 1, 0, none⟩ = some (.map (some w1.heap.size)) := by rw [h4, ← s3]; simp
  have c5 : W5.cell? ⟨w1.heap.size + 1 + 1 + 1, 0, none⟩ = some (.map (some (w1.heap.size + 1))) := by rw [h5, ← s4]; simp
  obtain ⟨l1, l2, l3⟩ := hO.sr.low
  have hbs := hO.bs
  rw [← h2, ← h3, ← h4, ← h5]
  refine ⟨⟨fun k hk => ?_⟩, (((hO.below b2).below b3).below b4).below b5, fun _ => false, ⟨by omega, by omega, (b5.cell (p := ⟨w1.heap.size + 1 + 1, 0, none⟩) (show w1.heap.size + 1 + 1 < W4.heap.size by omega)).trans c4, c5, ((m2.below b3).below b4).below b5, (m3.below b4).below b5, by omega, by omega, by omega, by omega, by omega⟩⟩
  rcases hk with rfl | rfl | rfl | rfl <;> exact ⟨by omega, by omega, by omega, by omega⟩
/-- the range over what is given, under way -/
structure GivR (b : Nat) (W0 w : World) (C P M A B Mo Nr rr h : Nat) (s : Zm.St) : Prop where
  gs : GivS b W0 w C P M A B Mo Nr s
  r : ∃ hs, RgS w Mo rr hs s.f h
  ne : rr ≠ C ∧ rr ≠ P ∧ rr ≠ M ∧ rr ≠ A ∧ rr ≠ B ∧ rr ≠ Mo ∧ rr ≠ Nr
  br : b ≤ rr
theorem RgS.le {w : World} {M r n : Nat} {hs f : Nat → Bool} (h : RgS w M r hs f n) : n ≤ 63 := by obtain ⟨D, left, cnt, _, _, _, h4⟩ := h; rw [← h4]; exact Pm.ct_le _ _
theorem givr_start (h : GivS b W0 w C P M A B Mo Nr s) {hs : Nat → Bool} (hr : RgS w' Mo w.heap.size hs s.f 0) (hb : Below w.heap.size w w') : GivR b W0 w' C P M A B Mo Nr w.heap.size 0 s := by
  obtain ⟨l1, l2, l3⟩ := h.o.sr.low
  obtain ⟨hs', hg⟩ := h.g
  have h1 := hg.la
  have h2 := hg.lb
  have h3 := hg.m.lt
  have h4 := hg.n.lt
  exact ⟨h.below hb, ⟨hs, hr⟩, ⟨by omega, by omega, by omega, by omega, by omega, by omega, by omega⟩, h.o.bs⟩
theorem GivR.step {rr h h' : Nat} {hs : Nat → Bool} (h0 : GivR b W0 w C P M A B Mo Nr rr h s) (hk : Kept w w' (fun k => k = rr)) (hr : RgS w' Mo rr hs s.f h') : GivR b W0 w' C P M A B Mo Nr rr h' s := by
  obtain ⟨hs', hg⟩ := h0.gs.g
  obtain ⟨n1, n2, n3, n4, n5, n6, n7⟩ := h0.ne
  exact ⟨⟨h0.gs.n, ⟨h0.gs.o.sr.kept hk (fun e => n1 e.symm) (fun e => n2 e.symm) (fun e => n3 e.symm), h0.gs.o.bC, h0.gs.o.bP, h0.gs.o.bM, h0.gs.o.bel.trans (hk.below h0.gs.o.bs (fun k e => by rw [e]; exact h0.br))⟩, hs', hg.kept hk (fun e => n4 e.symm) (fun e => n5 e.symm) (fun e => n6 e.symm) (fun e => n7 e.symm)⟩, ⟨hs, hr⟩, h0.ne, h0.br⟩
theorem ck_at : ∀ (l : List Ck) (i : Nat) (x : Ck), l[i]? = some x → ∀ j u, (ckL x)[j]? = some u → (cksL l)[i * 3 + j]? = some u
  | [], i, x, h, _, _, _ => by simp at h
  | y :: l, 0, x, h, j, u, hj => by
    simp at h
    subst h
    have hlt : j < (ckL y).length := (List.getElem?_eq_some_iff.1 hj).1
    show (ckL y ++ cksL l)[0 * 3 + j]? = some u
    rw [Nat.zero_mul, Nat.zero_add, List.getElem?_append_left hlt]
    exact hj
  | y :: l, i + 1, x, h, j, u, hj => by
    show (ckL y ++ cksL l)[(i + 1) * 3 + j]? = some u
    have h5 : (ckL y).length = 3 := rfl
    rw [List.getElem?_append_right (by omega), h5, show (i + 1) * 3 + j - 3 = i * 3 + j by omega]
    exact ck_at l i x (by simpa using h) j u hj
/-- the checks that are told, one by one -/
theorem cks_row {x : Option Addr} {cap b' : Nat} (hok : Zm.Ok s) (h : CkO b' w (.slice x (Zm.cks s).length cap) (Zm.cks s)) (i : Nat) (hi : i < (Zm.cks s).length) :
    ∃ g p : Nat, x = some ⟨g, 0, none⟩ ∧ g < w.heap.size ∧ p < 63 ∧ Zm.ua s p = true ∧ w.cell? ⟨g, i * 3, none⟩ = some (.int .i64 (64 + (p : Int))) ∧ w.cell? ⟨g, i * 3 + 1, none⟩ = some (.int .i64 (s.a p)) ∧ w.cell? ⟨g, i * 3 + 2, none⟩ = some (.int .i64 (s.n p)) := by
  rcases h.2 with ⟨_, h0⟩ | ⟨g, c', cur, hv, hb, hgg, hle, hr⟩
  · omega
  · injection hv with e1 e2 e3
    subst e1
    obtain ⟨y, hy⟩ : ∃ y, (Zm.cks s)[i]? = some y := ⟨_, List.getElem?_eq_getElem hi⟩
    have hm := List.mem_of_getElem? hy
    obtain ⟨t, ht, rfl⟩ := List.mem_map.1 hm
    obtain ⟨p, hp, hu, rfl⟩ := (Zm.ls_mem _ _ _).1 ht
    have hc : ∀ j u, (ckL (Zm.ckOf s (64 + (p : Int))))[j]? = some u → w.cell? ⟨g, i * 3 + j, none⟩ = some u := fun j u hj => by
      have h5 := ck_at _ i _ hy j u hj
      have hlt := (List.getElem?_eq_some_iff.1 h5).1
      rw [cksL_len] at hlt
      exact (World.ownsRow.cellAt h (i * 3 + j) hlt).trans h5
    have e : Pm.at' (64 + (p : Int)) = p := (Pm.au_of p hp).2
    refine ⟨g, p, rfl, (Array.getElem?_eq_some_iff.1 hgg).1, hp, hu, ?_, ?_, ?_⟩
    · exact hc 0 (.int .i64 (64 + (p : Int))) rfl
    · have ha : (Zm.ckOf s (64 + (p : Int))).a = (s.a p : Int) := by show ((s.a (Pm.at' (64 + (p : Int))) : Nat) : Int) = _; rw [e]
      have := hc 1 _ rfl
      rw [ha] at this
      exact this
    · have ha : (Zm.ckOf s (64 + (p : Int))).n = (s.n p : Int) := by show ((s.n (Pm.at' (64 + (p : Int))) : Nat) : Int) = _; rw [e]
      have := hc 2 _ rfl
      rw [ha] at this
      exact this
theorem CkO.capC {b' : Nat} {w : World} {l : List Ck} {a : Option Addr} {cap : Nat} (h : CkO b' w (.slice a l.length cap) l) : l.length ≤ cap := by
  rcases h.2 with ⟨h1, h2⟩ | ⟨g', c', cur, hv, _, _, hle, _⟩
  · omega
  · injection hv with _ _ e
    omega
end
end Go.Proofs.Ytdnhcpkpajbhoab
