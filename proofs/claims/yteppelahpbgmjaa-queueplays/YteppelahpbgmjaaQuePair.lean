/-
  A queue and the document's queue side by side, and a call's data in a block beside them: what moves the one leaves the other.
-/
import Derived.Test.YteppelahpbgmjaaQueDone
import Derived.Test.YteppelahpbgmjaaQueRef
import Derived.Test.YteppelahpbgmjaaQActRows
import Derived.Test.YteppelahpbgmjaaRegionGuard
namespace Go.Proofs.Yteppelahpbgmjaa
open Go.RowKit
set_option linter.unusedVariables false
set_option linter.unusedSimpArgs false

/-- the two of them, in blocks from b on, below which all is as in W0 -/
structure Pr (b : Nat) (W0 w : World) (C R : Nat) (mo : Int) (L : List ByteArray) (sn : Nat) (M : List ByteArray) (tn : Nat) : Prop where
  qu : ∃ G H, Qu w C G mo L sn ∧ Qu w R H (Qm.takes mo : Nat) M tn ∧ (∀ k, tch C G k → b ≤ k) ∧ (∀ k, tch R H k → b ≤ k) ∧ ∀ k, tch C G k → ¬ tch R H k
  bel : Below b W0 w
/-- and the data in block s -/
structure Two (b : Nat) (W0 w : World) (C R : Nat) (mo : Int) (s : Nat) (q : ActV) (L : List ByteArray) (sn : Nat) (M : List ByteArray) (tn : Nat) : Prop where
  qu : ∃ G H, Qu w C G mo L sn ∧ Qu w R H (Qm.takes mo : Nat) M tn ∧ (∀ k, tch C G k → b ≤ k ∧ k ≠ s) ∧ (∀ k, tch R H k → b ≤ k ∧ k ≠ s) ∧ ∀ k, tch C G k → ¬ tch R H k
  bel : Below b W0 w
  act : q.At w s 0
  lt : s < w.heap.size
section
variable {b : Nat} {W0 w : World} {C R s : Nat} {q : ActV} {mo : Int} {L M : List ByteArray} {sn tn : Nat}
theorem Pr.bs (h : Pr b W0 w C R mo L sn M tn) : b ≤ w.heap.size := by
  obtain ⟨G, H, h1, h2, h3, h4, h5⟩ := h.qu
  have := h3 C (Or.inl rfl); have := h1.lt; omega
theorem Two.pr (h : Two b W0 w C R mo s q L sn M tn) : Pr b W0 w C R mo L sn M tn := by
  obtain ⟨G, H, h1, h2, h3, h4, h5⟩ := h.qu
  exact ⟨⟨G, H, h1, h2, fun k hk => (h3 k hk).1, fun k hk => (h4 k hk).1, h5⟩, h.bel⟩
theorem Pr.below {w' : World} (h : Pr b W0 w C R mo L sn M tn) (hb : Below w.heap.size w w') : Pr b W0 w' C R mo L sn M tn := by
  obtain ⟨G, H, h1, h2, h3, h4, h5⟩ := h.qu
  exact ⟨⟨G, H, h1.below hb, h2.below hb, h3, h4, h5⟩, h.bel.trans (hb.mono h.bs)⟩
theorem Two.below {w' : World} (h : Two b W0 w C R mo s q L sn M tn) (hb : Below w.heap.size w w') : Two b W0 w' C R mo s q L sn M tn := by
  obtain ⟨G, H, h1, h2, h3, h4, h5⟩ := h.qu
  exact ⟨⟨G, H, h1.below hb, h2.below hb, h3, h4, h5⟩, h.bel.trans (hb.mono h.pr.bs), h.act.below hb h.lt, Nat.lt_of_lt_of_le h.lt hb.size⟩
theorem Pr.act {W : World} {T : TypeId} (h : Pr b W0 w C R mo L sn M tn) (hW : W = w.alloc (.cells #[.int .i64 q.d, .int .i64 q.n, .int .i64 q.o, .string q.s] T)) : Two b W0 W C R mo w.heap.size q L sn M tn := by
  subst hW
  obtain ⟨G, H, h1, h2, h3, h4, h5⟩ := h.qu
  have hb : Below w.heap.size w (w.alloc (.cells #[.int .i64 q.d, .int .i64 q.n, .int .i64 q.o, .string q.s] T)) := (Below.refl _ _).alloc (Nat.le_refl _) _
  exact ⟨⟨G, H, h1.below hb, h2.below hb, fun k hk => ⟨h3 k hk, by have := h1.tlt hk; omega⟩, fun k hk => ⟨h4 k hk, by have := h2.tlt hk; omega⟩, h5⟩, h.bel.trans (hb.mono h.bs), ⟨by simp, by simp, by simp, by simp⟩, by simp⟩
theorem Two.first (h : Two b W0 w C R mo s q L sn M tn) : ∃ G, Qu w C G mo L sn ∧ ∀ w' L' sn', Mvq w w' C G mo L' sn' → Two b W0 w' C R mo s q L' sn' M tn := by
  obtain ⟨G, H, h1, h2, h3, h4, h5⟩ := h.qu
  have hbs := h.pr.bs
  refine ⟨G, h1, fun w' L' sn' hm => ?_⟩
  obtain ⟨G', hq', hk, hf⟩ := hm
  refine ⟨⟨G', H, hq', h2.kept hk (fun hx => h5 R hx (Or.inl rfl)) (fun B hB hx => h5 B hx (Or.inr hB)), fun k hk' => ?_, h4, fun k hk' hk2 => ?_⟩, h.bel.trans (hk.below hbs (fun k hk' => (h3 k hk').1)), h.act.kept hk h.lt (fun hx => (h3 s hx).2 rfl), Nat.lt_of_lt_of_le h.lt hk.size⟩
  · rcases hk' with rfl | hk'
    · exact h3 k (Or.inl rfl)
    · rcases hf k hk' with h' | h'
      · exact h3 k (Or.inr h')
      · exact ⟨by omega, by have := h.lt; omega⟩
  · rcases hk' with rfl | hk'
    · exact h5 k (Or.inl rfl) hk2
    · rcases hf k hk' with h' | h'
      · exact h5 k (Or.inr h') hk2
      · have := h2.tlt hk2; omega
theorem Two.second (h : Two b W0 w C R mo s q L sn M tn) : ∃ H, Qu w R H (Qm.takes mo : Nat) M tn ∧ ∀ w' M' tn', Mvq w w' R H (Qm.takes mo : Nat) M' tn' → Two b W0 w' C R mo s q L sn M' tn' := by
  obtain ⟨G, H, h1, h2, h3, h4, h5⟩ := h.qu
  have hbs := h.pr.bs
  refine ⟨H, h2, fun w' L' sn' hm => ?_⟩
  obtain ⟨H', hq', hk, hf⟩ := hm
  refine ⟨⟨G, H', h1.kept hk (fun hx => h5 C (Or.inl rfl) hx) (fun B hB hx => h5 B (Or.inr hB) hx), hq', h3, fun k hk' => ?_, fun k hk' hk2 => ?_⟩, h.bel.trans (hk.below hbs (fun k hk' => (h4 k hk').1)), h.act.kept hk h.lt (fun hx => (h4 s hx).2 rfl), Nat.lt_of_lt_of_le h.lt hk.size⟩
  · rcases hk' with rfl | hk'
    · exact h4 k (Or.inl rfl)
    · rcases hf k hk' with h' | h'
      · exact h4 k (Or.inr h')
      · exact ⟨by omega, by have := h.lt; omega⟩
  · rcases hk2 with rfl | hk2
    · exact h5 k hk' (Or.inl rfl)
    · rcases hf k hk2 with h' | h'
      · exact h5 k hk' (Or.inr h')
      · have := h1.tlt hk'; omega

/-! ### both are called, in a region that draws its order: the first is operation 3, the second 7 -/
def TwJ (b : Nat) (W0 : World) (C R : Nat) (mo : Int) (s : Nat) (q : ActV) (L : List ByteArray) (sn : Nat) (L' : List ByteArray) (sn' : Nat) (l : Array Bool) (w : World) : Prop :=
  Two b W0 w C R mo s q (if l.getD 3 false = true then L' else L) (if l.getD 3 false = true then sn' else sn) (if l.getD 7 false = true then L' else L) (if l.getD 7 false = true then sn' else sn)
variable {L' : List ByteArray} {sn' : Nat} {l : Array Bool}
theorem TwJ.two (h : TwJ b W0 C R mo s q L sn L' sn' l w) : Two b W0 w C R mo s q (if l.getD 3 false = true then L' else L) (if l.getD 3 false = true then sn' else sn) (if l.getD 7 false = true then L' else L) (if l.getD 7 false = true then sn' else sn) := h
theorem TwJ.act (h : TwJ b W0 C R mo s q L sn L' sn' l w) : q.At w s 0 := h.two.act
theorem TwJ.same {i : Nat} (h : TwJ b W0 C R mo s q L sn L' sn' l w) (h1 : i ≠ 3) (h2 : i ≠ 7) : TwJ b W0 C R mo s q L sn L' sn' (l.setIfInBounds i true) w := by
  unfold TwJ at *
  rw [getD_set_ne false h1, getD_set_ne false h2]
  exact h
theorem not_yet {md : Region.Mode} {ops : Array Oper} {l : Array Bool} {i : Nat} (h : i ∈ Region.ready md ops l) : l.getD i false = false ∧ (l.setIfInBounds i true).getD i false = true := by
  have hl := (mem_ready.1 h).1
  have hlt := unlisted_lt hl
  refine ⟨?_, by simp [hlt]⟩
  simp [hlt] at hl ⊢
  exact hl
theorem TwJ.first {md : Region.Mode} {ops : Array Oper} (h : TwJ b W0 C R mo s q L sn L' sn' l w) (hr : 3 ∈ Region.ready md ops l) :
    ∃ G, Qu w C G mo L sn ∧ ∀ w', Mvq w w' C G mo L' sn' → TwJ b W0 C R mo s q L sn L' sn' (l.setIfInBounds 3 true) w' := by
  obtain ⟨e1, e2⟩ := not_yet hr
  have h' := h.two
  rw [e1] at h'
  simp only [Bool.false_eq_true, if_false] at h'
  obtain ⟨G, h1, h2⟩ := h'.first
  refine ⟨G, h1, fun w' hm => ?_⟩
  unfold TwJ
  rw [e2, getD_set_ne false (by decide)]
  simp only [if_true]
  exact h2 _ _ _ hm
theorem TwJ.second {md : Region.Mode} {ops : Array Oper} (h : TwJ b W0 C R mo s q L sn L' sn' l w) (hr : 7 ∈ Region.ready md ops l) :
    ∃ H, Qu w R H (Qm.takes mo : Nat) L sn ∧ ∀ w', Mvq w w' R H (Qm.takes mo : Nat) L' sn' → TwJ b W0 C R mo s q L sn L' sn' (l.setIfInBounds 7 true) w' := by
  obtain ⟨e1, e2⟩ := not_yet hr
  have h' := h.two
  rw [e1] at h'
  simp only [Bool.false_eq_true, if_false] at h'
  obtain ⟨G, h1, h2⟩ := h'.second
  refine ⟨G, h1, fun w' hm => ?_⟩
  unfold TwJ
  rw [e2, getD_set_ne false (by decide)]
  simp only [if_true]
  exact h2 _ _ _ hm
theorem twJ_start {K : Nat} (L' : List ByteArray) (sn' : Nat) (h : Two b W0 w C R mo s q L sn L sn) : TwJ b W0 C R mo s q L sn L' sn' (Array.replicate K false) w := by
  unfold TwJ
  rw [rep_getD', rep_getD']
  simpa using h
theorem TwJ.done (h : TwJ b W0 C R mo s q L sn L' sn' l w) (hall : ∀ i, i < 9 → l.getD i false = true) : Two b W0 w C R mo s q L' sn' L' sn' := by
  have h' := h.two
  rw [hall 3 (by decide), hall 7 (by decide)] at h'
  simpa using h'
end

/-! ### the operations -/
section
variable {ρ : Operand → Value} {o : Oper}
theorem runy_fa {x : Operand} {s j : Nat} (hop : o.op = .fieldAddr 29 x j) (hj : j = 1 ∨ j = 3) (hx : ρ x = .pointer (some ⟨s, 0, none⟩)) (w : World) : (execOp ρ o).run Try.prog w = .ok (.value (.pointer (some ⟨s, j, none⟩))) w := by
  unfold execOp
  rcases hj with rfl | rfl
  all_goals
    simp only [hop, hx]
    go_simp
theorem runy_ldi {x : Operand} {s j : Nat} {v : Int} {w : World} (hop : o.op = .load 3 x) (hx : ρ x = .pointer (some ⟨s, j, none⟩)) (hc : w.cell? ⟨s, j, none⟩ = some (.int .i64 v)) : (execOp ρ o).run Try.prog w = .ok (.value (.int .i64 v)) w := by
  unfold execOp
  simp only [hop, hx]
  go_simp
theorem runy_lds {x : Operand} {s j : Nat} {v : ByteArray} {w : World} (hop : o.op = .load 9 x) (hx : ρ x = .pointer (some ⟨s, j, none⟩)) (hc : w.cell? ⟨s, j, none⟩ = some (.string v)) : (execOp ρ o).run Try.prog w = .ok (.value (.string v)) w := by
  unfold execOp
  simp only [hop, hx]
  go_simp
theorem runy_nei {x y : Operand} {n : Int} (hop : o.op = .binOp .neq 3 x y 3) (hx : ρ x = .int .i64 n) (hy : ρ y = .int .i64 n) (w : World) : (execOp ρ o).run Try.prog w = .ok (.value (.bool false)) w := by
  have tn : (n == n) = true := by simp
  unfold execOp
  simp only [hop, hx, hy]
  go_simp
theorem runy_neb {x y : Operand} {b : Bool} (hop : o.op = .binOp .neq 4 x y 4) (hx : ρ x = .bool b) (hy : ρ y = .bool b) (w : World) : (execOp ρ o).run Try.prog w = .ok (.value (.bool false)) w := by
  have tb : (b == b) = true := by simp
  unfold execOp
  simp only [hop, hx, hy]
  go_simp
theorem runy_done {x y : Operand} {u v : Value} {ts : Array TypeId} (hop : o.op = .call { callee := .value (.func 13), args := #[x, y], argTypes := ts })
    (hf : ρ (.func 13) = .func (.func 13) #[] #[]) (hx : ρ x = u) (hy : ρ y = v) (w : World) : (execOp ρ o).run Try.prog w = .ok (.enter 13 #[u, v]) w := by
  unfold execOp
  simp only [hop]
  simp only [resolve, hf, hx, hy, List.map_toArray, List.map_cons, List.map_nil]
  go_simp
theorem runy_rdone {x y : Operand} {u v : Value} {ts : Array TypeId} (hop : o.op = .call { callee := .value (.func 14), args := #[x, y], argTypes := ts })
    (hf : ρ (.func 14) = .func (.func 14) #[] #[]) (hx : ρ x = u) (hy : ρ y = v) (w : World) : (execOp ρ o).run Try.prog w = .ok (.enter 14 #[u, v]) w := by
  unfold execOp
  simp only [hop]
  simp only [resolve, hf, hx, hy, List.map_toArray, List.map_cons, List.map_nil]
  go_simp
theorem runy_back {x y : Operand} {u v : Value} {ts : Array TypeId} (hop : o.op = .call { callee := .value (.func 15), args := #[x, y], argTypes := ts })
    (hf : ρ (.func 15) = .func (.func 15) #[] #[]) (hx : ρ x = u) (hy : ρ y = v) (w : World) : (execOp ρ o).run Try.prog w = .ok (.enter 15 #[u, v]) w := by
  unfold execOp
  simp only [hop]
  simp only [resolve, hf, hx, hy, List.map_toArray, List.map_cons, List.map_nil]
  go_simp
theorem runy_rback {x y : Operand} {u v : Value} {ts : Array TypeId} (hop : o.op = .call { callee := .value (.func 16), args := #[x, y], argTypes := ts })
    (hf : ρ (.func 16) = .func (.func 16) #[] #[]) (hx : ρ x = u) (hy : ρ y = v) (w : World) : (execOp ρ o).run Try.prog w = .ok (.enter 16 #[u, v]) w := by
  unfold execOp
  simp only [hop]
  simp only [resolve, hf, hx, hy, List.map_toArray, List.map_cons, List.map_nil]
  go_simp
theorem runy_push {x y : Operand} {u v : Value} {ts : Array TypeId} (hop : o.op = .call { callee := .value (.func 19), args := #[x, y], argTypes := ts })
    (hf : ρ (.func 19) = .func (.func 19) #[] #[]) (hx : ρ x = u) (hy : ρ y = v) (w : World) : (execOp ρ o).run Try.prog w = .ok (.enter 19 #[u, v]) w := by
  unfold execOp
  simp only [hop]
  simp only [resolve, hf, hx, hy, List.map_toArray, List.map_cons, List.map_nil]
  go_simp
theorem runy_rpush {x y : Operand} {u v : Value} {ts : Array TypeId} (hop : o.op = .call { callee := .value (.func 20), args := #[x, y], argTypes := ts })
    (hf : ρ (.func 20) = .func (.func 20) #[] #[]) (hx : ρ x = u) (hy : ρ y = v) (w : World) : (execOp ρ o).run Try.prog w = .ok (.enter 20 #[u, v]) w := by
  unfold execOp
  simp only [hop]
  simp only [resolve, hf, hx, hy, List.map_toArray, List.map_cons, List.map_nil]
  go_simp
end
def doneD : Nat → Option Nat
  | 0 => some 75 | 1 => some 76 | 2 => some 77 | 3 => some 78 | 4 => some 79 | 5 => some 80 | 6 => some 81 | 7 => some 82 | 8 => some 83 | _ => none
def backD : Nat → Option Nat
  | 0 => some 87 | 1 => some 88 | 2 => some 89 | 3 => some 90 | 4 => some 91 | 5 => some 92 | 6 => some 93 | 7 => some 94 | 8 => some 95 | _ => none
def pushD : Nat → Option Nat
  | 0 => some 41 | 1 => some 42 | 2 => some 43 | 3 => some 44 | 4 => some 45 | 5 => some 46 | 6 => some 47 | 7 => some 48 | 8 => some 49 | _ => none
def bothV (C R s j : Nat) (arg ans : Value) : Nat → Value
  | 0 => .pointer (some ⟨C, 0, none⟩) | 1 => .pointer (some ⟨s, j, none⟩) | 2 => arg | 3 => ans | 4 => .pointer (some ⟨R, 0, none⟩) | 5 => .pointer (some ⟨s, j, none⟩) | 6 => arg | 7 => ans | 8 => .bool false | _ => undef
theorem doneD_inj : ∀ i j d, i < 9 → j < 9 → doneD i = some d → doneD j = some d → i = j := by
  have h : ∀ i < 9, ∀ j < 9, doneD i = doneD j → i = j := by decide
  intro i j d hi hj h1 h2
  exact h i hi j hj (h1.trans h2.symm)
theorem doneD_lt : ∀ i d, i < 9 → doneD i = some d → d < 157 := by
  have h : ∀ i < 9, (doneD i).all (· < 157) = true := by decide
  intro i d hi hd
  have := h i hi
  rw [hd] at this
  simpa using this
theorem backD_inj : ∀ i j d, i < 9 → j < 9 → backD i = some d → backD j = some d → i = j := by
  have h : ∀ i < 9, ∀ j < 9, backD i = backD j → i = j := by decide
  intro i j d hi hj h1 h2
  exact h i hi j hj (h1.trans h2.symm)
theorem backD_lt : ∀ i d, i < 9 → backD i = some d → d < 157 := by
  have h : ∀ i < 9, (backD i).all (· < 157) = true := by decide
  intro i d hi hd
  have := h i hi
  rw [hd] at this
  simpa using this
theorem pushD_inj : ∀ i j d, i < 9 → j < 9 → pushD i = some d → pushD j = some d → i = j := by
  have h : ∀ i < 9, ∀ j < 9, pushD i = pushD j → i = j := by decide
  intro i j d hi hj h1 h2
  exact h i hi j hj (h1.trans h2.symm)
theorem pushD_lt : ∀ i d, i < 9 → pushD i = some d → d < 157 := by
  have h : ∀ i < 9, (pushD i).all (· < 157) = true := by decide
  intro i d hi hd
  have := h i hi
  rw [hd] at this
  simpa using this
theorem pushN_takes (mo : Int) (L : List ByteArray) (x : ByteArray) : Qm.pushN (Qm.takes mo : Nat) L x = Qm.pushN mo L x ∧ Qm.pushL (Qm.takes mo : Nat) L x = Qm.pushL mo L x := by
  unfold Qm.pushN Qm.pushL
  rw [Qm.takes_takes]
  exact ⟨rfl, rfl⟩
end Go.Proofs.Yteppelahpbgmjaa
