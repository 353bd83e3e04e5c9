/-
  A pool and the document's pool side by side, and a call's data in a block beside them: what moves the one leaves the other.
-/
import Derived.Test.YtdojkaliohcckaaPoolRefAs
import Derived.Test.YtdojkaliohcckaaPActRows
import Derived.Test.YtdojkaliohcckaaRegionGuard
namespace Go.Proofs.Ytdojkaliohcckaa
open Go.RowKit
set_option linter.unusedVariables false
set_option linter.unusedSimpArgs false

/-- the two of them, in blocks from b on, below which all is as in W0 -/
structure Pr (b : Nat) (W0 w : World) (C R : Nat) (f : Nat → Bool) (nx : Nat) (g : Nat → Bool) (ny : Nat) : Prop where
  pl : Pl w C f nx
  rp : Rp w R g ny
  bC : b ≤ C
  bR : b ≤ R
  ne : C ≠ R
  bel : Below b W0 w
/-- and the data in block s -/
structure Two (b : Nat) (W0 w : World) (C R s : Nat) (q : ActV) (f : Nat → Bool) (nx : Nat) (g : Nat → Bool) (ny : Nat) : Prop where
  pr : Pr b W0 w C R f nx g ny
  act : q.At w s 0
  lt : s < w.heap.size
  sC : s ≠ C
  sR : s ≠ R
section
variable {b : Nat} {W0 w w' : World} {C R s nx ny : Nat} {q : ActV} {f g : Nat → Bool}
theorem Pr.bs (h : Pr b W0 w C R f nx g ny) : b ≤ w.heap.size := by have := h.bC; have := h.pl.lt; omega
theorem Pr.below (h : Pr b W0 w C R f nx g ny) (hb : Below w.heap.size w w') : Pr b W0 w' C R f nx g ny := ⟨h.pl.below hb, h.rp.below hb, h.bC, h.bR, h.ne, h.bel.trans (hb.mono h.bs)⟩
theorem Two.below (h : Two b W0 w C R s q f nx g ny) (hb : Below w.heap.size w w') : Two b W0 w' C R s q f nx g ny := ⟨h.pr.below hb, h.act.below hb h.lt, Nat.lt_of_lt_of_le h.lt hb.size, h.sC, h.sR⟩
theorem Pr.act {W : World} {T : TypeId} (h : Pr b W0 w C R f nx g ny) (hW : W = w.alloc (.cells #[.int .i64 q.d, .int .i64 q.n, .int .i64 q.o] T)) : Two b W0 W C R w.heap.size q f nx g ny := by
  subst hW
  have hb : Below w.heap.size w (w.alloc (.cells #[.int .i64 q.d, .int .i64 q.n, .int .i64 q.o] T)) := (Below.refl _ _).alloc (Nat.le_refl _) _
  exact ⟨h.below hb, ⟨by simp, by simp, by simp⟩, by simp, by have := h.pl.lt; omega, by have := h.rp.lt; omega⟩
theorem Pr.first {f' : Nat → Bool} {nx' : Nat} (h : Pr b W0 w C R f nx g ny) (hp : Pl w' C f' nx') (hk : Kept w w' (fun k => k = C)) : Pr b W0 w' C R f' nx' g ny :=
  ⟨hp, h.rp.kept hk (fun e => h.ne e.symm), h.bC, h.bR, h.ne, h.bel.trans (hk.below h.bs (fun k hk' => by rw [hk']; exact h.bC))⟩
theorem Pr.second {g' : Nat → Bool} {ny' : Nat} (h : Pr b W0 w C R f nx g ny) (hp : Rp w' R g' ny') (hk : Kept w w' (fun k => k = R)) : Pr b W0 w' C R f nx g' ny' :=
  ⟨h.pl.kept hk h.ne, hp, h.bC, h.bR, h.ne, h.bel.trans (hk.below h.bs (fun k hk' => by rw [hk']; exact h.bR))⟩
theorem Two.first {f' : Nat → Bool} {nx' : Nat} (h : Two b W0 w C R s q f nx g ny) (hp : Pl w' C f' nx') (hk : Kept w w' (fun k => k = C)) : Two b W0 w' C R s q f' nx' g ny :=
  ⟨h.pr.first hp hk, h.act.kept hk h.lt h.sC, Nat.lt_of_lt_of_le h.lt hk.size, h.sC, h.sR⟩
theorem Two.second {g' : Nat → Bool} {ny' : Nat} (h : Two b W0 w C R s q f nx g ny) (hp : Rp w' R g' ny') (hk : Kept w w' (fun k => k = R)) : Two b W0 w' C R s q f nx g' ny' :=
  ⟨h.pr.second hp hk, h.act.kept hk h.lt h.sR, Nat.lt_of_lt_of_le h.lt hk.size, h.sC, h.sR⟩

/-! ### both are called, in a region that draws its order: the first is operation 3, the second 7 -/
def TwJ (b : Nat) (W0 : World) (C R s : Nat) (q : ActV) (nx : Nat) (f f' : Nat → Bool) (l : Array Bool) (w : World) : Prop :=
  Two b W0 w C R s q (if l.getD 3 false = true then f' else f) nx (if l.getD 7 false = true then f' else f) nx
variable {f' : Nat → Bool} {l : Array Bool}
theorem TwJ.two (h : TwJ b W0 C R s q nx f f' l w) : Two b W0 w C R s q (if l.getD 3 false = true then f' else f) nx (if l.getD 7 false = true then f' else f) nx := h
theorem TwJ.act (h : TwJ b W0 C R s q nx f f' l w) : q.At w s 0 := h.two.act
theorem TwJ.same {i : Nat} (h : TwJ b W0 C R s q nx f f' l w) (h1 : i ≠ 3) (h2 : i ≠ 7) : TwJ b W0 C R s q nx f f' (l.setIfInBounds i true) w := by
  unfold TwJ at *
  rw [getD_set_ne false h1, getD_set_ne false h2]
  exact h
theorem not_yet {md : Region.Mode} {ops : Array Oper} {l : Array Bool} {i : Nat} (h : i ∈ Region.ready md ops l) : l.getD i false = false ∧ (l.setIfInBounds i true).getD i false = true := by
  have hl := (mem_ready.1 h).1
  have hlt := unlisted_lt hl
  refine ⟨?_, by simp [hlt]⟩
  simp [hlt] at hl ⊢
  exact hl
theorem TwJ.first {md : Region.Mode} {ops : Array Oper} (h : TwJ b W0 C R s q nx f f' l w) (hr : 3 ∈ Region.ready md ops l) :
    Pl w C f nx ∧ ∀ w', Pl w' C f' nx → Kept w w' (fun k => k = C) → TwJ b W0 C R s q nx f f' (l.setIfInBounds 3 true) w' := by
  obtain ⟨e1, e2⟩ := not_yet hr
  have h' := h.two
  rw [e1] at h'
  simp only [Bool.false_eq_true, if_false] at h'
  refine ⟨h'.pr.pl, fun w' hp hk => ?_⟩
  unfold TwJ
  rw [e2, getD_set_ne false (by decide)]
  simp only [if_true]
  exact h'.first hp hk
theorem TwJ.second {md : Region.Mode} {ops : Array Oper} (h : TwJ b W0 C R s q nx f f' l w) (hr : 7 ∈ Region.ready md ops l) :
    Rp w R f nx ∧ ∀ w', Rp w' R f' nx → Kept w w' (fun k => k = R) → TwJ b W0 C R s q nx f f' (l.setIfInBounds 7 true) w' := by
  obtain ⟨e1, e2⟩ := not_yet hr
  have h' := h.two
  rw [e1] at h'
  simp only [Bool.false_eq_true, if_false] at h'
  refine ⟨h'.pr.rp, fun w' hp hk => ?_⟩
  unfold TwJ
  rw [e2, getD_set_ne false (by decide)]
  simp only [if_true]
  exact h'.second hp hk
theorem twJ_start {K : Nat} (f' : Nat → Bool) (h : Two b W0 w C R s q f nx f nx) : TwJ b W0 C R s q nx f f' (Array.replicate K false) w := by
  unfold TwJ
  rw [rep_getD', rep_getD']
  simpa using h
theorem TwJ.done (h : TwJ b W0 C R s q nx f f' l w) (hall : ∀ i, i < 9 → l.getD i false = true) : Two b W0 w C R s q f' nx f' nx := by
  have h' := h.two
  rw [hall 3 (by decide), hall 7 (by decide)] at h'
  simpa using h'
end

/-! ### the operations -/
section
variable {ρ : Operand → Value} {o : Oper}
theorem runy_fa {x : Operand} {s : Nat} (hop : o.op = .fieldAddr 31 x 1) (hx : ρ x = .pointer (some ⟨s, 0, none⟩)) (w : World) : (execOp ρ o).run Try.prog w = .ok (.value (.pointer (some ⟨s, 1, none⟩))) w := by
  unfold execOp
  simp only [hop, hx]
  go_simp
theorem runy_ldi {x : Operand} {s j : Nat} {v : Int} {w : World} (hop : o.op = .load 3 x) (hx : ρ x = .pointer (some ⟨s, j, none⟩)) (hc : w.cell? ⟨s, j, none⟩ = some (.int .i64 v)) : (execOp ρ o).run Try.prog w = .ok (.value (.int .i64 v)) w := by
  unfold execOp
  simp only [hop, hx]
  go_simp
theorem runy_nei {x y : Operand} {n : Int} (hop : o.op = .binOp .neq 3 x y 3) (hx : ρ x = .int .i64 n) (hy : ρ y = .int .i64 n) (w : World) : (execOp ρ o).run Try.prog w = .ok (.value (.bool false)) w := by
  have tn : (n == n) = true := by simp
  unfold execOp
  simp only [hop, hx, hy]
  go_simp
theorem runy_neb {x y : Operand} {b : Bool} (hop : o.op = .binOp .neq 4 x y 4) (hx : ρ x = .bool b) (hy : ρ y = .bool b) (w : World) : (execOp ρ o).run Try.prog w = .ok (.value (.bool false)) w := by
  have tb : (b == b) = true := by simp
  unfold execOp
  simp only [hop, hx, hy]
  go_simp
theorem runy_claim {x y : Operand} {u v : Value} {ts : Array TypeId} (hop : o.op = .call { callee := .value (.func 10), args := #[x, y], argTypes := ts })
    (hf : ρ (.func 10) = .func (.func 10) #[] #[]) (hx : ρ x = u) (hy : ρ y = v) (w : World) : (execOp ρ o).run Try.prog w = .ok (.enter 10 #[u, v]) w := by
  unfold execOp
  simp only [hop]
  simp only [resolve, hf, hx, hy, List.map_toArray, List.map_cons, List.map_nil]
  go_simp
theorem runy_rclaim {x y : Operand} {u v : Value} {ts : Array TypeId} (hop : o.op = .call { callee := .value (.func 11), args := #[x, y], argTypes := ts })
    (hf : ρ (.func 11) = .func (.func 11) #[] #[]) (hx : ρ x = u) (hy : ρ y = v) (w : World) : (execOp ρ o).run Try.prog w = .ok (.enter 11 #[u, v]) w := by
  unfold execOp
  simp only [hop]
  simp only [resolve, hf, hx, hy, List.map_toArray, List.map_cons, List.map_nil]
  go_simp
theorem runy_free {x y : Operand} {u v : Value} {ts : Array TypeId} (hop : o.op = .call { callee := .value (.func 12), args := #[x, y], argTypes := ts })
    (hf : ρ (.func 12) = .func (.func 12) #[] #[]) (hx : ρ x = u) (hy : ρ y = v) (w : World) : (execOp ρ o).run Try.prog w = .ok (.enter 12 #[u, v]) w := by
  unfold execOp
  simp only [hop]
  simp only [resolve, hf, hx, hy, List.map_toArray, List.map_cons, List.map_nil]
  go_simp
theorem runy_rfree {x y : Operand} {u v : Value} {ts : Array TypeId} (hop : o.op = .call { callee := .value (.func 13), args := #[x, y], argTypes := ts })
    (hf : ρ (.func 13) = .func (.func 13) #[] #[]) (hx : ρ x = u) (hy : ρ y = v) (w : World) : (execOp ρ o).run Try.prog w = .ok (.enter 13 #[u, v]) w := by
  unfold execOp
  simp only [hop]
  simp only [resolve, hf, hx, hy, List.map_toArray, List.map_cons, List.map_nil]
  go_simp
end
def claimD : Nat → Option Nat
  | 0 => some 63 | 1 => some 64 | 2 => some 65 | 3 => some 66 | 4 => some 67 | 5 => some 68 | 6 => some 69 | 7 => some 70 | 8 => some 71 | _ => none
def freeD : Nat → Option Nat
  | 0 => some 75 | 1 => some 76 | 2 => some 77 | 3 => some 78 | 4 => some 79 | 5 => some 80 | 6 => some 81 | 7 => some 82 | 8 => some 83 | _ => none
def bothV (C R s : Nat) (arg ans : Value) : Nat → Value
  | 0 => .pointer (some ⟨C, 0, none⟩) | 1 => .pointer (some ⟨s, 1, none⟩) | 2 => arg | 3 => ans | 4 => .pointer (some ⟨R, 0, none⟩) | 5 => .pointer (some ⟨s, 1, none⟩) | 6 => arg | 7 => ans | 8 => .bool false | _ => undef
theorem claimD_inj : ∀ i j d, i < 9 → j < 9 → claimD i = some d → claimD j = some d → i = j := by
  have h : ∀ i < 9, ∀ j < 9, claimD i = claimD j → i = j := by decide
  intro i j d hi hj h1 h2
  exact h i hi j hj (h1.trans h2.symm)
theorem claimD_lt : ∀ i d, i < 9 → claimD i = some d → d < 118 := by
  have h : ∀ i < 9, (claimD i).all (· < 118) = true := by decide
  intro i d hi hd
  have := h i hi
  rw [hd] at this
  simpa using this
theorem freeD_inj : ∀ i j d, i < 9 → j < 9 → freeD i = some d → freeD j = some d → i = j := by
  have h : ∀ i < 9, ∀ j < 9, freeD i = freeD j → i = j := by decide
  intro i j d hi hj h1 h2
  exact h i hi j hj (h1.trans h2.symm)
theorem freeD_lt : ∀ i d, i < 9 → freeD i = some d → d < 118 := by
  have h : ∀ i < 9, (freeD i).all (· < 118) = true := by decide
  intro i d hi hd
  have := h i hi
  rw [hd] at this
  simpa using this
end Go.Proofs.Ytdojkaliohcckaa
