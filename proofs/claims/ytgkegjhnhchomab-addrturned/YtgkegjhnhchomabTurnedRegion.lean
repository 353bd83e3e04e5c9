/-
  The region 'a, b, c := Make(..), Make(..), Make(..)' of AddrTurned as a whole: each of its operations keeps the invariant; behind the last one three addresses lie in three blocks.
-/
import Derived.Test.YtgkegjhnhchomabTurnedInv
namespace Go.Proofs.Ytgkegjhnhchomab
open Go.RowKit
set_option linter.unusedVariables false
set_option linter.unusedSimpArgs false

def tabOp : Nat → Op
  | 0 => .load 25 (.tmp 7)
  | 1 => .move (.tmp 1)
  | 2 => .move (.tmp 2)
  | 3 => .call { callee := .value (.func 4), args := #[.tmp 16, .tmp 17, .tmp 18], argTypes := #[25, 4, 4] }
  | 4 => .load 25 (.tmp 7)
  | 5 => .move (.tmp 1)
  | 6 => .unOp .not 4 (.tmp 21)
  | 7 => .move (.tmp 2)
  | 8 => .unOp .not 4 (.tmp 23)
  | 9 => .call { callee := .value (.func 4), args := #[.tmp 20, .tmp 22, .tmp 24], argTypes := #[25, 4, 4] }
  | 10 => .load 25 (.tmp 7)
  | 11 => .move (.tmp 1)
  | 12 => .unOp .not 4 (.tmp 27)
  | 13 => .move (.tmp 2)
  | 14 => .call { callee := .value (.func 4), args := #[.tmp 26, .tmp 28, .tmp 29], argTypes := #[25, 4, 4] }
  | 15 => .alloc 27
  | 16 => .alloc 27
  | 17 => .alloc 27
  | 18 => .store 27 (.tmp 8) (.tmp 19)
  | 19 => .store 27 (.tmp 9) (.tmp 25)
  | _ => .store 27 (.tmp 10) (.tmp 30)
def tabDst : Nat → Option Tmp
  | 0 => some 16
  | 1 => some 17
  | 2 => some 18
  | 3 => some 19
  | 4 => some 20
  | 5 => some 21
  | 6 => some 22
  | 7 => some 23
  | 8 => some 24
  | 9 => some 25
  | 10 => some 26
  | 11 => some 27
  | 12 => some 28
  | 13 => some 29
  | 14 => some 30
  | 15 => some 8
  | 16 => some 9
  | 17 => some 10
  | _ => none
def need : Nat → List Nat
  | 3 => [0, 1, 2]
  | 6 => [5]
  | 8 => [7]
  | 9 => [4, 6, 8]
  | 12 => [11]
  | 14 => [10, 12, 13]
  | 18 => [15, 3]
  | 19 => [16, 9]
  | 20 => [17, 14]
  | _ => []

theorem rep_getD (N j : Nat) : (Array.replicate N false).getD j false = false := by
  simp only [Array.getD_eq_getD_getElem?, Array.getElem?_replicate]
  split <;> rfl
theorem act_ext {a b : Act} (hd : a.defers = b.defers) (hs : a.tmps.size = b.tmps.size) (h : ∀ s, a.eval (.tmp s) = b.eval (.tmp s)) : a = b := by
  obtain ⟨ta, da⟩ := a
  obtain ⟨tb, db⟩ := b
  simp only at hd hs
  subst hd
  congr 1
  refine Array.ext hs (fun i h1 h2 => ?_)
  have := h i
  simpa [Act.eval, Array.getElem?_eq_getElem h1, Array.getElem?_eq_getElem h2] using this
theorem off_put {a b : Act} {S : Nat → Prop} {d : Nat} {v : Value} (h : ∀ s, ¬ S s → a.eval (.tmp s) = b.eval (.tmp s)) (hv : a.eval (.tmp d) = v) (hd : d < b.tmps.size) : ∀ s, ¬ (S s ∧ s ≠ d) → a.eval (.tmp s) = (b.put (some d) v).eval (.tmp s) := by
  intro s hs
  by_cases e : d = s
  · subst e
    rw [eval_put_same hd, hv]
  · rw [eval_put_other e]
    exact h s (fun hS => hs ⟨hS, fun e' => e e'.symm⟩)

section
variable {ops : Array Oper} {Q : Exit → Act → World → Prop} {a0 : Act} {w0 : World} {L : Nat} {x y : Int} {k n : Bool}

structure Shape (ops : Array Oper) : Prop where
  size : ops.size = 21
  op : ∀ i, i < 21 → ∃ o, ops[i]? = some o ∧ o.guard = none ∧ o.op = tabOp i ∧ o.dst = tabDst i
  low : ∀ i, i < 21 → ∀ j ∈ depsOf .any ops i, j < i
  need : ∀ i, i < 21 → ∀ j ∈ need i, j ∈ depsOf .any ops i

def Inv2 (a0 : Act) (w0 : World) (L : Nat) (x y : Int) (k n : Bool) (l : Array Bool) (a : Act) (w : World) : Prop := Inv a0 w0 L x y k n l a w ∧ ∀ j, 18 ≤ j → j ≤ 20 → l.getD j false = true → l.getD (j - 3) false = true
theorem Inv2.keep {l : Array Bool} {a a' : Act} {w w' : World} {i : Nat} (h : Inv2 a0 w0 L x y k n l a w) (hi : i ≤ 17 ∨ l.getD (i - 3) false = true) (h' : Inv a0 w0 L x y k n (l.setIfInBounds i true) a' w') : Inv2 a0 w0 L x y k n (l.setIfInBounds i true) a' w' := by
  refine ⟨h', fun j h1 h2 hj => ?_⟩
  rcases set_listed hj with rfl | hj'
  · exact getD_set_true (hi.resolve_left (by omega))
  · exact getD_set_true (h.2 j h1 h2 hj')

theorem step_load {l : Array Bool} {a : Act} {w : World} {i : Nat} (S : Shape ops) (h65 : 31 ≤ a0.tmps.size) (h7 : a0.eval (.tmp 7) = ptr L) (h : Inv2 a0 w0 L x y k n l a w) (hi : i ≤ 14) (hop : tabOp i = .load 25 (.tmp 7)) (hds : tabDst i = some (16 + i)) (hv : val x y k n i = .agg #[.int .i64 x, .int .i64 y]) :
    wpOp Try.prog ops Q i (Inv2 a0 w0 L x y k n (l.setIfInBounds i true)) a w := by
  obtain ⟨o, ho, hg, h1, h2⟩ := S.op i (by omega)
  have hf := h.1.fr
  refine wpOp_value ho hg (run_load (h1.trans hop) ((hf.rest 7 (by unfold isP; omega) (by omega)).trans h7) hf.l0 hf.l1) ?_
  rw [h2, hds, ← hv]
  exact h.keep (Or.inl (by omega)) (h.1.put (Below.refl _ _) hi h65)
theorem step_move {l : Array Bool} {a : Act} {w : World} {i s : Nat} (S : Shape ops) (h65 : 31 ≤ a0.tmps.size) (h : Inv2 a0 w0 L x y k n l a w) (hi : i ≤ 14) (hs : s = 1 ∨ s = 2) (hop : tabOp i = .move (.tmp s)) (hds : tabDst i = some (16 + i)) (hv : val x y k n i = a0.eval (.tmp s)) :
    wpOp Try.prog ops Q i (Inv2 a0 w0 L x y k n (l.setIfInBounds i true)) a w := by
  obtain ⟨o, ho, hg, h1, h2⟩ := S.op i (by omega)
  have hf := h.1.fr
  refine wpOp_value ho hg (run_move (h1.trans hop) w) ?_
  rw [h2, hds, hf.rest s (by unfold isP; omega) (by omega), ← hv]
  exact h.keep (Or.inl (by omega)) (h.1.put (Below.refl _ _) hi h65)
theorem step_not {l : Array Bool} {a : Act} {w : World} {i j : Nat} {c : Bool} (S : Shape ops) (h65 : 31 ≤ a0.tmps.size) (h : Inv2 a0 w0 L x y k n l a w) (hr : i ∈ Region.ready .any ops l) (hi : i ≤ 14) (hj : j ≤ 14) (hn : j ∈ need i) (hop : tabOp i = .unOp .not 4 (.tmp (16 + j))) (hds : tabDst i = some (16 + i)) (hc : val x y k n j = .bool c) (hv : val x y k n i = .bool (!c)) :
    wpOp Try.prog ops Q i (Inv2 a0 w0 L x y k n (l.setIfInBounds i true)) a w := by
  obtain ⟨o, ho, hg, h1, h2⟩ := S.op i (by omega)
  have hF := (fact_lo hj).1 (h.1.facts j (ready_deps hr j (S.need i (by omega) j hn)))
  refine wpOp_value ho hg (run_not (h1.trans hop) (hF.trans hc) w) ?_
  rw [h2, hds, ← hv]
  exact h.keep (Or.inl (by omega)) (h.1.put (Below.refl _ _) hi h65)
theorem step_make {l : Array Bool} {a : Act} {w : World} {i j1 j2 j3 : Nat} {c d : Bool} (S : Shape ops) (h65 : 31 ≤ a0.tmps.size) (h : Inv2 a0 w0 L x y k n l a w) (hr : i ∈ Region.ready .any ops l) (hi : i ≤ 14) (hj1 : j1 ≤ 14) (hj2 : j2 ≤ 14) (hj3 : j3 ≤ 14) (hn1 : j1 ∈ need i) (hn2 : j2 ∈ need i) (hn3 : j3 ∈ need i)
    (hop : tabOp i = .call { callee := .value (.func 4), args := #[.tmp (16 + j1), .tmp (16 + j2), .tmp (16 + j3)], argTypes := #[25, 4, 4] }) (hds : tabDst i = some (16 + i)) (hv1 : val x y k n j1 = .agg #[.int .i64 x, .int .i64 y]) (hv2 : val x y k n j2 = .bool c) (hv3 : val x y k n j3 = .bool d) (hv : val x y k n i = .agg #[.int .i64 x, .int .i64 y, .bool (c == d)]) :
    wpOp Try.prog ops Q i (Inv2 a0 w0 L x y k n (l.setIfInBounds i true)) a w := by
  obtain ⟨o, ho, hg, h1, h2⟩ := S.op i (by omega)
  have g : ∀ j, j ≤ 14 → j ∈ need i → a.eval (.tmp (16 + j)) = val x y k n j := fun j hj hn => (fact_lo hj).1 (h.1.facts j (ready_deps hr j (S.need i (by omega) j hn)))
  refine wpOp_enter ho hg (run_make (h1.trans hop) rfl ((g j1 hj1 hn1).trans hv1) ((g j2 hj2 hn2).trans hv2) ((g j3 hj3 hn3).trans hv3) w) ?_
  refine (make_any x y c d w).mono ?_
  rintro e w' ⟨rfl, hb⟩
  refine ⟨_, rfl, ?_⟩
  rw [h2, hds, ← hv]
  exact h.keep (Or.inl (by omega)) (h.1.put hb hi h65)
theorem step_alloc {l : Array Bool} {a : Act} {w : World} {i : Nat} (S : Shape ops) (h65 : 31 ≤ a0.tmps.size) (h : Inv2 a0 w0 L x y k n l a w) (hr : i ∈ Region.ready .any ops l) (hi1 : 15 ≤ i) (hi2 : i ≤ 17) (hop : tabOp i = .alloc 27) (hds : tabDst i = some (i - 7)) :
    wpOp Try.prog ops Q i (Inv2 a0 w0 L x y k n (l.setIfInBounds i true)) a w := by
  obtain ⟨o, ho, hg, h1, h2⟩ := S.op i (by omega)
  have hl := (mem_ready.1 hr).1
  have hd : l.getD (i + 3) false = false := by
    cases hd : l.getD (i + 3) false
    · rfl
    · have := h.2 (i + 3) (by omega) (by omega) hd
      rw [show i + 3 - 3 = i by omega] at this
      have hlt := unlisted_lt hl
      simp [Array.getElem?_eq_getElem hlt] at this hl
      rw [this] at hl
      exact absurd hl (by decide)
  refine wpOp_value ho hg (run_alloc (h1.trans hop) w) ?_
  rw [h2, hds]
  exact h.keep (Or.inl hi2) (h.1.alloc hi1 hi2 hl hd h65)
theorem step_store {l : Array Bool} {a : Act} {w : World} {i j : Nat} (S : Shape ops) (h : Inv2 a0 w0 L x y k n l a w) (hr : i ∈ Region.ready .any ops l) (hi1 : 18 ≤ i) (hi2 : i ≤ 20) (hj : j ≤ 14) (hn : j ∈ need i) (hn2 : i - 3 ∈ need i) (hop : tabOp i = .store 27 (.tmp (i - 10)) (.tmp (16 + j))) (hds : tabDst i = none) (hv : val x y k n j = .agg #[.int .i64 x, .int .i64 y, .bool (mOf k n i)]) :
    wpOp Try.prog ops Q i (Inv2 a0 w0 L x y k n (l.setIfInBounds i true)) a w := by
  obtain ⟨o, ho, hg, h1, h2⟩ := S.op i (by omega)
  have hF := (fact_lo hj).1 (h.1.facts j (ready_deps hr j (S.need i (by omega) j hn)))
  have hd := ready_deps hr (i - 3) (S.need i (by omega) (i - 3) hn2)
  obtain ⟨B, hB, ht⟩ := (fact_mid (by omega) (by omega)).1 (h.1.facts (i - 3) hd)
  rw [show i - 3 - 7 = i - 10 by omega] at hB
  refine wpOp_none ho hg (run_store (h1.trans hop) hB (hF.trans hv) ht) ?_
  rw [h2, hds]
  exact h.keep (Or.inr hd) (h.1.store hi1 hi2 hB ht)

theorem step_any {l : Array Bool} {a : Act} {w : World} {i : Nat} (S : Shape ops) (h65 : 31 ≤ a0.tmps.size) (h1 : a0.eval (.tmp 1) = .bool k) (h2 : a0.eval (.tmp 2) = .bool n) (h7 : a0.eval (.tmp 7) = ptr L) (h : Inv2 a0 w0 L x y k n l a w) (hr : i ∈ Region.ready .any ops l) :
    wpOp Try.prog ops Q i (Inv2 a0 w0 L x y k n (l.setIfInBounds i true)) a w := by
  have hi : i < 21 := by have := ready_lt hr; rw [S.size] at this; exact this
  match i, hi, hr with
  | 0, _, hr => exact step_load S h65 h7 h (by omega) rfl rfl rfl
  | 1, _, hr => exact step_move (s := 1) S h65 h (by omega) (Or.inl rfl) rfl rfl h1.symm
  | 2, _, hr => exact step_move (s := 2) S h65 h (by omega) (Or.inr rfl) rfl rfl h2.symm
  | 3, _, hr => exact step_make (j1 := 0) (j2 := 1) (j3 := 2) S h65 h hr (by omega) (by omega) (by omega) (by omega) (by decide) (by decide) (by decide) rfl rfl rfl rfl rfl rfl
  | 4, _, hr => exact step_load S h65 h7 h (by omega) rfl rfl rfl
  | 5, _, hr => exact step_move (s := 1) S h65 h (by omega) (Or.inl rfl) rfl rfl h1.symm
  | 6, _, hr => exact step_not (j := 5) S h65 h hr (by omega) (by omega) (by decide) rfl rfl rfl rfl
  | 7, _, hr => exact step_move (s := 2) S h65 h (by omega) (Or.inr rfl) rfl rfl h2.symm
  | 8, _, hr => exact step_not (j := 7) S h65 h hr (by omega) (by omega) (by decide) rfl rfl rfl rfl
  | 9, _, hr => exact step_make (j1 := 4) (j2 := 6) (j3 := 8) S h65 h hr (by omega) (by omega) (by omega) (by omega) (by decide) (by decide) (by decide) rfl rfl rfl rfl rfl rfl
  | 10, _, hr => exact step_load S h65 h7 h (by omega) rfl rfl rfl
  | 11, _, hr => exact step_move (s := 1) S h65 h (by omega) (Or.inl rfl) rfl rfl h1.symm
  | 12, _, hr => exact step_not (j := 11) S h65 h hr (by omega) (by omega) (by decide) rfl rfl rfl rfl
  | 13, _, hr => exact step_move (s := 2) S h65 h (by omega) (Or.inr rfl) rfl rfl h2.symm
  | 14, _, hr => exact step_make (j1 := 10) (j2 := 12) (j3 := 13) S h65 h hr (by omega) (by omega) (by omega) (by omega) (by decide) (by decide) (by decide) rfl rfl rfl rfl rfl rfl
  | 15, _, hr => exact step_alloc S h65 h hr (by omega) (by omega) rfl rfl
  | 16, _, hr => exact step_alloc S h65 h hr (by omega) (by omega) rfl rfl
  | 17, _, hr => exact step_alloc S h65 h hr (by omega) (by omega) rfl rfl
  | 18, _, hr => exact step_store (j := 3) S h hr (by omega) (by omega) (by omega) (by decide) (by decide) rfl rfl rfl
  | 19, _, hr => exact step_store (j := 9) S h hr (by omega) (by omega) (by omega) (by decide) (by decide) rfl rfl rfl
  | 20, _, hr => exact step_store (j := 14) S h hr (by omega) (by omega) (by omega) (by decide) (by decide) rfl rfl rfl
  | j + 21, hlt, _ => exact absurd hlt (by omega)

theorem turned_region {id : Nat} {w : World} (S : Shape ops) (h65 : 31 ≤ a0.tmps.size) (h1 : a0.eval (.tmp 1) = .bool k) (h2 : a0.eval (.tmp 2) = .bool n) (h7 : a0.eval (.tmp 7) = ptr L)
    (hu : ∀ s, isP s → ∀ B, a0.eval (.tmp s) ≠ ptr B) (l0 : w.cell? ⟨L, 0, none⟩ = some (.int .i64 x)) (l1 : w.cell? ⟨L, 1, none⟩ = some (.int .i64 y))
    (hK : ∀ B8 B9 B10 w', Below w.heap.size w w' → B8 < w'.heap.size → B9 < w'.heap.size → B10 < w'.heap.size → w'.cell? ⟨L, 0, none⟩ = some (.int .i64 x) → w'.cell? ⟨L, 1, none⟩ = some (.int .i64 y) →
      Cells3 w' B8 x y (k == n) → Cells3 w' B9 x y ((!k) == (!n)) → Cells3 w' B10 x y ((!k) == n) →
      Q .normal ((((((((((((((((((a0.put (some 8) (ptr B8)).put (some 9) (ptr B9)).put (some 10) (ptr B10)).put (some 16) (val x y k n 0)).put (some 17) (val x y k n 1)).put (some 18) (val x y k n 2)).put (some 19) (val x y k n 3)).put (some 20) (val x y k n 4)).put (some 21) (val x y k n 5)).put (some 22) (val x y k n 6)).put (some 23) (val x y k n 7)).put (some 24) (val x y k n 8)).put (some 25) (val x y k n 9)).put (some 26) (val x y k n 10)).put (some 27) (val x y k n 11)).put (some 28) (val x y k n 12)).put (some 29) (val x y k n 13)).put (some 30) (val x y k n 14)) w') :
    (Code.region id ops true).wp Try.prog Q a0 w := by
  have hL := cell_lt l0
  refine wp_region_inv (by kernel_rfl) (Inv2 a0 w.drew L x y k n) ?_ ?_ (fun l a w i h hr => step_any S h65 h1 h2 h7 h hr)
  · refine ⟨⟨by simp [S.size], ⟨rfl, rfl, fun _ _ _ => rfl, l0, l1, hL, Below.refl _ _, fun s hs B hB => absurd hB (hu s hs B), fun s t hs ht hst B hB => absurd hB (hu s hs B)⟩, fun j hj => ?_⟩, fun j _ _ hj => ?_⟩
    · rw [rep_getD] at hj
      exact absurd hj (by decide)
    · rw [rep_getD] at hj
      exact absurd hj (by decide)
  · intro l a w' h hr
    have hall : ∀ m i, i < m → i < 21 → l.getD i false = true := by
      intro m
      induction m with
      | zero => intro i hi; omega
      | succ m ih =>
        intro i hi hi21
        exact listed_of hr (by rw [h.1.sz, S.size]) (by rw [S.size]; exact hi21) (fun j hj => ih j (by have := S.low i hi21 j hj; omega) (by have := S.low i hi21 j hj; omega))
    have hF : ∀ i, i < 21 → Fact x y k n i a w' := fun i hi => h.1.facts i (hall 21 i hi hi)
    have hf := h.1.fr
    obtain ⟨B8, p8, c8⟩ := (fact_hi (by decide) (by decide)).1 (hF 18 (by decide))
    obtain ⟨B9, p9, c9⟩ := (fact_hi (by decide) (by decide)).1 (hF 19 (by decide))
    obtain ⟨B10, p10, c10⟩ := (fact_hi (by decide) (by decide)).1 (hF 20 (by decide))
    have hbel : Below w.heap.size w w' := (Below.refl w.heap.size w).drew.trans hf.bel
    have hput := hK B8 B9 B10 w' hbel (hf.lo 8 (Or.inl rfl) B8 p8).2 (hf.lo 9 (Or.inr (Or.inl rfl)) B9 p9).2 (hf.lo 10 (Or.inr (Or.inr rfl)) B10 p10).2 hf.l0 hf.l1 c8 c9 c10
    have e0 : ∀ s, ¬ (isP s ∨ (16 ≤ s ∧ s ≤ 30)) → a.eval (.tmp s) = a0.eval (.tmp s) := fun s hs => hf.rest s (fun h => hs (Or.inl h)) (fun h => hs (Or.inr h))
    have e1 := off_put (d := 8) e0 p8 (by (try simp only [Act.put, Array.size_setIfInBounds]); omega)
    have e2 := off_put (d := 9) e1 p9 (by (try simp only [Act.put, Array.size_setIfInBounds]); omega)
    have e3 := off_put (d := 10) e2 p10 (by (try simp only [Act.put, Array.size_setIfInBounds]); omega)
    have e4 := off_put (d := 16) e3 ((fact_lo (by decide)).1 (hF 0 (by decide))) (by (try simp only [Act.put, Array.size_setIfInBounds]); omega)
    have e5 := off_put (d := 17) e4 ((fact_lo (by decide)).1 (hF 1 (by decide))) (by (try simp only [Act.put, Array.size_setIfInBounds]); omega)
    have e6 := off_put (d := 18) e5 ((fact_lo (by decide)).1 (hF 2 (by decide))) (by (try simp only [Act.put, Array.size_setIfInBounds]); omega)
    have e7 := off_put (d := 19) e6 ((fact_lo (by decide)).1 (hF 3 (by decide))) (by (try simp only [Act.put, Array.size_setIfInBounds]); omega)
    have e8 := off_put (d := 20) e7 ((fact_lo (by decide)).1 (hF 4 (by decide))) (by (try simp only [Act.put, Array.size_setIfInBounds]); omega)
    have e9 := off_put (d := 21) e8 ((fact_lo (by decide)).1 (hF 5 (by decide))) (by (try simp only [Act.put, Array.size_setIfInBounds]); omega)
    have e10 := off_put (d := 22) e9 ((fact_lo (by decide)).1 (hF 6 (by decide))) (by (try simp only [Act.put, Array.size_setIfInBounds]); omega)
    have e11 := off_put (d := 23) e10 ((fact_lo (by decide)).1 (hF 7 (by decide))) (by (try simp only [Act.put, Array.size_setIfInBounds]); omega)
    have e12 := off_put (d := 24) e11 ((fact_lo (by decide)).1 (hF 8 (by decide))) (by (try simp only [Act.put, Array.size_setIfInBounds]); omega)
    have e13 := off_put (d := 25) e12 ((fact_lo (by decide)).1 (hF 9 (by decide))) (by (try simp only [Act.put, Array.size_setIfInBounds]); omega)
    have e14 := off_put (d := 26) e13 ((fact_lo (by decide)).1 (hF 10 (by decide))) (by (try simp only [Act.put, Array.size_setIfInBounds]); omega)
    have e15 := off_put (d := 27) e14 ((fact_lo (by decide)).1 (hF 11 (by decide))) (by (try simp only [Act.put, Array.size_setIfInBounds]); omega)
    have e16 := off_put (d := 28) e15 ((fact_lo (by decide)).1 (hF 12 (by decide))) (by (try simp only [Act.put, Array.size_setIfInBounds]); omega)
    have e17 := off_put (d := 29) e16 ((fact_lo (by decide)).1 (hF 13 (by decide))) (by (try simp only [Act.put, Array.size_setIfInBounds]); omega)
    have e18 := off_put (d := 30) e17 ((fact_lo (by decide)).1 (hF 14 (by decide))) (by (try simp only [Act.put, Array.size_setIfInBounds]); omega)
    have ha : a = (((((((((((((((((a0.put (some 8) (ptr B8)).put (some 9) (ptr B9)).put (some 10) (ptr B10)).put (some 16) (val x y k n 0)).put (some 17) (val x y k n 1)).put (some 18) (val x y k n 2)).put (some 19) (val x y k n 3)).put (some 20) (val x y k n 4)).put (some 21) (val x y k n 5)).put (some 22) (val x y k n 6)).put (some 23) (val x y k n 7)).put (some 24) (val x y k n 8)).put (some 25) (val x y k n 9)).put (some 26) (val x y k n 10)).put (some 27) (val x y k n 11)).put (some 28) (val x y k n 12)).put (some 29) (val x y k n 13)).put (some 30) (val x y k n 14) := by
      refine act_ext (by simp [Act.put, hf.defers]) (by simp [Act.put, hf.size]) (fun s => e18 s ?_)
      unfold isP
      omega
    rw [ha]
    exact hput
end
end Go.Proofs.Ytgkegjhnhchomab
