/-
  The region 'a, b, c := Make(..), Make(..), Make(..)' of AddrTurned, whatever order is drawn: behind it three addresses lie in three blocks of their own.
-/
import Derived.Test.YtgkegjhnhchomabTurnedRuns
namespace Go.Proofs.Ytgkegjhnhchomab
open Go.RowKit
set_option linter.unusedVariables false
set_option linter.unusedSimpArgs false

def Cells3 (w : World) (B : Nat) (x y : Int) (m : Bool) : Prop := w.cell? ⟨B, 0, none⟩ = some (.int .i64 x) ∧ w.cell? ⟨B, 1, none⟩ = some (.int .i64 y) ∧ w.cell? ⟨B, 2, none⟩ = some (.bool m)
abbrev ptr (B : Nat) : Value := .pointer (some ⟨B, 0, none⟩)

theorem There.later {w w' : World} {B : Nat} (h : There w B) (hlt : B < w.heap.size) (hb : Below w.heap.size w w') : There w' B := by
  obtain ⟨⟨u, v, z, h0, h1, h2⟩, f0, f1, f2⟩ := h
  exact ⟨⟨u, v, z, (hb.cell (p := ⟨B, 0, none⟩) hlt).trans h0, (hb.cell (p := ⟨B, 1, none⟩) hlt).trans h1, (hb.cell (p := ⟨B, 2, none⟩) hlt).trans h2⟩, (hb.frozen (p := ⟨B, 0, none⟩) hlt).trans f0, (hb.frozen (p := ⟨B, 1, none⟩) hlt).trans f1, (hb.frozen (p := ⟨B, 2, none⟩) hlt).trans f2⟩
theorem Cells3.later {w w' : World} {B : Nat} {x y : Int} {m : Bool} (h : Cells3 w B x y m) (hlt : B < w.heap.size) (hb : Below w.heap.size w w') : Cells3 w' B x y m :=
  ⟨(hb.cell (p := ⟨B, 0, none⟩) hlt).trans h.1, (hb.cell (p := ⟨B, 1, none⟩) hlt).trans h.2.1, (hb.cell (p := ⟨B, 2, none⟩) hlt).trans h.2.2⟩
/-- the address stored -/
def put3 (w : World) (B : Nat) (x y : Int) (m : Bool) : World := ((w.setCell ⟨B, 0, none⟩ (.int .i64 x)).setCell ⟨B, 1, none⟩ (.int .i64 y)).setCell ⟨B, 2, none⟩ (.bool m)
theorem put3_size (w : World) (B : Nat) (x y : Int) (m : Bool) : (put3 w B x y m).heap.size = w.heap.size := by simp [put3]
theorem put3_block (w : World) (B g : Nat) (x y : Int) (m : Bool) (h : g ≠ B) : (put3 w B x y m).heap[g]? = w.heap[g]? := by
  unfold put3
  rw [Below.heap_setCell _ _ _ _ h, Below.heap_setCell _ _ _ _ h, Below.heap_setCell _ _ _ _ h]
theorem cell_of_heap {w w' : World} {g i : Nat} (h : w'.heap[g]? = w.heap[g]?) : w'.cell? ⟨g, i, none⟩ = w.cell? ⟨g, i, none⟩ := by simp [World.cell?, h]
theorem frozen_of_heap {w w' : World} {g i : Nat} (h : w'.heap[g]? = w.heap[g]?) : w'.frozen? ⟨g, i, none⟩ = w.frozen? ⟨g, i, none⟩ := by simp [World.frozen?, h]
theorem put3_below {w w0 : World} {B base : Nat} {x y : Int} {m : Bool} (h : Below base w0 w) (hB : base ≤ B) : Below base w0 (put3 w B x y m) :=
  ((h.setCell (p := ⟨B, 0, none⟩) hB _).setCell (p := ⟨B, 1, none⟩) hB _).setCell (p := ⟨B, 2, none⟩) hB _
theorem put3_cells {w : World} {B : Nat} {x y : Int} {m : Bool} (h : There w B) : Cells3 (put3 w B x y m) B x y m := by
  obtain ⟨⟨u, v, z, h0, h1, h2⟩, f0, f1, f2⟩ := h
  unfold Cells3 put3
  have n01 : (⟨B, 0, none⟩ : Addr) ≠ ⟨B, 1, none⟩ := fun h => by injection h with _ h _; exact absurd h (by decide)
  have n02 : (⟨B, 0, none⟩ : Addr) ≠ ⟨B, 2, none⟩ := fun h => by injection h with _ h _; exact absurd h (by decide)
  have n12 : (⟨B, 1, none⟩ : Addr) ≠ ⟨B, 2, none⟩ := fun h => by injection h with _ h _; exact absurd h (by decide)
  refine ⟨?_, ?_, ?_⟩
  · exact (World.cell?_setCell_other _ _ _ _ n02.symm).trans ((World.cell?_setCell_other _ _ _ _ n01.symm).trans (World.cell?_setCell_same _ _ _ h0))
  · exact (World.cell?_setCell_other _ _ _ _ n12.symm).trans (World.cell?_setCell_same _ _ _ ((World.cell?_setCell_other _ _ _ _ n01).trans h1))
  · exact World.cell?_setCell_same _ _ _ ((World.cell?_setCell_other _ _ _ _ n12).trans ((World.cell?_setCell_other _ _ _ _ n02).trans h2))
theorem put3_there {w : World} {B g : Nat} {x y : Int} {m : Bool} (h : There w B) (hg : There w g) : There (put3 w B x y m) g := by
  by_cases e : g = B
  · subst e
    obtain ⟨_, f0, f1, f2⟩ := h
    refine ⟨⟨_, _, _, (put3_cells hg).1, (put3_cells hg).2.1, (put3_cells hg).2.2⟩, ?_, ?_, ?_⟩ <;> simp [put3, f0, f1, f2]
  · obtain ⟨⟨u, v, z, h0, h1, h2⟩, f0, f1, f2⟩ := hg
    have hh := put3_block w B g x y m e
    exact ⟨⟨u, v, z, (cell_of_heap hh).trans h0, (cell_of_heap hh).trans h1, (cell_of_heap hh).trans h2⟩, (frozen_of_heap hh).trans f0, (frozen_of_heap hh).trans f1, (frozen_of_heap hh).trans f2⟩
theorem put3_other {w : World} {B g : Nat} {x y x' y' : Int} {m m' : Bool} (e : g ≠ B) (hg : Cells3 w g x' y' m') : Cells3 (put3 w B x y m) g x' y' m' := by
  have hh := put3_block w B g x y m e
  exact ⟨(cell_of_heap hh).trans hg.1, (cell_of_heap hh).trans hg.2.1, (cell_of_heap hh).trans hg.2.2⟩

def isP (s : Nat) : Prop := s = 8 ∨ s = 9 ∨ s = 10
/-- the frame: what is not written is as it was; the link; the new blocks are new, and apart -/
structure Fr (a0 : Act) (w0 : World) (L : Nat) (x y : Int) (a : Act) (w : World) : Prop where
  defers : a.defers = a0.defers
  size : a.tmps.size = a0.tmps.size
  rest : ∀ s, ¬ isP s → ¬ (16 ≤ s ∧ s ≤ 30) → a.eval (.tmp s) = a0.eval (.tmp s)
  l0 : w.cell? ⟨L, 0, none⟩ = some (.int .i64 x)
  l1 : w.cell? ⟨L, 1, none⟩ = some (.int .i64 y)
  lt : L < w0.heap.size
  bel : Below w0.heap.size w0 w
  lo : ∀ s, isP s → ∀ B, a.eval (.tmp s) = ptr B → w0.heap.size ≤ B ∧ B < w.heap.size
  ne : ∀ s t, isP s → isP t → s ≠ t → ∀ B, a.eval (.tmp s) = ptr B → a.eval (.tmp t) ≠ ptr B

def val (x y : Int) (k n : Bool) : Nat → Value
  | 0 => .agg #[.int .i64 x, .int .i64 y] | 1 => .bool k | 2 => .bool n | 3 => .agg #[.int .i64 x, .int .i64 y, .bool (k == n)]
  | 4 => .agg #[.int .i64 x, .int .i64 y] | 5 => .bool k | 6 => .bool (!k) | 7 => .bool n | 8 => .bool (!n) | 9 => .agg #[.int .i64 x, .int .i64 y, .bool ((!k) == (!n))]
  | 10 => .agg #[.int .i64 x, .int .i64 y] | 11 => .bool k | 12 => .bool (!k) | 13 => .bool n | 14 => .agg #[.int .i64 x, .int .i64 y, .bool ((!k) == n)] | _ => undef
def mOf (k n : Bool) : Nat → Bool
  | 18 => k == n | 19 => (!k) == (!n) | _ => (!k) == n

def Fact (x y : Int) (k n : Bool) (j : Nat) (a : Act) (w : World) : Prop :=
  if j ≤ 14 then a.eval (.tmp (16 + j)) = val x y k n j
  else if j ≤ 17 then ∃ B, a.eval (.tmp (j - 7)) = ptr B ∧ There w B
  else if j ≤ 20 then ∃ B, a.eval (.tmp (j - 10)) = ptr B ∧ Cells3 w B x y (mOf k n j)
  else True
theorem fact_lo {x y : Int} {k n : Bool} {j : Nat} {a : Act} {w : World} (hj : j ≤ 14) : Fact x y k n j a w ↔ a.eval (.tmp (16 + j)) = val x y k n j := by rw [Fact, if_pos hj]
theorem fact_mid {x y : Int} {k n : Bool} {j : Nat} {a : Act} {w : World} (h1 : 15 ≤ j) (h2 : j ≤ 17) : Fact x y k n j a w ↔ ∃ B, a.eval (.tmp (j - 7)) = ptr B ∧ There w B := by rw [Fact, if_neg (by omega), if_pos h2]
theorem fact_hi {x y : Int} {k n : Bool} {j : Nat} {a : Act} {w : World} (h1 : 18 ≤ j) (h2 : j ≤ 20) : Fact x y k n j a w ↔ ∃ B, a.eval (.tmp (j - 10)) = ptr B ∧ Cells3 w B x y (mOf k n j) := by rw [Fact, if_neg (by omega), if_neg (by omega), if_pos h2]
theorem fact_out {x y : Int} {k n : Bool} {j : Nat} {a : Act} {w : World} (h : 20 < j) : Fact x y k n j a w := by rw [Fact, if_neg (by omega), if_neg (by omega), if_neg (by omega)]; trivial

structure Inv (a0 : Act) (w0 : World) (L : Nat) (x y : Int) (k n : Bool) (l : Array Bool) (a : Act) (w : World) : Prop where
  sz : l.size = 21
  fr : Fr a0 w0 L x y a w
  facts : ∀ j, l.getD j false = true → Fact x y k n j a w

section
variable {a0 : Act} {w0 : World} {L : Nat} {x y : Int} {k n : Bool} {l : Array Bool} {a : Act} {w : World}

/-- a slot of 16 to 30 gets its value, and the world may have grown -/
theorem Inv.put (h : Inv a0 w0 L x y k n l a w) {w' : World} (hb : Below w.heap.size w w') {i : Nat} (hi : i ≤ 14) (h65 : 31 ≤ a0.tmps.size) : Inv a0 w0 L x y k n (l.setIfInBounds i true) (a.put (some (16 + i)) (val x y k n i)) w' := by
  obtain ⟨hsz, hf, hfa⟩ := h
  have hP : ∀ s, isP s → 16 + i ≠ s := fun s hs => by rcases hs with rfl | rfl | rfl <;> omega
  have hlt : L < w.heap.size := Nat.lt_of_lt_of_le hf.lt hf.bel.size
  refine ⟨by simp [hsz], ⟨hf.defers, by simp [Act.put, hf.size], ?_, (hb.cell (p := ⟨L, 0, none⟩) hlt).trans hf.l0, (hb.cell (p := ⟨L, 1, none⟩) hlt).trans hf.l1, hf.lt, hf.bel.trans (hb.mono hf.bel.size), ?_, ?_⟩, ?_⟩
  · intro s h1 h2
    rw [eval_put_other (by omega)]
    exact hf.rest s h1 h2
  · intro s hs B hB
    rw [eval_put_other (hP s hs)] at hB
    have := hf.lo s hs B hB
    have := hb.size
    omega
  · intro s t hs ht hst B hB
    rw [eval_put_other (hP s hs)] at hB
    rw [eval_put_other (hP t ht)]
    exact hf.ne s t hs ht hst B hB
  · intro j hj
    rcases set_listed hj with rfl | hj'
    · rw [fact_lo hi]
      exact eval_put_same (by rw [hf.size]; omega)
    · have hF := hfa j hj'
      by_cases h14 : j ≤ 14
      · rw [fact_lo h14] at hF ⊢
        by_cases e : i = j
        · subst e
          exact eval_put_same (by rw [hf.size]; omega)
        · rw [eval_put_other (by omega)]
          exact hF
      · by_cases h17 : j ≤ 17
        · rw [fact_mid (by omega) h17] at hF ⊢
          obtain ⟨B, h1, h2⟩ := hF
          exact ⟨B, by rw [eval_put_other (by omega)]; exact h1, h2.later (hf.lo _ (by unfold isP; omega) B h1).2 hb⟩
        · by_cases h20 : j ≤ 20
          · rw [fact_hi (by omega) h20] at hF ⊢
            obtain ⟨B, h1, h2⟩ := hF
            exact ⟨B, by rw [eval_put_other (by omega)]; exact h1, h2.later (hf.lo _ (by unfold isP; omega) B h1).2 hb⟩
          · exact fact_out (by omega)

/-- one of the three variables is made -/
theorem Inv.alloc (h : Inv a0 w0 L x y k n l a w) {i : Nat} (h1 : 15 ≤ i) (h2 : i ≤ 17) (hn : l.getD i true = false) (hd : l.getD (i + 3) false = false) (h65 : 31 ≤ a0.tmps.size) :
    Inv a0 w0 L x y k n (l.setIfInBounds i true) (a.put (some (i - 7)) (ptr w.heap.size)) (w.alloc (.cells #[.int .i64 0, .int .i64 0, .bool false] 27)) := by
  obtain ⟨hsz, hf, hfa⟩ := h
  have hb : Below w.heap.size w (w.alloc (.cells #[.int .i64 0, .int .i64 0, .bool false] 27)) := (Below.refl _ _).alloc (Nat.le_refl _) _
  have hlt : L < w.heap.size := Nat.lt_of_lt_of_le hf.lt hf.bel.size
  have hs8 : isP (i - 7) := by unfold isP; omega
  have hin : i - 7 < a.tmps.size := by rw [hf.size]; omega
  have hnew : There (w.alloc (.cells #[.int .i64 0, .int .i64 0, .bool false] 27)) w.heap.size := ⟨⟨_, _, _, by simp; rfl, by simp; rfl, by simp; rfl⟩, by simp, by simp, by simp⟩
  have hsize : (w.alloc (.cells #[.int .i64 0, .int .i64 0, .bool false] 27)).heap.size = w.heap.size + 1 := by simp
  refine ⟨by simp [hsz], ⟨hf.defers, by simp [Act.put, hf.size], ?_, (hb.cell (p := ⟨L, 0, none⟩) hlt).trans hf.l0, (hb.cell (p := ⟨L, 1, none⟩) hlt).trans hf.l1, hf.lt, hf.bel.trans (hb.mono hf.bel.size), ?_, ?_⟩, ?_⟩
  · intro s h1 h2
    rw [eval_put_other (fun e => h1 (by rw [← e]; exact hs8))]
    exact hf.rest s h1 h2
  · intro s hs B hB
    by_cases e : i - 7 = s
    · subst e
      rw [eval_put_same hin] at hB
      injection hB with hB; injection hB with hB; injection hB with hB
      have := hf.bel.size
      omega
    · rw [eval_put_other e] at hB
      have := hf.lo s hs B hB
      omega
  · intro s t hs ht hst B hB hB'
    by_cases e : i - 7 = s
    · subst e
      rw [eval_put_same hin] at hB
      rw [eval_put_other hst] at hB'
      injection hB with hB; injection hB with hB; injection hB with hB
      have := (hf.lo t ht B hB').2
      omega
    · rw [eval_put_other e] at hB
      by_cases e' : i - 7 = t
      · subst e'
        rw [eval_put_same hin] at hB'
        injection hB' with hB'; injection hB' with hB'; injection hB' with hB'
        have := (hf.lo s hs B hB).2
        omega
      · rw [eval_put_other e'] at hB'
        exact hf.ne s t hs ht hst B hB hB'
  · intro j hj
    rcases set_listed hj with rfl | hj'
    · rw [fact_mid h1 h2]
      exact ⟨_, eval_put_same hin, hnew⟩
    · have hF := hfa j hj'
      by_cases h14 : j ≤ 14
      · rw [fact_lo h14] at hF ⊢
        rw [eval_put_other (by omega)]
        exact hF
      · by_cases h17 : j ≤ 17
        · by_cases e : j = i
          · subst e
            rw [fact_mid h1 h2]
            exact ⟨_, eval_put_same hin, hnew⟩
          · rw [fact_mid (by omega) h17] at hF ⊢
            obtain ⟨B, g1, g2⟩ := hF
            exact ⟨B, by rw [eval_put_other (by omega)]; exact g1, g2.later (hf.lo _ (by unfold isP; omega) B g1).2 hb⟩
        · by_cases h20 : j ≤ 20
          · by_cases e : j = i + 3
            · subst e
              rw [hd] at hj'
              exact absurd hj' (by decide)
            · rw [fact_hi (by omega) h20] at hF ⊢
              obtain ⟨B, g1, g2⟩ := hF
              exact ⟨B, by rw [eval_put_other (by omega)]; exact g1, g2.later (hf.lo _ (by unfold isP; omega) B g1).2 hb⟩
          · exact fact_out (by omega)

/-- an address is stored into its variable -/
theorem Inv.store (h : Inv a0 w0 L x y k n l a w) {i B : Nat} (h1 : 18 ≤ i) (h2 : i ≤ 20) (hB : a.eval (.tmp (i - 10)) = ptr B) (ht : There w B) :
    Inv a0 w0 L x y k n (l.setIfInBounds i true) a (put3 w B x y (mOf k n i)) := by
  obtain ⟨hsz, hf, hfa⟩ := h
  have hs8 : isP (i - 10) := by unfold isP; omega
  obtain ⟨hlo, hhi⟩ := hf.lo _ hs8 B hB
  have hLB : L ≠ B := by have := hf.lt; omega
  have hh := put3_block w B L x y (mOf k n i) hLB
  refine ⟨by simp [hsz], ⟨hf.defers, hf.size, hf.rest, (cell_of_heap hh).trans hf.l0, (cell_of_heap hh).trans hf.l1, hf.lt, put3_below hf.bel hlo, ?_, hf.ne⟩, ?_⟩
  · intro s hs C hC
    rw [put3_size]
    exact hf.lo s hs C hC
  · intro j hj
    rcases set_listed hj with rfl | hj'
    · rw [fact_hi h1 h2]
      exact ⟨B, hB, put3_cells ht⟩
    · have hF := hfa j hj'
      by_cases h14 : j ≤ 14
      · rw [fact_lo h14] at hF ⊢
        exact hF
      · by_cases h17 : j ≤ 17
        · rw [fact_mid (by omega) h17] at hF ⊢
          obtain ⟨C, g1, g2⟩ := hF
          exact ⟨C, g1, put3_there ht g2⟩
        · by_cases h20 : j ≤ 20
          · by_cases e : j = i
            · subst e
              rw [fact_hi h1 h2]
              exact ⟨B, hB, put3_cells ht⟩
            · rw [fact_hi (by omega) h20] at hF ⊢
              obtain ⟨C, g1, g2⟩ := hF
              refine ⟨C, g1, put3_other (fun eC => ?_) g2⟩
              subst eC
              exact hf.ne _ _ (show isP (j - 10) by unfold isP; omega) hs8 (by omega) C g1 hB
          · exact fact_out (by omega)
end
end Go.Proofs.Ytgkegjhnhchomab
