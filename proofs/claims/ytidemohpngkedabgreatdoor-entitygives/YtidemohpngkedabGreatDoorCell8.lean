/-
  Structs of eight cells, a frame among them: where they lie, that they may be written, what they hold behind it. Plain laws; nothing of the program.
-/
import Derived.Test.YtidemohpngkedabGreatDoorBase
namespace Go.Proofs.YtidemohpngkedabGreatDoor
open Go.RowKit
set_option linter.unusedVariables false
set_option linter.unusedSimpArgs false

theorem set_same {w : World} {p : Addr} {v : Value} (h : ∃ u, w.cell? p = some u) : (w.setCell p v).cell? p = some v := by
  obtain ⟨u, hu⟩ := h
  exact World.cell?_setCell_same' w p v (by rw [hu]; rfl)
theorem set_other {w : World} {B i j : Nat} {v : Value} (h : i ≠ j) : (w.setCell ⟨B, i, none⟩ v).cell? ⟨B, j, none⟩ = w.cell? ⟨B, j, none⟩ :=
  World.cell?_setCell_other w _ _ _ (fun e => h (by injection e with _ e2))

/-- a frame lies where it was put, behind whatever was made since -/
structure FrC (w : World) (B : Nat) (sapi tei : Int) (c : Bool) (k : Int) (pf : Bool) (ns nr : Int) (info : ByteArray) : Prop where
  lt : B < w.heap.size
  c0 : w.cell? ⟨B, 0, none⟩ = some (.int .i64 sapi)
  c1 : w.cell? ⟨B, 1, none⟩ = some (.int .i64 tei)
  c2 : w.cell? ⟨B, 2, none⟩ = some (.bool c)
  c3 : w.cell? ⟨B, 3, none⟩ = some (.int .i64 k)
  c4 : w.cell? ⟨B, 4, none⟩ = some (.bool pf)
  c5 : w.cell? ⟨B, 5, none⟩ = some (.int .i64 ns)
  c6 : w.cell? ⟨B, 6, none⟩ = some (.int .i64 nr)
  c7 : w.cell? ⟨B, 7, none⟩ = some (.string info)
theorem FrC.later {w w' : World} {B : Nat} {sapi tei : Int} {c : Bool} {k : Int} {pf : Bool} {ns nr : Int} {info : ByteArray} (h : FrC w B sapi tei c k pf ns nr info) (hb : Below w.heap.size w w') : FrC w' B sapi tei c k pf ns nr info :=
  ⟨Nat.lt_of_lt_of_le h.lt hb.size, (hb.cell (p := ⟨B, 0, none⟩) h.lt).trans h.c0, (hb.cell (p := ⟨B, 1, none⟩) h.lt).trans h.c1, (hb.cell (p := ⟨B, 2, none⟩) h.lt).trans h.c2, (hb.cell (p := ⟨B, 3, none⟩) h.lt).trans h.c3,
   (hb.cell (p := ⟨B, 4, none⟩) h.lt).trans h.c4, (hb.cell (p := ⟨B, 5, none⟩) h.lt).trans h.c5, (hb.cell (p := ⟨B, 6, none⟩) h.lt).trans h.c6, (hb.cell (p := ⟨B, 7, none⟩) h.lt).trans h.c7⟩
theorem frc_new (w : World) (sapi tei : Int) (c : Bool) (k : Int) (pf : Bool) (ns nr : Int) (info : ByteArray) (t : TypeId) :
    FrC (w.alloc (.cells #[.int .i64 sapi, .int .i64 tei, .bool c, .int .i64 k, .bool pf, .int .i64 ns, .int .i64 nr, .string info] t)) w.heap.size sapi tei c k pf ns nr info :=
  ⟨by simp, by simp, by simp, by simp, by simp, by simp, by simp, by simp, by simp⟩

/-- a struct of eight cells that may be written -/
structure Eight (w : World) (B : Nat) : Prop where
  lt : B < w.heap.size
  c : ∀ j, j < 8 → ∃ v, w.cell? ⟨B, j, none⟩ = some v
  f : ∀ j, j < 8 → w.frozen? ⟨B, j, none⟩ = false
theorem Eight.later {w w' : World} {B : Nat} (h : Eight w B) (hb : Below w.heap.size w w') : Eight w' B :=
  ⟨Nat.lt_of_lt_of_le h.lt hb.size, fun j hj => by obtain ⟨v, hv⟩ := h.c j hj; exact ⟨v, (hb.cell (p := ⟨B, j, none⟩) h.lt).trans hv⟩, fun j hj => (hb.frozen (p := ⟨B, j, none⟩) h.lt).trans (h.f j hj)⟩
theorem eight_cases (j : Nat) (h : j < 8) : j = 0 ∨ j = 1 ∨ j = 2 ∨ j = 3 ∨ j = 4 ∨ j = 5 ∨ j = 6 ∨ j = 7 := by omega
theorem eight_new (w : World) (a b c d e f g h : Value) (t : TypeId) : Eight (w.alloc (.cells #[a, b, c, d, e, f, g, h] t)) w.heap.size := by
  refine ⟨by simp, fun j hj => ?_, fun j hj => ?_⟩
  · rcases eight_cases j hj with rfl | rfl | rfl | rfl | rfl | rfl | rfl | rfl
    · exact ⟨a, by simp⟩
    · exact ⟨b, by simp⟩
    · exact ⟨c, by simp⟩
    · exact ⟨d, by simp⟩
    · exact ⟨e, by simp⟩
    · exact ⟨f, by simp⟩
    · exact ⟨g, by simp⟩
    · exact ⟨h, by simp⟩
  · rcases eight_cases j hj with rfl | rfl | rfl | rfl | rfl | rfl | rfl | rfl <;> simp

/-- eight cells written -/
def set8 (w : World) (B : Nat) (a b c d e f g h : Value) : World :=
  (((((((w.setCell ⟨B, 0, none⟩ a).setCell ⟨B, 1, none⟩ b).setCell ⟨B, 2, none⟩ c).setCell ⟨B, 3, none⟩ d).setCell ⟨B, 4, none⟩ e).setCell ⟨B, 5, none⟩ f).setCell ⟨B, 6, none⟩ g).setCell ⟨B, 7, none⟩ h
theorem set8_size (w : World) (B : Nat) (a b c d e f g h : Value) : (set8 w B a b c d e f g h).heap.size = w.heap.size := by simp [set8]
theorem some_other {w : World} {B i j : Nat} {v : Value} (h : i ≠ j) (hj : ∃ u, w.cell? ⟨B, j, none⟩ = some u) : ∃ u, (w.setCell ⟨B, i, none⟩ v).cell? ⟨B, j, none⟩ = some u := by
  rw [set_other h]; exact hj
/-- which cells a struct of eight is written with -/
structure Is8 (w : World) (B : Nat) (a b c d e f g h : Value) : Prop where
  c0 : w.cell? ⟨B, 0, none⟩ = some a
  c1 : w.cell? ⟨B, 1, none⟩ = some b
  c2 : w.cell? ⟨B, 2, none⟩ = some c
  c3 : w.cell? ⟨B, 3, none⟩ = some d
  c4 : w.cell? ⟨B, 4, none⟩ = some e
  c5 : w.cell? ⟨B, 5, none⟩ = some f
  c6 : w.cell? ⟨B, 6, none⟩ = some g
  c7 : w.cell? ⟨B, 7, none⟩ = some h
theorem set8_is {w : World} {B : Nat} (h : Eight w B) (a b c d e f g h' : Value) : Is8 (set8 w B a b c d e f g h') B a b c d e f g h' := by
  unfold set8
  refine ⟨?_, ?_, ?_, ?_, ?_, ?_, ?_, ?_⟩
  · rw [set_other (by decide), set_other (by decide), set_other (by decide), set_other (by decide), set_other (by decide), set_other (by decide), set_other (by decide)]
    exact set_same (h.c 0 (by decide))
  · rw [set_other (by decide), set_other (by decide), set_other (by decide), set_other (by decide), set_other (by decide), set_other (by decide)]
    exact set_same (some_other (by decide) (h.c 1 (by decide)))
  · rw [set_other (by decide), set_other (by decide), set_other (by decide), set_other (by decide), set_other (by decide)]
    exact set_same (some_other (by decide) (some_other (by decide) (h.c 2 (by decide))))
  · rw [set_other (by decide), set_other (by decide), set_other (by decide), set_other (by decide)]
    exact set_same (some_other (by decide) (some_other (by decide) (some_other (by decide) (h.c 3 (by decide)))))
  · rw [set_other (by decide), set_other (by decide), set_other (by decide)]
    exact set_same (some_other (by decide) (some_other (by decide) (some_other (by decide) (some_other (by decide) (h.c 4 (by decide))))))
  · rw [set_other (by decide), set_other (by decide)]
    exact set_same (some_other (by decide) (some_other (by decide) (some_other (by decide) (some_other (by decide) (some_other (by decide) (h.c 5 (by decide)))))))
  · rw [set_other (by decide)]
    exact set_same (some_other (by decide) (some_other (by decide) (some_other (by decide) (some_other (by decide) (some_other (by decide) (some_other (by decide) (h.c 6 (by decide))))))))
  · exact set_same (some_other (by decide) (some_other (by decide) (some_other (by decide) (some_other (by decide) (some_other (by decide) (some_other (by decide) (some_other (by decide) (h.c 7 (by decide)))))))))
theorem set8_below {w w1 : World} (hq : Below w.heap.size w w1) (a b c d e f g h : Value) : Below w.heap.size w (set8 w1 w.heap.size a b c d e f g h) := by
  unfold set8
  exact (((((((hq.setCell (p := ⟨w.heap.size, 0, none⟩) (Nat.le_refl _) _).setCell (p := ⟨w.heap.size, 1, none⟩) (Nat.le_refl _) _).setCell (p := ⟨w.heap.size, 2, none⟩) (Nat.le_refl _) _).setCell (p := ⟨w.heap.size, 3, none⟩) (Nat.le_refl _) _).setCell (p := ⟨w.heap.size, 4, none⟩) (Nat.le_refl _) _).setCell (p := ⟨w.heap.size, 5, none⟩) (Nat.le_refl _) _).setCell (p := ⟨w.heap.size, 6, none⟩) (Nat.le_refl _) _).setCell (p := ⟨w.heap.size, 7, none⟩) (Nat.le_refl _) _

theorem Eight.parts {w : World} {B : Nat} (h : Eight w B) : ∃ v0 v1 v2 v3 v4 v5 v6 v7, w.cell? ⟨B, 0, none⟩ = some v0 ∧ w.cell? ⟨B, 1, none⟩ = some v1 ∧ w.cell? ⟨B, 2, none⟩ = some v2 ∧ w.cell? ⟨B, 3, none⟩ = some v3 ∧ w.cell? ⟨B, 4, none⟩ = some v4 ∧ w.cell? ⟨B, 5, none⟩ = some v5 ∧ w.cell? ⟨B, 6, none⟩ = some v6 ∧ w.cell? ⟨B, 7, none⟩ = some v7 ∧
    w.frozen? ⟨B, 0, none⟩ = false ∧ w.frozen? ⟨B, 1, none⟩ = false ∧ w.frozen? ⟨B, 2, none⟩ = false ∧ w.frozen? ⟨B, 3, none⟩ = false ∧ w.frozen? ⟨B, 4, none⟩ = false ∧ w.frozen? ⟨B, 5, none⟩ = false ∧ w.frozen? ⟨B, 6, none⟩ = false ∧ w.frozen? ⟨B, 7, none⟩ = false := by
  obtain ⟨v0, c0⟩ := h.c 0 (by decide)
  obtain ⟨v1, c1⟩ := h.c 1 (by decide)
  obtain ⟨v2, c2⟩ := h.c 2 (by decide)
  obtain ⟨v3, c3⟩ := h.c 3 (by decide)
  obtain ⟨v4, c4⟩ := h.c 4 (by decide)
  obtain ⟨v5, c5⟩ := h.c 5 (by decide)
  obtain ⟨v6, c6⟩ := h.c 6 (by decide)
  obtain ⟨v7, c7⟩ := h.c 7 (by decide)
  exact ⟨v0, v1, v2, v3, v4, v5, v6, v7, c0, c1, c2, c3, c4, c5, c6, c7, h.f 0 (by decide), h.f 1 (by decide), h.f 2 (by decide), h.f 3 (by decide), h.f 4 (by decide), h.f 5 (by decide), h.f 6 (by decide), h.f 7 (by decide)⟩

theorem Is8.alloc {w : World} {B : Nat} {a b c d e f g h : Value} (hi : Is8 w B a b c d e f g h) (hlt : B < w.heap.size) (o : Obj) : Is8 (w.alloc o) B a b c d e f g h := by
  have hq : Below w.heap.size w (w.alloc o) := (Below.refl _ _).alloc (Nat.le_refl _) _
  exact ⟨(hq.cell (p := ⟨B, 0, none⟩) hlt).trans hi.c0, (hq.cell (p := ⟨B, 1, none⟩) hlt).trans hi.c1, (hq.cell (p := ⟨B, 2, none⟩) hlt).trans hi.c2, (hq.cell (p := ⟨B, 3, none⟩) hlt).trans hi.c3,
    (hq.cell (p := ⟨B, 4, none⟩) hlt).trans hi.c4, (hq.cell (p := ⟨B, 5, none⟩) hlt).trans hi.c5, (hq.cell (p := ⟨B, 6, none⟩) hlt).trans hi.c6, (hq.cell (p := ⟨B, 7, none⟩) hlt).trans hi.c7⟩
theorem set8_lt {w : World} {B : Nat} (h : Eight w B) (a b c d e f g h' : Value) : B < (set8 w B a b c d e f g h').heap.size := by rw [set8_size]; exact h.lt

theorem Is8.kept {w w' : World} {B : Nat} {a b c d e f g h : Value} (hi : Is8 w B a b c d e f g h) (hh : w'.heap[B]? = w.heap[B]?) : Is8 w' B a b c d e f g h := by
  have hc : ∀ j, w'.cell? ⟨B, j, none⟩ = w.cell? ⟨B, j, none⟩ := fun j => by simp [World.cell?, hh]
  exact ⟨(hc 0).trans hi.c0, (hc 1).trans hi.c1, (hc 2).trans hi.c2, (hc 3).trans hi.c3, (hc 4).trans hi.c4, (hc 5).trans hi.c5, (hc 6).trans hi.c6, (hc 7).trans hi.c7⟩
theorem FrC.kept {w w' : World} {B : Nat} {sapi tei : Int} {c : Bool} {k : Int} {pf : Bool} {ns nr : Int} {info : ByteArray} (h : FrC w B sapi tei c k pf ns nr info) (hh : w'.heap[B]? = w.heap[B]?) (hs : w.heap.size ≤ w'.heap.size) : FrC w' B sapi tei c k pf ns nr info := by
  have hc : ∀ j, w'.cell? ⟨B, j, none⟩ = w.cell? ⟨B, j, none⟩ := fun j => by simp [World.cell?, hh]
  exact ⟨Nat.lt_of_lt_of_le h.lt hs, (hc 0).trans h.c0, (hc 1).trans h.c1, (hc 2).trans h.c2, (hc 3).trans h.c3, (hc 4).trans h.c4, (hc 5).trans h.c5, (hc 6).trans h.c6, (hc 7).trans h.c7⟩
theorem Eight.kept {w w' : World} {B : Nat} (h : Eight w B) (hh : w'.heap[B]? = w.heap[B]?) (hs : w.heap.size ≤ w'.heap.size) : Eight w' B :=
  ⟨Nat.lt_of_lt_of_le h.lt hs, fun j hj => by obtain ⟨v, hv⟩ := h.c j hj; exact ⟨v, by rw [← hv]; simp [World.cell?, hh]⟩, fun j hj => by rw [← h.f j hj]; simp [World.frozen?, hh]⟩
theorem set8_block (w : World) (B g : Nat) (a b c d e f i h : Value) (hg : g ≠ B) : (set8 w B a b c d e f i h).heap[g]? = w.heap[g]? := by
  unfold set8
  rw [Below.heap_setCell _ _ _ _ hg, Below.heap_setCell _ _ _ _ hg, Below.heap_setCell _ _ _ _ hg, Below.heap_setCell _ _ _ _ hg, Below.heap_setCell _ _ _ _ hg, Below.heap_setCell _ _ _ _ hg, Below.heap_setCell _ _ _ _ hg, Below.heap_setCell _ _ _ _ hg]
theorem Is8.eight {w : World} {B : Nat} {a b c d e f g h : Value} (hi : Is8 w B a b c d e f g h) (hlt : B < w.heap.size) (hf : ∀ j, j < 8 → w.frozen? ⟨B, j, none⟩ = false) : Eight w B := by
  refine ⟨hlt, fun j hj => ?_, hf⟩
  rcases eight_cases j hj with rfl | rfl | rfl | rfl | rfl | rfl | rfl | rfl
  · exact ⟨_, hi.c0⟩
  · exact ⟨_, hi.c1⟩
  · exact ⟨_, hi.c2⟩
  · exact ⟨_, hi.c3⟩
  · exact ⟨_, hi.c4⟩
  · exact ⟨_, hi.c5⟩
  · exact ⟨_, hi.c6⟩
  · exact ⟨_, hi.c7⟩
theorem set8_eight {w : World} {B : Nat} (h : Eight w B) (a b c d e f g h' : Value) : Eight (set8 w B a b c d e f g h') B :=
  (set8_is h a b c d e f g h').eight (set8_lt h _ _ _ _ _ _ _ _) (fun j hj => by have := h.f j hj; simpa [set8] using this)
theorem set8_below' {w w1 : World} {B base : Nat} (hq : Below base w w1) (hB : base ≤ B) (a b c d e f g h : Value) : Below base w (set8 w1 B a b c d e f g h) := by
  unfold set8
  exact (((((((hq.setCell (p := ⟨B, 0, none⟩) hB _).setCell (p := ⟨B, 1, none⟩) hB _).setCell (p := ⟨B, 2, none⟩) hB _).setCell (p := ⟨B, 3, none⟩) hB _).setCell (p := ⟨B, 4, none⟩) hB _).setCell (p := ⟨B, 5, none⟩) hB _).setCell (p := ⟨B, 6, none⟩) hB _).setCell (p := ⟨B, 7, none⟩) hB _

/-- a frame's value -/
def frA (sapi tei : Int) (c : Bool) (k : Int) (pf : Bool) (ns nr : Int) (info : ByteArray) : Value := .agg #[.int .i64 sapi, .int .i64 tei, .bool c, .int .i64 k, .bool pf, .int .i64 ns, .int .i64 nr, .string info]
end Go.Proofs.YtidemohpngkedabGreatDoor
