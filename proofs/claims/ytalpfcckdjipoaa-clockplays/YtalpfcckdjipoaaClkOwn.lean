/-
  A clock that the call itself made, or two of them: what moves one leaves all that was, and the other.
-/
import Derived.Test.YtalpfcckdjipoaaDropWalks
import Derived.Test.YtalpfcckdjipoaaDueWalks
namespace Go.Proofs.Ytalpfcckdjipoaa
open Go.RowKit Go.Maps
set_option linter.unusedVariables false
set_option linter.unusedSimpArgs false

/-- a clock that lies in blocks from b on -/
structure Mine (b : Nat) (w : World) (C : Nat) (m : Option Nat) (n : Nat) (L : List Km.Tmr) : Prop where
  clk : Clk w C m n L
  c : b ≤ C
  m : ∀ B, m = some B → b ≤ B

theorem Mine.moved {b C n n' : Nat} {w w' : World} {m : Option Nat} {L L' : List Km.Tmr} (h : Mine b w C m n L) (hm : Mvd w w' C m n' L') (hb : b ≤ w.heap.size) : ∃ m', Mine b w' C m' n' L' ∧ Below b w w' ∧ Kept w w' (tch C m) ∧ ∀ B, m' = some B → m = some B ∨ w.heap.size ≤ B := by
  obtain ⟨m', hc, hk, hf⟩ := hm
  refine ⟨m', ⟨hc, h.c, fun B hB => ?_⟩, hk.below hb (fun k hk => ?_), hk, hf⟩
  · rcases hf B hB with h' | h'
    · exact h.m B h'
    · exact Nat.le_trans hb h'
  · rcases hk with rfl | hk
    · exact h.c
    · exact h.m k hk
theorem Mine.below {b C n : Nat} {w w' : World} {m : Option Nat} {L : List Km.Tmr} (h : Mine b w C m n L) (hb : Below w.heap.size w w') : Mine b w' C m n L := ⟨h.clk.below hb, h.c, h.m⟩
theorem Mine.due {b C n n' : Nat} {w w' : World} {m : Option Nat} {L L' : List Km.Tmr} (h : Mine b w C m n L) (hc : Clk w' C m n' L') (hk : Kept w w' (tch C m)) (hb : b ≤ w.heap.size) : Mine b w' C m n' L' ∧ Below b w w' := by
  refine ⟨⟨hc, h.c, h.m⟩, hk.below hb (fun k hk => ?_)⟩
  rcases hk with rfl | hk
  · exact h.c
  · exact h.m k hk

/-- two clocks that have nothing in common -/
def Apart (C : Nat) (m : Option Nat) (C' : Nat) (m' : Option Nat) : Prop := ∀ k, tch C m k → ¬ tch C' m' k
theorem Apart.symm {C C' : Nat} {m m' : Option Nat} (h : Apart C m C' m') : Apart C' m' C m := fun k h1 h2 => h k h2 h1
theorem Mine.beside {b C C' n : Nat} {w w' : World} {m m' : Option Nat} {L : List Km.Tmr} (h : Mine b w C m n L) (ha : Apart C m C' m') (hk : Kept w w' (tch C' m')) : Mine b w' C m n L :=
  ⟨h.clk.kept hk (ha C (Or.inl rfl)) (fun B hB => ha B (Or.inr hB)), h.c, h.m⟩
theorem Clk.tlt {w : World} {C n : Nat} {m : Option Nat} {L : List Km.Tmr} (h : Clk w C m n L) {k : Nat} (hk : tch C m k) : k < w.heap.size := by
  rcases hk with rfl | hk
  · exact h.lt
  · rcases h.map with ⟨h', _⟩ | ⟨B, h1, _, h3⟩
    · rw [h'] at hk; cases hk
    · rw [h1] at hk; injection hk with hk; subst hk; exact h3.lt
theorem Apart.moved {w : World} {C C' n : Nat} {m m' m2 : Option Nat} {L : List Km.Tmr} (ha : Apart C m C' m') (h : Clk w C m n L) (hf : ∀ B, m2 = some B → m' = some B ∨ w.heap.size ≤ B) : Apart C m C' m2 := by
  intro k h1 h2
  rcases h2 with rfl | h2
  · exact ha k h1 (Or.inl rfl)
  · rcases hf k h2 with h' | h'
    · exact ha k h1 (Or.inr h')
    · have := h.tlt h1; omega
end Go.Proofs.Ytalpfcckdjipoaa
