/-
  A clock and the reference's clock side by side, with the same timers: what moves the one leaves the other.
-/
import Derived.Test.YtalpfcckdjipoaaRefStart
import Derived.Test.YtalpfcckdjipoaaRefDue
namespace Go.Proofs.Ytalpfcckdjipoaa
open Go.RowKit Go.Maps
set_option linter.unusedVariables false
set_option linter.unusedSimpArgs false

/-- the two of them, from block b on; the program's has the timers L, the reference's M -/
structure Pl (b : Nat) (w : World) (C : Nat) (m : Option Nat) (R : Nat) (G : Option Nat) (n : Nat) (L M : List Km.Tmr) : Prop where
  clk : Mine b w C m n L
  ref : Rf w R G M
  r : b ≤ R
  g : ∀ B, G = some B → b ≤ B
  gl : ∀ B, G = some B → B < w.heap.size
  apart : Apart C m R G

theorem Pl.below {b C R n : Nat} {w w' : World} {m G : Option Nat} {L M : List Km.Tmr} (h : Pl b w C m R G n L M) (hb : Below w.heap.size w w') : Pl b w' C m R G n L M :=
  ⟨h.clk.below hb, h.ref.below hb, h.r, h.g, fun B hB => Nat.lt_of_lt_of_le (h.gl B hB) hb.size, h.apart⟩
/-- the program's is moved -/
theorem Pl.clkMoved {b C R n n' : Nat} {w w' : World} {m G : Option Nat} {L L' M : List Km.Tmr} (h : Pl b w C m R G n L M) (hm : Mvd w w' C m n' L') (hb : b ≤ w.heap.size) : ∃ m', Pl b w' C m' R G n' L' M ∧ Below b w w' ∧ Kept w w' (tch C m) := by
  obtain ⟨m', h1, h2, h3, h4⟩ := h.clk.moved hm hb
  refine ⟨m', ⟨h1, h.ref.kept h3 (fun h' => h.apart R h' (Or.inl rfl)) (fun B hB h' => h.apart B h' (Or.inr hB)), h.r, h.g, fun B hB => Nat.lt_of_lt_of_le (h.gl B hB) h3.size, ?_⟩, h2, h3⟩
  intro k hk1 hk2
  have hkl : k < w.heap.size := by
    rcases hk2 with rfl | hk2
    · exact h.ref.lt
    · exact h.gl k hk2
  rcases hk1 with rfl | hk1
  · exact h.apart k (Or.inl rfl) hk2
  · rcases h4 k hk1 with h' | h'
    · exact h.apart k (Or.inr h') hk2
    · omega
/-- some that were over are gone of the program's -/
theorem Pl.clkDue {b C R n : Nat} {w w' : World} {m G : Option Nat} {L L' M : List Km.Tmr} (h : Pl b w C m R G n L M) (hc : Clk w' C m n L') (hk : Kept w w' (tch C m)) (hb : b ≤ w.heap.size) : Pl b w' C m R G n L' M ∧ Below b w w' := by
  obtain ⟨h1, h2⟩ := h.clk.due hc hk hb
  exact ⟨⟨h1, h.ref.kept hk (fun h' => h.apart R h' (Or.inl rfl)) (fun B hB h' => h.apart B h' (Or.inr hB)), h.r, h.g, fun B hB => Nat.lt_of_lt_of_le (h.gl B hB) hk.size, h.apart⟩, h2⟩
/-- the reference's is moved -/
theorem Pl.refMoved {b C R n : Nat} {w w' : World} {m G : Option Nat} {L M M' : List Km.Tmr} (h : Pl b w C m R G n L M) (hm : RfM w w' R G M') (hb : b ≤ w.heap.size) : ∃ G', Pl b w' C m R G' n L M' ∧ Below b w w' ∧ Kept w w' (fun k => k = R) := by
  obtain ⟨G', h1, h2, h3⟩ := hm
  have hRC : ∀ k, tch C m k → k ≠ R := fun k hk e => h.apart k hk (Or.inl e)
  refine ⟨G', ⟨⟨h.clk.clk.kept h2 (fun e => hRC C (Or.inl rfl) e) (fun B hB e => hRC B (Or.inr hB) e), h.clk.c, h.clk.m⟩, h1, h.r, fun B hB => ?_, fun B hB => ?_, ?_⟩, h2.below hb (fun k e => by rw [e]; exact h.r), h2⟩
  · rcases h3 B hB with h' | h'
    · exact h.g B h'
    · omega
  · rcases h3 B hB with h' | h'
    · exact Nat.lt_of_lt_of_le (h.gl B h') h2.size
    · exact h'.2
  · intro k hk1 hk2
    rcases hk2 with hk2 | hk2
    · exact hRC k hk1 hk2
    · rcases h3 k hk2 with h' | h'
      · exact h.apart k hk1 (Or.inr h')
      · have := h.clk.clk.tlt hk1; omega
end Go.Proofs.Ytalpfcckdjipoaa
