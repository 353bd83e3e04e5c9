/-
  Two sources side by side, in blocks from b on: what moves the one leaves the other. A slice of numbers that came in, as a source's New takes it.
-/
import Derived.Test.YtjhlmckghkjdmaaDrawWakes
namespace Go.Proofs.Ytjhlmckghkjdmaa
open Go.RowKit
set_option linter.unusedVariables false
set_option linter.unusedSimpArgs false

theorem row_lies {w : World} {a : Option Addr} {len cap : Nat} {xs : List Int} (h : Row .i64 w a len cap xs) : ∃ G, Lies w a G xs ∧ (a = none → xs = [] ∧ cap = 0) ∧ (∀ n ∈ xs, In64 n) ∧ ∀ B, G = some B → B < w.heap.size := by
  obtain ⟨h1, h2, h3, h4, h5⟩ := h
  have hw : ∀ n ∈ xs, In64 n := fun n hn => bounds_i64 (h4 n hn)
  rcases h5 with ⟨rfl, h6, h7⟩ | ⟨⟨x, rfl⟩, h6⟩ | ⟨b, off, rfl, h6, h7, h8⟩
  · have h0 : xs = [] := List.eq_nil_of_length_eq_zero (by omega)
    exact ⟨none, Or.inl h0, fun _ => ⟨h0, h7⟩, hw, fun B hB => by cases hB⟩
  · have h0 : xs = [] := List.eq_nil_of_length_eq_zero (by omega)
    exact ⟨none, Or.inl h0, (fun e => by cases e), hw, fun B hB => by cases hB⟩
  · refine ⟨some b, Or.inr ⟨b, off, rfl, rfl, h7, fun i hi => h8 i (by omega)⟩, (fun e => by cases e), hw, fun B hB => ?_⟩
    injection hB with hB
    subst hB
    exact h7

/-- two sources -/
structure Pair (b : Nat) (W0 w : World) (C D : Nat) (s : Int) (F : List Int) (i : Nat) (t : Int) (H : List Int) (j : Nat) : Prop where
  at2 : ∃ G K, At w C G s F i ∧ At w D K t H j ∧ G ≠ some D ∧ K ≠ some C
  ne : C ≠ D
  bC : b ≤ C
  bD : b ≤ D
  bel : Below b W0 w
section
variable {b : Nat} {W0 w : World} {C D : Nat} {s t : Int} {F H : List Int} {i j : Nat}
theorem Pair.bs (h : Pair b W0 w C D s F i t H j) : b ≤ w.heap.size := by
  obtain ⟨G, K, h1, h2, h3, h4⟩ := h.at2
  have := h1.src.lt
  have := h.bC
  omega
theorem Pair.below {w' : World} (h : Pair b W0 w C D s F i t H j) (hb : Below w.heap.size w w') : Pair b W0 w' C D s F i t H j := by
  obtain ⟨G, K, h1, h2, h3, h4⟩ := h.at2
  exact ⟨⟨G, K, h1.below hb, h2.below hb, h3, h4⟩, h.ne, h.bC, h.bD, h.bel.trans (hb.mono h.bs)⟩
theorem Pair.first (h : Pair b W0 w C D s F i t H j) : Calls Try.prog 11 #[.pointer (some ⟨C, 0, none⟩)] w fun e w' => e = .returned (.int .i64 (Dm.nth s F i)) ∧ Pair b W0 w' C D s F (i + 1) t H j ∧ Kept w w' (fun k => k = C) := by
  obtain ⟨G, K, h1, h2, h3, h4⟩ := h.at2
  refine h1.next.mono ?_
  rintro e w' ⟨rfl, h5, h6⟩
  exact ⟨rfl, ⟨⟨G, K, h5, h2.kept h6 (fun e => h.ne e.symm) (fun B hB e => h4 (by rw [hB, e])), h3, h4⟩, h.ne, h.bC, h.bD, h.bel.trans (h6.below h.bs (fun k hk => by rw [hk]; exact h.bC))⟩, h6⟩
theorem Pair.second (h : Pair b W0 w C D s F i t H j) : Calls Try.prog 11 #[.pointer (some ⟨D, 0, none⟩)] w fun e w' => e = .returned (.int .i64 (Dm.nth t H j)) ∧ Pair b W0 w' C D s F i t H (j + 1) ∧ Kept w w' (fun k => k = D) := by
  obtain ⟨G, K, h1, h2, h3, h4⟩ := h.at2
  refine h2.next.mono ?_
  rintro e w' ⟨rfl, h5, h6⟩
  exact ⟨rfl, ⟨⟨G, K, h1.kept h6 (fun e => h.ne e) (fun B hB e => h3 (by rw [hB, e])), h5, h3, h4⟩, h.ne, h.bC, h.bD, h.bel.trans (h6.below h.bs (fun k hk => by rw [hk]; exact h.bD))⟩, h6⟩
theorem Pair.left (h : Pair b W0 w C D s F i t H j) : Calls Try.prog 9 #[.pointer (some ⟨C, 0, none⟩)] w fun e w' => e = .returned (.int .i64 ((F.length - i : Nat) : Int)) ∧ w = w' := by
  obtain ⟨G, K, h1, h2, h3, h4⟩ := h.at2
  exact h1.left
/-- one is made beside another -/
theorem pair_of {w1 w2 : World} {G K : Option Nat} (h1 : At w1 C G s F i) (h2 : Src w2 D K H t) (hb1 : Below b W0 w1) (hb2 : Below w1.heap.size w1 w2) (hC : b ≤ C) (hG : ∀ B, G = some B → B < w1.heap.size) (hD : w1.heap.size ≤ D) (hK : ∀ B, K = some B → w1.heap.size ≤ B) : Pair b W0 w2 C D s F i t H 0 := by
  have hl := h1.src.lt
  refine ⟨⟨G, K, h1.below hb2, At.of h2, fun e => ?_, fun e => ?_⟩, by omega, hC, by omega, hb1.trans (hb2.mono (by omega))⟩
  · have := hG D e; omega
  · have := hK C e; omega
end
end Go.Proofs.Ytjhlmckghkjdmaa
