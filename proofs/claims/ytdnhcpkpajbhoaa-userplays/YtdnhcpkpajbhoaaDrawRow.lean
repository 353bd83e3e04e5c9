/-
  A source behind a pointer: the first numbers that weren't told, and x. Its methods turn its own block alone; the row of its numbers is only read.
-/
import Derived.Test.YtdnhcpkpajbhoaaDrawMath
import Derived.Test.YtdnhcpkpajbhoaaIntRow
namespace Go.Proofs.Ytdnhcpkpajbhoaa
open Go.RowKit
set_option linter.unusedVariables false
set_option linter.unusedSimpArgs false

/-- a source -/
structure Src (w : World) (C : Nat) (G : Option Nat) (L : List Int) (x : Int) : Prop where
  lt : C < w.heap.size
  c0 : ∃ a cap, w.cell? ⟨C, 0, none⟩ = some (.slice a L.length cap) ∧ L.length ≤ cap ∧ cap ≤ maxLen ∧ Lies w a G L
  c1 : w.cell? ⟨C, 1, none⟩ = some (.int .u64 x)
  f0 : w.frozen? ⟨C, 0, none⟩ = false
  f1 : w.frozen? ⟨C, 1, none⟩ = false
  ne : G ≠ some C
  wf : ∀ n ∈ L, In64 n
  lo : 0 ≤ x
  hi : x < 18446744073709551616
section
variable {w w' : World} {C : Nat} {G : Option Nat} {L : List Int} {x : Int}
theorem Src.kept {T : Nat → Prop} (h : Src w C G L x) (hk : Kept w w' T) (hC : ¬ T C) (hG : ∀ B, G = some B → ¬ T B) : Src w' C G L x := by
  obtain ⟨a, cap, h1, h2, h3, h4⟩ := h.c0
  exact ⟨Nat.lt_of_lt_of_le h.lt hk.size, ⟨a, cap, (hk.cell (p := ⟨C, 0, none⟩) h.lt hC).trans h1, h2, h3, h4.kept hk hG⟩, (hk.cell (p := ⟨C, 1, none⟩) h.lt hC).trans h.c1,
    (hk.frozen (p := ⟨C, 0, none⟩) h.lt hC).trans h.f0, (hk.frozen (p := ⟨C, 1, none⟩) h.lt hC).trans h.f1, h.ne, h.wf, h.lo, h.hi⟩
theorem Src.below (h : Src w C G L x) (hb : Below w.heap.size w w') : Src w' C G L x :=
  h.kept (T := fun _ => False) (Kept.of_below hb (fun k hk h' => by omega)) (fun x => x) (fun _ _ x => x)
/-- x is laid down anew -/
theorem Src.setX {y : Int} (h : Src w C G L x) (hl : 0 ≤ y) (hh : y < 18446744073709551616) : Src (w.setCell ⟨C, 1, none⟩ (.int .u64 y)) C G L y ∧ Kept w (w.setCell ⟨C, 1, none⟩ (.int .u64 y)) (fun k => k = C) := by
  have hk : Kept w (w.setCell ⟨C, 1, none⟩ (.int .u64 y)) (fun k => k = C) := (Kept.refl w (fun k => k = C)).setCell (p := ⟨C, 1, none⟩) (fun _ => rfl) _
  obtain ⟨a, cap, h1, h2, h3, h4⟩ := h.c0
  refine ⟨⟨Nat.lt_of_lt_of_le h.lt hk.size, ⟨a, cap, ?_, h2, h3, h4.kept hk (fun B hB e => h.ne (by rw [hB, e]))⟩, ?_, ?_, ?_, h.ne, h.wf, hl, hh⟩, hk⟩
  · rw [World.cell?_setCell_other w _ _ _ (fun h => by injection h with _ h2; omega)]; exact h1
  · exact World.cell?_setCell_same' w ⟨C, 1, none⟩ _ (by rw [h.c1]; rfl)
  · rw [World.frozen?_setCell]; exact h.f0
  · rw [World.frozen?_setCell]; exact h.f1
/-- its numbers are laid down anew -/
theorem Src.setL {M : List Int} {a' : Option Addr} {cap' m : Nat} (h : Src w C G L x) (hm : m = M.length) (hc : M.length ≤ cap') (hx : cap' ≤ maxLen) (hl : Lies w a' G M) (hw : ∀ n ∈ M, In64 n) : Src (w.setCell ⟨C, 0, none⟩ (.slice a' m cap')) C G M x ∧ Kept w (w.setCell ⟨C, 0, none⟩ (.slice a' m cap')) (fun k => k = C) := by
  subst hm
  have hk : Kept w (w.setCell ⟨C, 0, none⟩ (.slice a' M.length cap')) (fun k => k = C) := (Kept.refl w (fun k => k = C)).setCell (p := ⟨C, 0, none⟩) (fun _ => rfl) _
  obtain ⟨a, cap, h1, h2, h3, h4⟩ := h.c0
  refine ⟨⟨Nat.lt_of_lt_of_le h.lt hk.size, ⟨a', cap', ?_, hc, hx, hl.kept hk (fun B hB e => h.ne (by rw [hB, e]))⟩, ?_, ?_, ?_, h.ne, hw, h.lo, h.hi⟩, hk⟩
  · exact World.cell?_setCell_same' w ⟨C, 0, none⟩ _ (by rw [h1]; rfl)
  · rw [World.cell?_setCell_other w _ _ _ (fun h => by injection h with _ h2; omega)]; exact h.c1
  · rw [World.frozen?_setCell]; exact h.f0
  · rw [World.frozen?_setCell]; exact h.f1
end
theorem row_lies {w : World} {a : Option Addr} {len cap : Nat} {xs : List Int} (h : Row .i64 w a len cap xs) : ∃ G, Lies w a G xs ∧ (a = none → xs = [] ∧ cap = 0) ∧ (∀ n ∈ xs, In64 n) ∧ ∀ B, G = some B → B < w.heap.size := by
  obtain ⟨h1, h2, h3, h4, h5⟩ := h
  have hw : ∀ n ∈ xs, In64 n := fun n hn => bounds_i64 (h4 n hn)
  rcases h5 with ⟨rfl, h6, h7⟩ | ⟨⟨x, rfl⟩, h6⟩ | ⟨b, off, rfl, h6, h7, h8⟩
  · have h0 : xs = [] := List.eq_nil_of_length_eq_zero (by omega)
    exact ⟨none, Or.inl h0, fun _ => ⟨h0, h7⟩, hw, fun B hB => by cases hB⟩
  · have h0 : xs = [] := List.eq_nil_of_length_eq_zero (by omega)
    exact ⟨none, Or.inl h0, (fun e => by cases e), hw, fun B hB => by cases hB⟩
  · refine ⟨some b, Or.inr ⟨b, off, rfl, rfl, h7, fun i hi => h8 i (by omega)⟩, (fun e => by cases e), hw, fun B hB => ?_⟩
    injection hB with hB
    subst hB
    exact h7

end Go.Proofs.Ytdnhcpkpajbhoaa
