/-
  A frame with exceptions: but for some blocks, what was there is as it was. It names nothing of the program.
-/
import Derived.Test.YtdnhcpkpajbhoabBase
namespace Go.Proofs.Ytdnhcpkpajbhoab
open Go.RowKit
set_option linter.unusedVariables false
set_option linter.unusedSimpArgs false

/-- but for the blocks T, what was there is as it was -/
structure Kept (w w' : World) (T : Nat → Prop) : Prop where
  os : w'.os = w.os
  tape : w'.tape = w.tape
  output : w'.output = w.output
  size : w.heap.size ≤ w'.heap.size
  block : ∀ k, k < w.heap.size → ¬ T k → w'.heap[k]? = w.heap[k]?

theorem Kept.refl (w : World) (T : Nat → Prop) : Kept w w T := ⟨rfl, rfl, rfl, Nat.le_refl _, fun _ _ _ => rfl⟩
theorem Kept.trans {a b c : World} {T T' : Nat → Prop} (h : Kept a b T) (k : Kept b c T') (hT : ∀ k, k < a.heap.size → T' k → T k) : Kept a c T :=
  ⟨k.os.trans h.os, k.tape.trans h.tape, k.output.trans h.output, Nat.le_trans h.size k.size,
    fun i hi hn => (k.block i (Nat.lt_of_lt_of_le hi h.size) (fun hx => hn (hT i hi hx))).trans (h.block i hi hn)⟩
theorem Kept.mono {a b : World} {T T' : Nat → Prop} (h : Kept a b T) (hT : ∀ k, k < a.heap.size → T k → T' k) : Kept a b T' :=
  ⟨h.os, h.tape, h.output, h.size, fun i hi hn => h.block i hi (fun hx => hn (hT i hi hx))⟩
theorem Kept.of_below {a b : World} {T : Nat → Prop} {B : Nat} (h : Below B a b) (hB : ∀ k, k < a.heap.size → B ≤ k → T k) : Kept a b T :=
  ⟨h.os, h.tape, h.output, h.size, fun i hi hn => h.block i (by
    rcases Nat.lt_or_ge i B with h' | h'
    · exact h'
    · exact absurd (hB i hi h') hn)⟩
theorem Kept.below {a b : World} {T : Nat → Prop} {B : Nat} (h : Kept a b T) (hB : B ≤ a.heap.size) (hT : ∀ k, T k → B ≤ k) : Below B a b :=
  ⟨h.os, h.tape, h.output, h.size, fun k hk => h.block k (by omega) (fun hx => by have := hT k hx; omega)⟩
theorem Kept.of_grown {a b : World} {r : Option Nat} {T : Nat → Prop} (h : a.grownBy b r) (hT : ∀ k, r = some k → T k) : Kept a b T :=
  ⟨h.os, h.tape, h.output, h.size, fun k hk hn => h.block k hk (fun e => hn (hT k e.symm))⟩
theorem Kept.setCell {a w : World} {T : Nat → Prop} (h : Kept a w T) {p : Addr} (hp : p.block < a.heap.size → T p.block) (u : Value) : Kept a (w.setCell p u) T :=
  h.trans (T' := fun k => k = p.block) ⟨rfl, rfl, rfl, by simp [World.setCell], fun k hk hn => Below.heap_setCell _ _ _ _ hn⟩ (fun k hk e => by subst e; exact hp hk)
theorem Kept.alloc {a w : World} {T : Nat → Prop} (h : Kept a w T) (o : Obj) : Kept a (w.alloc o) T :=
  h.trans (T' := fun _ => False) ⟨rfl, rfl, rfl, by simp, fun k hk _ => Below.heap_alloc _ _ _ hk⟩ (fun _ _ h => h.elim)
theorem Kept.drew {a w : World} {T : Nat → Prop} (h : Kept a w T) : Kept a w.drew T := ⟨h.os, h.tape, h.output, h.size, h.block⟩
theorem Kept.cell {a b : World} {T : Nat → Prop} (h : Kept a b T) {p : Addr} (hp : p.block < a.heap.size) (hn : ¬ T p.block) : b.cell? p = a.cell? p := World.cell?_of_block (w := a) (h.block p.block hp hn)
theorem Kept.frozen {a b : World} {T : Nat → Prop} (h : Kept a b T) {p : Addr} (hp : p.block < a.heap.size) (hn : ¬ T p.block) : b.frozen? p = a.frozen? p := World.frozen?_of_block (w := a) (h.block p.block hp hn)
theorem Kept.owns {a b : World} {T : Nat → Prop} (h : Kept a b T) {base : Nat} {e : TypeId} {size : Nat} {v : Value} {n : Nat} {xs : List Value} (ho : a.ownsRow base e size v n xs)
    (hn : ∀ k, v.ownBlock = some k → ¬ T k) : b.ownsRow base e size v n xs := by
  refine ⟨ho.1, ?_⟩
  rcases ho.2 with hn' | ⟨g, cap, cur, rfl, hb, hgg, rest⟩
  · exact .inl hn'
  · refine .inr ⟨g, cap, cur, rfl, hb, ?_, rest⟩
    rw [h.block g (Array.getElem?_eq_some_iff.1 hgg).1 (hn g rfl)]
    exact hgg
end Go.Proofs.Ytdnhcpkpajbhoab
