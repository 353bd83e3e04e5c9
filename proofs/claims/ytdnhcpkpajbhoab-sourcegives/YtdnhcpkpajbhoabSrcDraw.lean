/-
  A source that has no TEI left denies, and audits: two steps whose order is open. What each operation does.
-/
import Derived.Test.YtdnhcpkpajbhoabSrcAudit
import Derived.Test.YtdnhcpkpajbhoabRegionMore
namespace Go.Proofs.Ytdnhcpkpajbhoab
open Go.RowKit
set_option linter.unusedVariables false
set_option linter.unusedSimpArgs false
set_option maxRecDepth 100000

section
variable {ρ : Operand → Value} {o : Oper}
theorem runz_ld {x : Operand} {B : Nat} {e : Zm.Ef} {w : World} (hop : o.op = .load 53 x) (hx : ρ x = .pointer (some ⟨B, 0, none⟩)) (h0 : w.cell? ⟨B, 0, none⟩ = some (.int .i64 e.k)) (h1 : w.cell? ⟨B, 1, none⟩ = some (.int .i64 e.ty)) (h2 : w.cell? ⟨B, 2, none⟩ = some (.int .i64 e.ri)) (h3 : w.cell? ⟨B, 3, none⟩ = some (.int .i64 e.ai)) (h4 : w.cell? ⟨B, 4, none⟩ = some (.int .i64 e.tei)) :
    (execOp ρ o).run Try.prog w = .ok (.value (efV e)) w := by
  unfold execOp efV
  simp only [hop, hx]
  go_simp
theorem runz_bs {x : Operand} {e : Zm.Ef} (hop : o.op = .buildSlice 47 1 #[(0, x)]) (hx : ρ x = efV e) (w : World) :
    (execOp ρ o).run Try.prog w = .ok (.value (.slice (some ⟨w.heap.size, 0, none⟩) 1 1)) (w.alloc (.cells (efsL [e]).toArray 53)) := by
  unfold execOp
  unfold efV at hx
  simp only [hop, hx]
  go_simp
  rfl
theorem runz_call {x : Operand} {u : Value} {ts : Array TypeId} (hop : o.op = .call { callee := .value (.func 16), args := #[x], argTypes := ts })
    (hf : ρ (.func 16) = .func (.func 16) #[] #[]) (hx : ρ x = u) (w : World) : (execOp ρ o).run Try.prog w = .ok (.enter 16 #[u]) w := by
  unfold execOp
  simp only [hop]
  simp only [resolve, hf, hx, List.map_toArray, List.map_cons, List.map_nil]
  go_simp
theorem runz_app {x y : Operand} {v u v' : Value} {w w' : World} (hop : o.op = .call { callee := .builtin .append, args := #[x, y], argTypes := #[47, 47] }) (hx : ρ x = v) (hy : ρ y = u) (hr : ∀ ty, (Builtin.append_ #[47, 47] ty #[v, u]).run Try.prog w = .ok v' w') :
    (execOp ρ o).run Try.prog w = .ok (.value v') w' := by
  unfold execOp
  simp only [hop, resolve, invoke, builtin, Sem.run_bind, Sem.run_pure, Result.andThen_ok, List.map_toArray, List.map_cons, List.map_nil, hx, hy, hr]
end

def drwD : Nat → Option Nat | 0 => some 28 | 1 => some 29 | 2 => some 30 | 3 => some 31 | 4 => some 32 | 5 => some 4 | _ => none
def drwV (C : Nat) (e : Zm.Ef) (b : Value × Value × Value) : Nat → Value | 0 => efV e | 1 => b.1 | 2 => .pointer (some ⟨C, 0, none⟩) | 3 => b.2.1 | 4 => b.2.2 | 5 => b.2.2 | _ => undef
theorem drwD_inj : ∀ i j d, i < 6 → j < 6 → drwD i = some d → drwD j = some d → i = j := by
  have h : ∀ i < 6, ∀ j < 6, drwD i = drwD j → i = j := by decide
  intro i j d hi hj h1 h2
  exact h i hi j hj (h1.trans h2.symm)
theorem drwD_lt : ∀ i d, i < 6 → drwD i = some d → d < 40 := by
  have h : ∀ i < 6, (drwD i).all (· < 40) = true := by decide
  intro i d hi hd
  have := h i hi
  rw [hd] at this
  simpa using this
/-- the world while the region runs -/
structure DrJ (w : World) (C P M B : Nat) (s : Zm.St) (e : Zm.Ef) (b : Value × Value × Value) (l : Array Bool) (w' : World) : Prop where
  mv : Mvs w w' C P M (if l.getD 3 false then Zm.audit s else s)
  lt : B < w'.heap.size
  c0 : w'.cell? ⟨B, 0, none⟩ = some (.int .i64 e.k)
  c1 : w'.cell? ⟨B, 1, none⟩ = some (.int .i64 e.ty)
  c2 : w'.cell? ⟨B, 2, none⟩ = some (.int .i64 e.ri)
  c3 : w'.cell? ⟨B, 3, none⟩ = some (.int .i64 e.ai)
  c4 : w'.cell? ⟨B, 4, none⟩ = some (.int .i64 e.tei)
  o1 : l.getD 4 false = true → l.getD 1 false = true ∧ l.getD 3 false = true
  o2 : l.getD 5 false = true → l.getD 4 false = true
  r1 : l.getD 4 false = false → l.getD 1 false = true → Out w.heap.size w' b.1 [e] ∧ b.1.ownBlock ≠ some B
  r2 : l.getD 4 false = false → l.getD 3 false = true → Out w.heap.size w' b.2.1 (Zm.auditE s)
  r3 : l.getD 4 false = true → Out w.heap.size w' b.2.2 ([e] ++ Zm.auditE s)
section
variable {w w' w2 : World} {C P M B : Nat} {s : Zm.St} {e : Zm.Ef} {b : Value × Value × Value} {l : Array Bool} {md : Region.Mode} {ops : Array Oper}
theorem DrJ.same {i : Nat} (h : DrJ w C P M B s e b l w') (h1 : i ≠ 1) (h3 : i ≠ 3) (h4 : i ≠ 4) (h5 : i = 5 → l.getD 4 false = true) : DrJ w C P M B s e b (l.setIfInBounds i true) w' := by
  refine ⟨?_, h.lt, h.c0, h.c1, h.c2, h.c3, h.c4, ?_, ?_, ?_, ?_, ?_⟩
  · rw [getD_set_ne false h3]; exact h.mv
  · rw [getD_set_ne false h4, getD_set_ne false h1, getD_set_ne false h3]; exact h.o1
  · rw [getD_set_ne false h4]
    by_cases e5 : i = 5
    · intro _; exact h5 e5
    · rw [getD_set_ne false e5]; exact h.o2
  · rw [getD_set_ne false h4, getD_set_ne false h1]; exact h.r1
  · rw [getD_set_ne false h4, getD_set_ne false h3]; exact h.r2
  · rw [getD_set_ne false h4]; exact h.r3
theorem DrJ.build (h : DrJ w C P M B s e b l w') (hr : 1 ∈ Region.ready md ops l) :
    (∀ j, j < 6 → l.getD j false = true → drwV C e (.slice (some ⟨w'.heap.size, 0, none⟩) 1 1, b.2) j = drwV C e b j) ∧ DrJ w C P M B s e (.slice (some ⟨w'.heap.size, 0, none⟩) 1 1, b.2) (l.setIfInBounds 1 true) (w'.alloc (.cells (efsL [e]).toArray 53)) := by
  obtain ⟨e1, e2⟩ := gr_not_yet hr
  have h4 : l.getD 4 false = false := by
    cases x : l.getD 4 false with
    | false => rfl
    | true => have := (h.o1 x).1; rw [e1] at this; cases this
  have hb : Below w'.heap.size w' (w'.alloc (.cells (efsL [e]).toArray 53)) := (Below.refl _ _).alloc (Nat.le_refl _) _
  have hc : ∀ j u, w'.cell? ⟨B, j, none⟩ = some u → (w'.alloc (.cells (efsL [e]).toArray 53)).cell? ⟨B, j, none⟩ = some u := fun j u hu => (hb.cell (p := ⟨B, j, none⟩) h.lt).trans hu
  refine ⟨fun j hj hl => ?_, ?_, by have := h.lt; simp; omega, hc 0 _ h.c0, hc 1 _ h.c1, hc 2 _ h.c2, hc 3 _ h.c3, hc 4 _ h.c4, ?_, ?_, ?_, ?_, ?_⟩
  · have : j = 0 ∨ j = 1 ∨ j = 2 ∨ j = 3 ∨ j = 4 ∨ j = 5 := by omega
    rcases this with rfl | rfl | rfl | rfl | rfl | rfl
    · rfl
    · rw [e1] at hl; cases hl
    all_goals rfl
  · rw [getD_set_ne false (by decide)]; exact h.mv.then hb
  · rw [getD_set_ne false (by decide), h4]; intro x; cases x
  · rw [getD_set_ne false (by decide), getD_set_ne false (by decide)]; exact h.o2
  · intro _ _
    refine ⟨out_made w' [e] h.mv.2.size rfl (by simp), fun x => ?_⟩
    have h1 : w'.heap.size = B := by simpa [Value.ownBlock] using x
    have := h.lt
    omega
  · rw [getD_set_ne false (by decide), getD_set_ne false (by decide)]; intro x y; exact (h.r2 x y).bel hb
  · rw [getD_set_ne false (by decide), h4]; intro x; cases x
theorem DrJ.audit {v : Value} (h : DrJ w C P M B s e b l w') (hl : Low w C P M) (hB : w.heap.size ≤ B) (hr : 3 ∈ Region.ready md ops l) :
    Sr w' C P M s ∧ ∀ v w2, Out w'.heap.size w2 v (Zm.auditE s) → Mvs w' w2 C P M (Zm.audit s) → (∀ j, j < 6 → l.getD j false = true → drwV C e (b.1, v, b.2.2) j = drwV C e b j) ∧ DrJ w C P M B s e (b.1, v, b.2.2) (l.setIfInBounds 3 true) w2 := by
  obtain ⟨e1, e2⟩ := gr_not_yet hr
  have h4 : l.getD 4 false = false := by
    cases x : l.getD 4 false with
    | false => rfl
    | true => have := (h.o1 x).2; rw [e1] at this; cases this
  have hm := h.mv
  rw [e1] at hm
  simp only [Bool.false_eq_true, if_false] at hm
  obtain ⟨l1, l2, l3⟩ := hl
  refine ⟨hm.1, fun v w2 ho h2 => ?_⟩
  have hnB : ¬ (B = P ∨ B = M) := by omega
  have hc : ∀ j u, w'.cell? ⟨B, j, none⟩ = some u → w2.cell? ⟨B, j, none⟩ = some u := fun j u hu => (h2.2.cell (p := ⟨B, j, none⟩) h.lt hnB).trans hu
  refine ⟨fun j hj hl => ?_, ?_, Nat.lt_of_lt_of_le h.lt h2.2.size, hc 0 _ h.c0, hc 1 _ h.c1, hc 2 _ h.c2, hc 3 _ h.c3, hc 4 _ h.c4, ?_, ?_, ?_, ?_, ?_⟩
  · have : j = 0 ∨ j = 1 ∨ j = 2 ∨ j = 3 ∨ j = 4 ∨ j = 5 := by omega
    rcases this with rfl | rfl | rfl | rfl | rfl | rfl
    · rfl
    · rfl
    · rfl
    · rw [e1] at hl; cases hl
    all_goals rfl
  · rw [e2]; exact Mvs.on hm.2 h2
  · rw [getD_set_ne false (by decide), h4]; intro x; cases x
  · rw [getD_set_ne false (by decide), getD_set_ne false (by decide)]; exact h.o2
  · rw [getD_set_ne false (by decide), getD_set_ne false (by decide)]; intro x y; exact ⟨(h.r1 x y).1.mvs h2 l2 l3, (h.r1 x y).2⟩
  · intro _ _; exact ho.up hm.2.size
  · rw [getD_set_ne false (by decide), h4]; intro x; cases x
theorem auditE_len (s : Zm.St) : (Zm.auditE s).length ≤ 64 := by
  have := Pm.ls_len s.f 63
  simp [Zm.auditE]
  omega
theorem DrJ.app (h : DrJ w C P M B s e b l w') (hl : Low w C P M) (h1 : l.getD 1 false = true) (h3 : l.getD 3 false = true) (hr : 4 ∈ Region.ready md ops l) :
    ∃ v w2, (∀ ty, (Builtin.append_ #[47, 47] ty #[b.1, b.2.1]).run Try.prog w' = .ok v w2) ∧ (∀ j, j < 6 → l.getD j false = true → drwV C e (b.1, b.2.1, v) j = drwV C e b j) ∧ DrJ w C P M B s e (b.1, b.2.1, v) (l.setIfInBounds 4 true) w2 := by
  obtain ⟨e1, e2⟩ := gr_not_yet hr
  have h5 : l.getD 5 false = false := by
    cases x : l.getD 5 false with
    | false => rfl
    | true => have := h.o2 x; rw [e1] at this; cases this
  obtain ⟨q1, q2⟩ := h.r1 e1 h1
  obtain ⟨v, w2, hrun, ho, hm, hg, hat⟩ := append_mvs h.mv hl q1 (h.r2 e1 h3) (by simp) (by have := auditE_len s; omega)
  have hk : Kept w' w2 (fun k => b.1.ownBlock = some k) := Kept.of_grown hg (fun k e => e)
  have hc : ∀ j u, w'.cell? ⟨B, j, none⟩ = some u → w2.cell? ⟨B, j, none⟩ = some u := fun j u hu => (hk.cell (p := ⟨B, j, none⟩) h.lt q2).trans hu
  refine ⟨v, w2, hrun, fun j hj hl => ?_, ?_, Nat.lt_of_lt_of_le h.lt hk.size, hc 0 _ h.c0, hc 1 _ h.c1, hc 2 _ h.c2, hc 3 _ h.c3, hc 4 _ h.c4, ?_, ?_, ?_, ?_, ?_⟩
  · have : j = 0 ∨ j = 1 ∨ j = 2 ∨ j = 3 ∨ j = 4 ∨ j = 5 := by omega
    rcases this with rfl | rfl | rfl | rfl | rfl | rfl
    · rfl
    · rfl
    · rfl
    · rfl
    · rw [e1] at hl; cases hl
    · rw [h5] at hl; cases hl
  · rw [getD_set_ne false (by decide)]; exact hm
  · intro _; rw [getD_set_ne false (by decide), getD_set_ne false (by decide)]; exact ⟨h1, h3⟩
  · rw [getD_set_ne false (by decide), h5]; intro x; cases x
  · rw [e2]; intro x; cases x
  · rw [e2]; intro x; cases x
  · intro _; exact ho
end
end Go.Proofs.Ytdnhcpkpajbhoab
