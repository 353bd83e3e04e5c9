/-
  A flow and the document's flow side by side, and a call's data in a block beside them: what moves the one leaves the other.
-/
import Derived.Test.YtejhhgpfkobjoabFlowWakes
import Derived.Test.YtejhhgpfkobjoabFlowRef
import Derived.Test.YtejhhgpfkobjoabFActRows
namespace Go.Proofs.Ytejhhgpfkobjoab
open Go.RowKit
set_option linter.unusedVariables false
set_option linter.unusedSimpArgs false

/-- the two of them, in blocks from b on, below which all is as in W0 -/
structure PrF (b : Nat) (W0 w : World) (C R D : Nat) (σ τ : Wm.St) : Prop where
  qu : ∃ G H, Fl w C G σ ∧ Rf w R D H τ ∧ (∀ k, qtch C G k → b ≤ k) ∧ (∀ k, rtch R D H k → b ≤ k) ∧ ∀ k, qtch C G k → ¬ rtch R D H k
  bel : Below b W0 w
/-- and the data in block s -/
structure TwF (b : Nat) (W0 w : World) (C R D : Nat) (s : Nat) (q : ActF) (σ τ : Wm.St) : Prop where
  qu : ∃ G H, Fl w C G σ ∧ Rf w R D H τ ∧ (∀ k, qtch C G k → b ≤ k ∧ k ≠ s) ∧ (∀ k, rtch R D H k → b ≤ k ∧ k ≠ s) ∧ ∀ k, qtch C G k → ¬ rtch R D H k
  bel : Below b W0 w
  act : q.At w s 0
  lt : s < w.heap.size
section
variable {b : Nat} {W0 w : World} {C R D s : Nat} {q : ActF} {σ τ : Wm.St}
theorem PrF.bs (h : PrF b W0 w C R D σ τ) : b ≤ w.heap.size := by
  obtain ⟨G, H, h1, h2, h3, h4, h5⟩ := h.qu
  have := h3 C (Or.inl rfl); have := h1.lt; omega
theorem PrF.bc (h : PrF b W0 w C R D σ τ) : b ≤ C ∧ b ≤ R ∧ b ≤ D ∧ C ≠ R ∧ C ≠ D ∧ C < w.heap.size ∧ R < w.heap.size ∧ D < w.heap.size := by
  obtain ⟨G, H, h1, h2, h3, h4, h5⟩ := h.qu
  exact ⟨h3 C (Or.inl rfl), h4 R (Or.inl rfl), h4 D (Or.inr (Or.inl rfl)), fun e => h5 C (Or.inl rfl) (Or.inl e), fun e => h5 C (Or.inl rfl) (Or.inr (Or.inl e)), h1.lt, h2.lt, h2.qu.lt⟩
theorem TwF.pr (h : TwF b W0 w C R D s q σ τ) : PrF b W0 w C R D σ τ := by
  obtain ⟨G, H, h1, h2, h3, h4, h5⟩ := h.qu
  exact ⟨⟨G, H, h1, h2, fun k hk => (h3 k hk).1, fun k hk => (h4 k hk).1, h5⟩, h.bel⟩
theorem PrF.below {w' : World} (h : PrF b W0 w C R D σ τ) (hb : Below w.heap.size w w') : PrF b W0 w' C R D σ τ := by
  obtain ⟨G, H, h1, h2, h3, h4, h5⟩ := h.qu
  exact ⟨⟨G, H, h1.below hb, h2.below hb, h3, h4, h5⟩, h.bel.trans (hb.mono h.bs)⟩
theorem TwF.below {w' : World} (h : TwF b W0 w C R D s q σ τ) (hb : Below w.heap.size w w') : TwF b W0 w' C R D s q σ τ := by
  obtain ⟨G, H, h1, h2, h3, h4, h5⟩ := h.qu
  exact ⟨⟨G, H, h1.below hb, h2.below hb, h3, h4, h5⟩, h.bel.trans (hb.mono h.pr.bs), h.act.below hb h.lt, Nat.lt_of_lt_of_le h.lt hb.size⟩
theorem PrF.act {W : World} {T : TypeId} (h : PrF b W0 w C R D σ τ) (hW : W = w.alloc (.cells #[.int .i64 q.d, .int .i64 q.n, .bool q.ne, .bool q.on, .string q.s] T)) : TwF b W0 W C R D w.heap.size q σ τ := by
  subst hW
  obtain ⟨G, H, h1, h2, h3, h4, h5⟩ := h.qu
  have hb : Below w.heap.size w (w.alloc (.cells #[.int .i64 q.d, .int .i64 q.n, .bool q.ne, .bool q.on, .string q.s] T)) := (Below.refl _ _).alloc (Nat.le_refl _) _
  exact ⟨⟨G, H, h1.below hb, h2.below hb, fun k hk => ⟨h3 k hk, by have := h1.tlt hk; omega⟩, fun k hk => ⟨h4 k hk, by have := h2.tlt hk; omega⟩, h5⟩, h.bel.trans (hb.mono h.bs), ⟨by simp, by simp, by simp, by simp, by simp⟩, by simp⟩
theorem TwF.first (h : TwF b W0 w C R D s q σ τ) : ∃ G, Fl w C G σ ∧ ∀ w' σ', Mvf w w' C G σ' → TwF b W0 w' C R D s q σ' τ := by
  obtain ⟨G, H, h1, h2, h3, h4, h5⟩ := h.qu
  have hbs := h.pr.bs
  refine ⟨G, h1, fun w' σ' hm => ?_⟩
  obtain ⟨G', hq', hk, hf⟩ := hm
  refine ⟨⟨G', H, hq', h2.kept hk (fun k hx hy => h5 k hy hx), fun k hk' => ?_, h4, fun k hk' hk2 => ?_⟩, h.bel.trans (hk.below hbs (fun k hk' => (h3 k hk').1)), h.act.kept hk h.lt (fun hx => (h3 s hx).2 rfl), Nat.lt_of_lt_of_le h.lt hk.size⟩
  · rcases hk' with rfl | hk'
    · exact h3 k (Or.inl rfl)
    · rcases hf k hk' with h' | h'
      · exact h3 k (Or.inr h')
      · exact ⟨by omega, by have := h.lt; omega⟩
  · rcases hk' with rfl | hk'
    · exact h5 k (Or.inl rfl) hk2
    · rcases hf k hk' with h' | h'
      · exact h5 k (Or.inr h') hk2
      · have := h2.tlt hk2; omega
theorem TwF.second (h : TwF b W0 w C R D s q σ τ) : ∃ H, Rf w R D H τ ∧ ∀ w' τ', Mvr w w' R D H τ' → TwF b W0 w' C R D s q σ τ' := by
  obtain ⟨G, H, h1, h2, h3, h4, h5⟩ := h.qu
  have hbs := h.pr.bs
  refine ⟨H, h2, fun w' τ' hm => ?_⟩
  obtain ⟨H', hq', hk, hf⟩ := hm
  refine ⟨⟨G, H', h1.kept hk (fun hx => h5 C (Or.inl rfl) hx) (fun B hB hx => h5 B (Or.inr hB) hx), hq', h3, fun k hk' => ?_, fun k hk' hk2 => ?_⟩, h.bel.trans (hk.below hbs (fun k hk' => (h4 k hk').1)), h.act.kept hk h.lt (fun hx => (h4 s hx).2 rfl), Nat.lt_of_lt_of_le h.lt hk.size⟩
  · rcases hk' with rfl | rfl | hk'
    · exact h4 k (Or.inl rfl)
    · exact h4 k (Or.inr (Or.inl rfl))
    · rcases hf k hk' with h' | h'
      · exact h4 k (Or.inr (Or.inr h'))
      · exact ⟨by omega, by have := h.lt; omega⟩
  · rcases hk2 with rfl | rfl | hk2
    · exact h5 k hk' (Or.inl rfl)
    · exact h5 k hk' (Or.inr (Or.inl rfl))
    · rcases hf k hk2 with h' | h'
      · exact h5 k hk' (Or.inr (Or.inr h'))
      · have := h1.tlt hk'; omega
theorem PrF.first (h : PrF b W0 w C R D σ τ) : ∃ G, Fl w C G σ ∧ ∀ w' σ', Mvf w w' C G σ' → PrF b W0 w' C R D σ' τ := by
  obtain ⟨G, H, h1, h2, h3, h4, h5⟩ := h.qu
  have hbs := h.bs
  refine ⟨G, h1, fun w' σ' hm => ?_⟩
  obtain ⟨G', hq', hk, hf⟩ := hm
  refine ⟨⟨G', H, hq', h2.kept hk (fun k hx hy => h5 k hy hx), fun k hk' => ?_, h4, fun k hk' hk2 => ?_⟩, h.bel.trans (hk.below hbs (fun k hk' => h3 k hk'))⟩
  · rcases hk' with rfl | hk'
    · exact h3 k (Or.inl rfl)
    · rcases hf k hk' with h' | h'
      · exact h3 k (Or.inr h')
      · omega
  · rcases hk' with rfl | hk'
    · exact h5 k (Or.inl rfl) hk2
    · rcases hf k hk' with h' | h'
      · exact h5 k (Or.inr h') hk2
      · have := h2.tlt hk2; omega
theorem prf_new {w1 : World} {k mo : Int} (hC : w.heap.size ≤ C) (hf : Fl w1 C none (Wm.new k mo)) (hb1 : Below w.heap.size w w1) {w2 : World} (hR : w1.heap.size ≤ R) (hD : w1.heap.size ≤ D) (hr : Rf w2 R D none (Wm.new k mo)) (hb2 : Below w1.heap.size w1 w2) :
    PrF w.heap.size w w2 C R D (Wm.new k mo) (Wm.new k mo) := by
  have hs := hb1.size
  have hl := hf.lt
  refine ⟨⟨none, none, hf.below hb2, hr, ?_, ?_, ?_⟩, hb1.trans (hb2.mono hs)⟩
  · rintro k (rfl | hk)
    · exact hC
    · cases hk
  · rintro k (rfl | rfl | hk)
    · omega
    · omega
    · cases hk
  · rintro k (rfl | hk) hk2
    · rcases hk2 with rfl | rfl | hk2
      · omega
      · omega
      · cases hk2
    · cases hk
end
end Go.Proofs.Ytejhhgpfkobjoab
