/-
  A region that draws: what has come up is listed, and what hasn't isn't; a call whose answer becomes the parameter. It names nothing of the program.
-/
import Derived.Test.YtdnhcpkpajbhoabRegionGrow
namespace Go.Proofs.Ytdnhcpkpajbhoab
open Go.RowKit
set_option linter.unusedVariables false
set_option linter.unusedSimpArgs false

theorem gr_not_yet {md : Region.Mode} {ops : Array Oper} {l : Array Bool} {i : Nat} (h : i ∈ Region.ready md ops l) : l.getD i false = false ∧ (l.setIfInBounds i true).getD i false = true := by
  have hl : l.getD i true = false := by
    have h' := h
    simp only [Region.ready, List.mem_filter, List.mem_range] at h'
    have := h'.2
    simp only [Bool.and_eq_true] at this
    have h2 := this.1
    simpa using h2
  have hlt := unlisted_lt hl
  refine ⟨?_, by simp [hlt]⟩
  simp [hlt] at hl ⊢
  exact hl
theorem gr_other {l : Array Bool} {i j : Nat} (h : j ≠ i) : (l.setIfInBounds i true).getD j false = l.getD j false := by
  simp [Array.getElem?_setIfInBounds, Ne.symm h]
section
variable {β : Type} {P : Program} {ops : Array Oper} {Q : Exit → Act → World → Prop} {i : Nat} {o : Oper} {a : Act} {w w' : World} {N : Nat} {dst : Nat → Option Nat} {val : β → Nat → Value} {J : β → Array Bool → World → Prop} {l : Array Bool}
/-- a call whose answer becomes the parameter -/
theorem gr_call (b : β) {f : Nat} {args : Array Value} (hi : ops[i]? = some o) (hw : Region.wanted o (yielded ops a.tmps) = true) (hrun : (execOp a.eval o).run P w = .ok (.enter f args) w') (hdst : o.dst = dst i)
    (h : Calls P f args w' fun e w'' => ∃ b', e = .returned (val b' i) ∧ (∀ j, j < N → l.getD j false = true → val b' j = val b j) ∧ J b' (l.setIfInBounds i true) w'') :
    wpOp P ops Q i (fun a' w' => ∃ b', (∀ j, j < N → l.getD j false = true → val b' j = val b j) ∧ a' = a.put (dst i) (val b' i) ∧ J b' (l.setIfInBounds i true) w') a w := by
  unfold wpOp
  simp only [hi, hw, if_true]
  refine Or.inl ?_
  unfold Oper.wp
  rw [hrun]
  refine h.mono ?_
  rintro e w'' ⟨b', rfl, hv, hk⟩
  exact ⟨b', hv, by rw [hdst], hk⟩
end
end Go.Proofs.Ytdnhcpkpajbhoab
