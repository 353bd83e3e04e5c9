/-
  A region that draws its order, each of whose operations gives a value that is known ahead: guarded operations whose guard holds, and calls, besides what RegionVals has. Plain laws; nothing of the program.
-/
import Derived.Test.YtdnhcpkpajbhoabRegionVals
namespace Go.Proofs.Ytdnhcpkpajbhoab
open Go.RowKit
set_option linter.unusedVariables false
set_option linter.unusedSimpArgs false

theorem wanted_none {ops : Array Oper} {o : Oper} {a : Act} (hg : o.guard = none) : Region.wanted o (yielded ops a.tmps) = true := by
  unfold Region.wanted; rw [hg]
theorem wanted_some {ops : Array Oper} {o oj : Oper} {a : Act} {j d : Nat} {b : Bool} (hg : o.guard = some (j, b)) (hj : ops[j]? = some oj) (hd : oj.dst = some d) (hv : a.eval (.tmp d) = .bool b) : Region.wanted o (yielded ops a.tmps) = true := by
  unfold Region.wanted
  rw [hg]
  have h : a.tmps[d]? = some (.bool b) := by
    unfold Act.eval at hv
    simp only [Array.getD_eq_getD_getElem?] at hv
    cases hx : a.tmps[d]? with
    | none => rw [hx] at hv; simp [undef] at hv
    | some v => rw [hx] at hv; simp at hv; rw [hv]
  simp [yielded, hj, hd, h]

section
variable {P : Program} {ops : Array Oper} {Q : Exit → Act → World → Prop} {i : Nat} {o : Oper} {a : Act} {w w' : World} {dst : Nat → Option Nat} {val : Nat → Value} {J : Array Bool → World → Prop} {l : Array Bool}
/-- an operation whose guard holds -/
theorem stepw_val (hi : ops[i]? = some o) (hw : Region.wanted o (yielded ops a.tmps) = true)
    (hrun : (execOp a.eval o).run P w = .ok (.value (val i)) w') (hdst : o.dst = dst i) (h : J (l.setIfInBounds i true) w') : wpOp P ops Q i (fun a' w' => a' = a.put (dst i) (val i) ∧ J (l.setIfInBounds i true) w') a w := by
  unfold wpOp
  simp only [hi, hw, if_true]
  refine Or.inl ?_
  unfold Oper.wp
  rw [hrun]
  exact ⟨by rw [hdst], h⟩
/-- a call whose guard holds -/
theorem stepw_call {f : Nat} {args : Array Value} (hi : ops[i]? = some o) (hw : Region.wanted o (yielded ops a.tmps) = true)
    (hrun : (execOp a.eval o).run P w = .ok (.enter f args) w') (hdst : o.dst = dst i) (h : Calls P f args w' fun e w'' => e = .returned (val i) ∧ J (l.setIfInBounds i true) w'') : wpOp P ops Q i (fun a' w' => a' = a.put (dst i) (val i) ∧ J (l.setIfInBounds i true) w') a w := by
  unfold wpOp
  simp only [hi, hw, if_true]
  refine Or.inl ?_
  unfold Oper.wp
  rw [hrun]
  refine h.mono ?_
  rintro e w'' ⟨rfl, hk⟩
  exact ⟨by rw [hdst], hk⟩
end

theorem wanted_not {ops : Array Oper} {o oj : Oper} {a : Act} {j d : Nat} {b : Bool} (hg : o.guard = some (j, b)) (hj : ops[j]? = some oj) (hd : oj.dst = some d) (hv : a.eval (.tmp d) = .bool (!b)) : Region.wanted o (yielded ops a.tmps) = false := by
  unfold Region.wanted
  rw [hg]
  have h : a.tmps[d]? = some (.bool (!b)) := by
    unfold Act.eval at hv
    simp only [Array.getD_eq_getD_getElem?] at hv
    cases hx : a.tmps[d]? with
    | none => rw [hx] at hv; simp [undef] at hv
    | some v => rw [hx] at hv; simp at hv; rw [hv]
  cases b <;> simp [yielded, hj, hd, h]
/-- an operation whose guard doesn't hold -/
theorem stepw_not {P : Program} {ops : Array Oper} {Q : Exit → Act → World → Prop} {i : Nat} {o : Oper} {a : Act} {w : World} {dst : Nat → Option Nat} {val : Nat → Value} {J : Array Bool → World → Prop} {l : Array Bool} (hi : ops[i]? = some o) (hw : Region.wanted o (yielded ops a.tmps) = false)
    (hv : val i = undef) (hdst : o.dst = dst i) (h : J (l.setIfInBounds i true) w) : wpOp P ops Q i (fun a' w' => a' = a.put (dst i) (val i) ∧ J (l.setIfInBounds i true) w') a w := by
  unfold wpOp
  rw [hi]
  simp only [hw]
  exact ⟨by rw [hdst, hv], h⟩
theorem runw_pickf {P : Program} {ρ : Operand → Value} {o : Oper} {x y z : Operand} {v : Value} (hop : o.op = .pick x y z) (hx : ρ x = .bool false) (hz : ρ z = v) (w : World) : (execOp ρ o).run P w = .ok (.value v) w := by
  unfold execOp
  simp only [hop, hx, hz]
  rfl
theorem runw_move {P : Program} {ρ : Operand → Value} {o : Oper} {x : Operand} {v : Value} (hop : o.op = .move x) (hx : ρ x = v) (w : World) : (execOp ρ o).run P w = .ok (.value v) w := by
  unfold execOp
  simp only [hop, hx]
  rfl
theorem runw_assign {P : Program} {ρ : Operand → Value} {o : Oper} {x : Operand} {v : Value} (hop : o.op = .assign x) (hx : ρ x = v) (w : World) : (execOp ρ o).run P w = .ok (.value v) w := by
  unfold execOp
  simp only [hop, hx]
  rfl
theorem runw_pick {P : Program} {ρ : Operand → Value} {o : Oper} {x y z : Operand} {v : Value} (hop : o.op = .pick x y z) (hx : ρ x = .bool true) (hy : ρ y = v) (w : World) : (execOp ρ o).run P w = .ok (.value v) w := by
  unfold execOp
  simp only [hop, hx, hy]
  rfl
end Go.Proofs.Ytdnhcpkpajbhoab
