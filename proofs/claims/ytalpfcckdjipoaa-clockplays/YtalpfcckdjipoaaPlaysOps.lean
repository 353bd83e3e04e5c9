/-
  What the operations of the law ClockPlays' regions do, one by one; a call whose answer isn't known ahead, in a region that draws its order.
-/
import Derived.Test.YtalpfcckdjipoaaClkWalks
import Derived.Test.YtalpfcckdjipoaaRegionGrow
namespace Go.Proofs.Ytalpfcckdjipoaa
open Go.RowKit Go.Maps
set_option linter.unusedVariables false
set_option linter.unusedSimpArgs false

section
variable {ρ : Operand → Value} {o : Oper}
theorem runy_fa {x : Operand} {s j : Nat} (hop : o.op = .fieldAddr 24 x j) (hj : j = 1 ∨ j = 2 ∨ j = 3 ∨ j = 4) (hx : ρ x = .pointer (some ⟨s, 0, none⟩)) (w : World) : (execOp ρ o).run Try.prog w = .ok (.value (.pointer (some ⟨s, j, none⟩))) w := by
  unfold execOp
  rcases hj with rfl | rfl | rfl | rfl
  all_goals
    simp only [hop, hx]
    go_simp
theorem runy_ldi {x : Operand} {s j : Nat} {v : Int} {w : World} (hop : o.op = .load 3 x ∨ o.op = .load 2 x) (hx : ρ x = .pointer (some ⟨s, j, none⟩)) (hc : w.cell? ⟨s, j, none⟩ = some (.int .i64 v)) : (execOp ρ o).run Try.prog w = .ok (.value (.int .i64 v)) w := by
  unfold execOp
  rcases hop with hop | hop
  all_goals
    simp only [hop, hx]
    go_simp
theorem runy_ldk {x : Operand} {B : Nat} {p q : Int} {w : World} (hop : o.op = .load 33 x) (hx : ρ x = .pointer (some ⟨B, 0, none⟩)) (h0 : w.cell? ⟨B, 0, none⟩ = some (.int .i64 p)) (h1 : w.cell? ⟨B, 1, none⟩ = some (.int .i64 q)) : (execOp ρ o).run Try.prog w = .ok (.value (keyV (p, q))) w := by
  unfold execOp keyV
  simp only [hop, hx]
  go_simp
theorem runy_nei {x y : Operand} {n : Int} (hop : o.op = .binOp .neq 3 x y 3) (hx : ρ x = .int .i64 n) (hy : ρ y = .int .i64 n) (w : World) : (execOp ρ o).run Try.prog w = .ok (.value (.bool false)) w := by
  have tn : (n == n) = true := by simp
  unfold execOp
  simp only [hop, hx, hy]
  go_simp
theorem runy_neb {x y : Operand} {b : Bool} (hop : o.op = .binOp .neq 4 x y 4) (hx : ρ x = .bool b) (hy : ρ y = .bool b) (w : World) : (execOp ρ o).run Try.prog w = .ok (.value (.bool false)) w := by
  have tb : (b == b) = true := by simp
  unfold execOp
  simp only [hop, hx, hy]
  go_simp
theorem runy_stop {x y : Operand} {u v : Value} {ts : Array TypeId} (hop : o.op = .call { callee := .value (.func 10), args := #[x, y], argTypes := ts })
    (hf : ρ (.func 10) = .func (.func 10) #[] #[]) (hx : ρ x = u) (hy : ρ y = v) (w : World) : (execOp ρ o).run Try.prog w = .ok (.enter 10 #[u, v]) w := by
  unfold execOp
  simp only [hop]
  simp only [resolve, hf, hx, hy, List.map_toArray, List.map_cons, List.map_nil]
  go_simp
theorem runy_rstop {x y z : Operand} {u v t : Value} {ts : Array TypeId} (hop : o.op = .call { callee := .value (.func 11), args := #[x, y, z], argTypes := ts })
    (hf : ρ (.func 11) = .func (.func 11) #[] #[]) (hx : ρ x = u) (hy : ρ y = v) (hz : ρ z = t) (w : World) : (execOp ρ o).run Try.prog w = .ok (.enter 11 #[u, v, t]) w := by
  unfold execOp
  simp only [hop]
  simp only [resolve, hf, hx, hy, hz, List.map_toArray, List.map_cons, List.map_nil]
  go_simp
theorem runy_drop {x y : Operand} {u v : Value} {ts : Array TypeId} (hop : o.op = .call { callee := .value (.func 12), args := #[x, y], argTypes := ts })
    (hf : ρ (.func 12) = .func (.func 12) #[] #[]) (hx : ρ x = u) (hy : ρ y = v) (w : World) : (execOp ρ o).run Try.prog w = .ok (.enter 12 #[u, v]) w := by
  unfold execOp
  simp only [hop]
  simp only [resolve, hf, hx, hy, List.map_toArray, List.map_cons, List.map_nil]
  go_simp
theorem runy_rdrop {x y : Operand} {u v : Value} {ts : Array TypeId} (hop : o.op = .call { callee := .value (.func 13), args := #[x, y], argTypes := ts })
    (hf : ρ (.func 13) = .func (.func 13) #[] #[]) (hx : ρ x = u) (hy : ρ y = v) (w : World) : (execOp ρ o).run Try.prog w = .ok (.enter 13 #[u, v]) w := by
  unfold execOp
  simp only [hop]
  simp only [resolve, hf, hx, hy, List.map_toArray, List.map_cons, List.map_nil]
  go_simp
theorem runy_due {x y : Operand} {u v : Value} {ts : Array TypeId} (hop : o.op = .call { callee := .value (.func 14), args := #[x, y], argTypes := ts })
    (hf : ρ (.func 14) = .func (.func 14) #[] #[]) (hx : ρ x = u) (hy : ρ y = v) (w : World) : (execOp ρ o).run Try.prog w = .ok (.enter 14 #[u, v]) w := by
  unfold execOp
  simp only [hop]
  simp only [resolve, hf, hx, hy, List.map_toArray, List.map_cons, List.map_nil]
  go_simp
theorem runy_rdue {x y : Operand} {u v : Value} {ts : Array TypeId} (hop : o.op = .call { callee := .value (.func 15), args := #[x, y], argTypes := ts })
    (hf : ρ (.func 15) = .func (.func 15) #[] #[]) (hx : ρ x = u) (hy : ρ y = v) (w : World) : (execOp ρ o).run Try.prog w = .ok (.enter 15 #[u, v]) w := by
  unfold execOp
  simp only [hop]
  simp only [resolve, hf, hx, hy, List.map_toArray, List.map_cons, List.map_nil]
  go_simp
theorem runy_start {x y z t : Operand} {u v a b : Value} {ts : Array TypeId} (hop : o.op = .call { callee := .value (.func 16), args := #[x, y, z, t], argTypes := ts })
    (hf : ρ (.func 16) = .func (.func 16) #[] #[]) (hx : ρ x = u) (hy : ρ y = v) (hz : ρ z = a) (ht : ρ t = b) (w : World) : (execOp ρ o).run Try.prog w = .ok (.enter 16 #[u, v, a, b]) w := by
  unfold execOp
  simp only [hop]
  simp only [resolve, hf, hx, hy, hz, ht, List.map_toArray, List.map_cons, List.map_nil]
  go_simp
theorem runy_rstart {x y z t r : Operand} {u v a b c : Value} {ts : Array TypeId} (hop : o.op = .call { callee := .value (.func 17), args := #[x, y, z, t, r], argTypes := ts })
    (hf : ρ (.func 17) = .func (.func 17) #[] #[]) (hx : ρ x = u) (hy : ρ y = v) (hz : ρ z = a) (ht : ρ t = b) (hr : ρ r = c) (w : World) : (execOp ρ o).run Try.prog w = .ok (.enter 17 #[u, v, a, b, c]) w := by
  unfold execOp
  simp only [hop]
  simp only [resolve, hf, hx, hy, hz, ht, hr, List.map_toArray, List.map_cons, List.map_nil]
  go_simp
end

section
variable {β : Type} {P : Program} {ops : Array Oper} {Q : Exit → Act → World → Prop} {i : Nat} {o : Oper} {a : Act} {w w' : World} {N : Nat} {dst : Nat → Option Nat} {val : β → Nat → Value} {J : β → Array Bool → World → Prop} {l : Array Bool}
/-- a call whose answer becomes the parameter -/
theorem grow_call (b : β) {f : Nat} {args : Array Value} (hi : ops[i]? = some o) (hw : Region.wanted o (yielded ops a.tmps) = true) (hrun : (execOp a.eval o).run P w = .ok (.enter f args) w') (hdst : o.dst = dst i)
    (h : Calls P f args w' fun e w'' => ∃ b', e = .returned (val b' i) ∧ (∀ j, j < N → l.getD j false = true → val b' j = val b j) ∧ J b' (l.setIfInBounds i true) w'') :
    wpOp P ops Q i (fun a' w' => ∃ b', (∀ j, j < N → l.getD j false = true → val b' j = val b j) ∧ a' = a.put (dst i) (val b' i) ∧ J b' (l.setIfInBounds i true) w') a w := by
  unfold wpOp
  simp only [hi, hw, if_true]
  refine Or.inl ?_
  unfold Oper.wp
  rw [hrun]
  refine h.mono ?_
  rintro e w'' ⟨b', rfl, hv, hk⟩
  exact ⟨b', hv, by rw [hdst], hk⟩
end
end Go.Proofs.Ytalpfcckdjipoaa
