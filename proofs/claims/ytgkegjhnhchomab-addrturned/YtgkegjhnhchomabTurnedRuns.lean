/-
  What each kind of operation of the region 'a, b, c := Make(..), Make(..), Make(..)' of AddrTurned does, whatever the frame.
-/
import Derived.Test.YtgkegjhnhchomabRegionInv
import Derived.Test.YtgkegjhnhchomabMakeWalks
import Derived.Deep.RegionWith
namespace Go.Proofs.Ytgkegjhnhchomab
open Go.RowKit
set_option linter.unusedVariables false
set_option linter.unusedSimpArgs false

def There (w : World) (B : Nat) : Prop := (∃ u v z, w.cell? ⟨B, 0, none⟩ = some u ∧ w.cell? ⟨B, 1, none⟩ = some v ∧ w.cell? ⟨B, 2, none⟩ = some z) ∧ w.frozen? ⟨B, 0, none⟩ = false ∧ w.frozen? ⟨B, 1, none⟩ = false ∧ w.frozen? ⟨B, 2, none⟩ = false

theorem run_move {ρ : Operand → Value} {o : Oper} {x : Operand} (hop : o.op = .move x) (w : World) : (execOp ρ o).run Try.prog w = .ok (.value (ρ x)) w := by
  unfold execOp
  simp only [hop]
  rfl
theorem run_not {ρ : Operand → Value} {o : Oper} {x : Operand} {c : Bool} (hop : o.op = .unOp .not 4 x) (hx : ρ x = .bool c) (w : World) : (execOp ρ o).run Try.prog w = .ok (.value (.bool (!c))) w := by
  unfold execOp
  simp only [hop, hx]
  rfl
theorem run_load {ρ : Operand → Value} {o : Oper} {x : Operand} {L : Nat} {a b : Int} {w : World} (hop : o.op = .load 25 x) (hx : ρ x = .pointer (some ⟨L, 0, none⟩))
    (h0 : w.cell? ⟨L, 0, none⟩ = some (.int .i64 a)) (h1 : w.cell? ⟨L, 1, none⟩ = some (.int .i64 b)) : (execOp ρ o).run Try.prog w = .ok (.value (.agg #[.int .i64 a, .int .i64 b])) w := by
  unfold execOp
  simp only [hop, hx]
  go_simp
theorem run_alloc {ρ : Operand → Value} {o : Oper} (hop : o.op = .alloc 27) (w : World) : (execOp ρ o).run Try.prog w = .ok (.value (.pointer (some ⟨w.heap.size, 0, none⟩))) (w.alloc (.cells #[.int .i64 0, .int .i64 0, .bool false] 27)) := by
  unfold execOp
  simp only [hop]
  go_simp
theorem run_make {ρ : Operand → Value} {o : Oper} {x y z : Operand} {u v t : Value} (hop : o.op = .call { callee := .value (.func 4), args := #[x, y, z], argTypes := #[25, 4, 4] })
    (hf : ρ (.func 4) = .func (.func 4) #[] #[]) (hx : ρ x = u) (hy : ρ y = v) (hz : ρ z = t) (w : World) : (execOp ρ o).run Try.prog w = .ok (.enter 4 #[u, v, t]) w := by
  unfold execOp
  simp only [hop]
  simp only [resolve, hf, hx, hy, hz, List.map_toArray, List.map_cons, List.map_nil]
  go_simp
theorem run_store {ρ : Operand → Value} {o : Oper} {x y : Operand} {B : Nat} {a b : Int} {m : Bool} {w : World} (hop : o.op = .store 27 x y) (hx : ρ x = .pointer (some ⟨B, 0, none⟩)) (hy : ρ y = .agg #[.int .i64 a, .int .i64 b, .bool m]) (ht : There w B) :
    (execOp ρ o).run Try.prog w = .ok .skip (((w.setCell ⟨B, 0, none⟩ (.int .i64 a)).setCell ⟨B, 1, none⟩ (.int .i64 b)).setCell ⟨B, 2, none⟩ (.bool m)) := by
  obtain ⟨⟨u, v, z, h0, h1, h2⟩, f0, f1, f2⟩ := ht
  unfold execOp
  simp only [hop, hx, hy]
  go_simp
end Go.Proofs.Ytgkegjhnhchomab
