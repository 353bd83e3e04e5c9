/-
  The walk of the law AddrTurned: it returns true.
-/
import Derived.Test.YtgkegjhnhchomabTurnedRegion
import Derived.Test.YtgkegjhnhchomabAddrWakes
namespace Go.Proofs.Ytgkegjhnhchomab
open Go.RowKit
set_option linter.unusedVariables false
set_option linter.unusedSimpArgs false

theorem shape_of {ops : Array Oper} (hs : ops.size = 21) (hop : ∀ i, i < 21 → ∃ o, ops[i]? = some o ∧ o.guard = none ∧ o.op = tabOp i ∧ o.dst = tabDst i)
    (hlow : ((List.range 21).all fun i => (depsOf .any ops i).all fun j => decide (j < i)) = true) (hneed : ((List.range 21).all fun i => (need i).all fun j => (depsOf .any ops i).contains j) = true) : Shape ops := by
  refine ⟨hs, hop, fun i hi j hj => ?_, fun i hi j hj => ?_⟩
  · have := List.all_eq_true.1 (List.all_eq_true.1 hlow i (List.mem_range.2 hi)) j hj
    simpa using this
  · have := List.all_eq_true.1 (List.all_eq_true.1 hneed i (List.mem_range.2 hi)) j hj
    simpa using this

set_option maxHeartbeats 2000000 in
set_option maxRecDepth 100000 in
theorem walk_AddrTurned (a b : Int) (c k n : Bool) (w : World) (ha : -9223372036854775808 ≤ a ∧ a ≤ 9223372036854775807) (hb : -9223372036854775808 ≤ b ∧ b ≤ 9223372036854775807) :
    Calls Try.prog 3 #[.agg #[.int .i64 a, .int .i64 b, .bool c], .bool k, .bool n] w fun e w' => e = .returned (.bool true) ∧ Below w.heap.size w w' := by
  go_enter Try.func3, Try.ntmps3
  go_wp2
  have e1 : (w.alloc (.cells #[.int .i64 a, .int .i64 b, .bool c] 23)).heap.size = w.heap.size + 1 := by simp
  have hq0 : Below w.heap.size w ((w.alloc (.cells #[.int .i64 a, .int .i64 b, .bool c] 23)).alloc (.cells #[.int .i64 a, .int .i64 b] 25)) := ((Below.refl _ _).alloc (Nat.le_refl _) _).alloc (by simp) _
  refine turned_region (L := w.heap.size + 1) (x := a) (y := b) (k := k) (n := n) ?S ?h65 ?h1 ?h2 ?h7 ?hu ?l0 ?l1 ?hK
  case S =>
    refine shape_of rfl ?_ (by kernel_rfl) (by kernel_rfl)
    intro i hi
    match i, hi with
      | 0, _ => exact ⟨_, rfl, rfl, rfl, rfl⟩
      | 1, _ => exact ⟨_, rfl, rfl, rfl, rfl⟩
      | 2, _ => exact ⟨_, rfl, rfl, rfl, rfl⟩
      | 3, _ => exact ⟨_, rfl, rfl, rfl, rfl⟩
      | 4, _ => exact ⟨_, rfl, rfl, rfl, rfl⟩
      | 5, _ => exact ⟨_, rfl, rfl, rfl, rfl⟩
      | 6, _ => exact ⟨_, rfl, rfl, rfl, rfl⟩
      | 7, _ => exact ⟨_, rfl, rfl, rfl, rfl⟩
      | 8, _ => exact ⟨_, rfl, rfl, rfl, rfl⟩
      | 9, _ => exact ⟨_, rfl, rfl, rfl, rfl⟩
      | 10, _ => exact ⟨_, rfl, rfl, rfl, rfl⟩
      | 11, _ => exact ⟨_, rfl, rfl, rfl, rfl⟩
      | 12, _ => exact ⟨_, rfl, rfl, rfl, rfl⟩
      | 13, _ => exact ⟨_, rfl, rfl, rfl, rfl⟩
      | 14, _ => exact ⟨_, rfl, rfl, rfl, rfl⟩
      | 15, _ => exact ⟨_, rfl, rfl, rfl, rfl⟩
      | 16, _ => exact ⟨_, rfl, rfl, rfl, rfl⟩
      | 17, _ => exact ⟨_, rfl, rfl, rfl, rfl⟩
      | 18, _ => exact ⟨_, rfl, rfl, rfl, rfl⟩
      | 19, _ => exact ⟨_, rfl, rfl, rfl, rfl⟩
      | 20, _ => exact ⟨_, rfl, rfl, rfl, rfl⟩
      | j + 21, hlt => exact absurd hlt (by omega)
  case h65 => show (31 : Nat) ≤ 65; decide
  case h1 => rfl
  case h2 => rfl
  case h7 => rfl
  case hu =>
    intro s hs B
    rcases hs with rfl | rfl | rfl <;> exact fun h => by cases h
  case l0 => rw [← e1]; simp
  case l1 => rw [← e1]; simp
  case hK =>
    intro B8 B9 B10 w1 hb1 z8 z9 z10 l0 l1 c8 c9 c10
    have hq1 : Below w.heap.size w w1 := hq0.trans (hb1.mono hq0.size)
    have hzL : w.heap.size + 1 < w1.heap.size := by have := hb1.size; simp at this; omega
    obtain ⟨m, hm⟩ : ∃ m, m = (k == n) := ⟨_, rfl⟩
    rw [← hm] at c8
    rw [show ((!k) == (!n)) = m by rw [hm]; cases k <;> cases n <;> rfl] at c9
    rw [show ((!k) == n) = !m by rw [hm]; cases k <;> cases n <;> rfl] at c10
    have t1 : ((m == n) == k) = true := by rw [hm]; cases k <;> cases n <;> rfl
    have t2 : (!((m == !n) == k)) = true := by rw [hm]; cases k <;> cases n <;> rfl
    have t3 : (!(m == !m)) = true := by cases m <;> rfl
    clear hm hb1 hq0 e1
    simp only [Act.put, List.setIfInBounds_toArray, List.set_cons_zero, List.set_cons_succ]
    go_wp2_with fail
    refine (wakes_any _).mono ?_
    rintro e w2 ⟨rfl, hb2⟩
    have q0 := (hb2.cell (p := ⟨w.heap.size + 1, 0, none⟩) hzL).trans l0
    have q1 := (hb2.cell (p := ⟨w.heap.size + 1, 1, none⟩) hzL).trans l1
    obtain ⟨u0, u1, u2⟩ := c8.later z8 hb2
    obtain ⟨v0, v1, v2⟩ := c9.later z9 hb2
    obtain ⟨x0, x1, x2⟩ := c10.later z10 hb2
    have hq2 := hq1.trans (hb2.mono hq1.size)
    clear c8 c9 c10 l0 l1 hb2 z8 z9 z10
    go_wp2_with fail
    refine (command_any a b m n _).mono ?_
    rintro e w3 ⟨rfl, hb3⟩
    have r0 := (hb3.cell (p := ⟨B8, 0, none⟩) (cell_lt u0)).trans u0
    have r1 := (hb3.cell (p := ⟨B8, 1, none⟩) (cell_lt u0)).trans u1
    have r2 := (hb3.cell (p := ⟨B8, 2, none⟩) (cell_lt u0)).trans u2
    have hq3 := hq2.trans (hb3.mono hq2.size)
    clear u0 u1 u2 v0 v1 v2 x0 x1 x2 q0 q1 hb3
    go_wp2_with fail
    refine (command_any a b m (!n) _).mono ?_
    rintro e w4 ⟨rfl, hb4⟩
    clear r0 r1 r2
    go_wp2
    go_ret
    exact ⟨rfl, hq3.trans (hb4.mono hq3.size)⟩
end Go.Proofs.Ytgkegjhnhchomab
