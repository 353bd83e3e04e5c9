/-
  What the document fixes.
-/
import Derived.Test.YtalpfcckdjipoaaClkOwn
namespace Go.Proofs.Ytalpfcckdjipoaa
open Go.RowKit Go.Maps
set_option linter.unusedVariables false
set_option linter.unusedSimpArgs false

theorem ink (a b : Int) (ha : -9223372036854775808 ≤ a ∧ a ≤ 9223372036854775807) (hb : -9223372036854775808 ≤ b ∧ b ≤ 9223372036854775807) : InK (a, b) := ⟨ha, hb⟩

/-- a row of its own that isn't empty -/
theorem own_cells {w : World} {base n : Nat} {v : Value} {xs : List Value} (h : w.ownsRow base 33 2 v n xs) (hn : 0 < n) : ∃ g cap, v = .slice (some ⟨g, 0, none⟩) n cap ∧ n ≤ cap ∧ g < w.heap.size ∧ ∀ j u, xs[j]? = some u → w.cell? ⟨g, j, none⟩ = some u := by
  have h0 := h
  rcases h.2 with ⟨_, h'⟩ | ⟨g, cap, cur, rfl, hb, hgg, hle, hm, _⟩
  · omega
  · refine ⟨g, cap, rfl, hle, (Array.getElem?_eq_some_iff.1 hgg).1, fun j u hu => ?_⟩
    have := h0.cells (g := g) rfl j u hu
    rw [addr_at] at this
    exact this
theorem own_empty {w : World} {base : Nat} {v : Value} {xs : List Value} (h : w.ownsRow base 33 2 v 0 xs) : ∃ a cap, v = .slice a 0 cap := by
  rcases h.2 with ⟨rfl, _⟩ | ⟨g, cap, cur, rfl, _⟩
  · exact ⟨_, _, rfl⟩
  · exact ⟨_, _, rfl⟩

set_option maxHeartbeats 2000000 in
set_option maxRecDepth 100000 in
theorem wakes_any (w : World) : Calls Try.prog 9 #[] w fun e w' => e = .returned (.bool true) ∧ Below w.heap.size w w' := by
  go_enter Try.func9, Try.ntmps9
  go_wp2_with fail
  refine (new_any _).mono ?_
  rintro e w1 ⟨rfl, hc1, hb1⟩
  have M1 : Hid (Mine w.heap.size w1 w.heap.size none 0 []) := ⟨hc1, Nat.le_refl _, fun B hB => by cases hB⟩
  have s1 : w.heap.size ≤ w1.heap.size := hb1.size
  have B1 : Hid (Below w.heap.size w w1) := hb1
  clear hc1 hb1
  go_wp2_with fail
  refine (start_any w.heap.size 0 none [] (1, 0) 5 10 w1 M1.out.clk (ink _ _ (by decide) (by decide)) (by decide) (by unfold Km.In; decide) (by unfold Km.In; decide)).mono ?_
  rintro e w2 ⟨rfl, hm⟩
  have e2 : startT (1, 0) 5 10 [] = [(15, 1, 0)] := by decide
  have n2 : startN 5 10 = 0 := by decide
  rw [e2] at hm
  rw [n2]
  obtain ⟨m2, h2, hb2, -, -⟩ := M1.out.moved hm s1
  have M2 : Hid (Mine w.heap.size w2 w.heap.size m2 1 [(15, 1, 0)]) := h2
  have B2 : Hid (Below w.heap.size w w2) := B1.out.trans hb2
  have s2 : w.heap.size ≤ w2.heap.size := B2.out.size
  clear hm e2 n2 h2 hb2 M1 B1
  go_wp2_with fail
  refine (start_any w.heap.size 1 m2 [(15, 1, 0)] (2, 0) 5 3 w2 M2.out.clk (ink _ _ (by decide) (by decide)) (by decide) (by unfold Km.In; decide) (by unfold Km.In; decide)).mono ?_
  rintro e w3 ⟨rfl, hm⟩
  have e3 : startT (2, 0) 5 3 [(15, 1, 0)] = [(8, 2, 0), (15, 1, 0)] := by decide
  have n3 : startN 5 3 = 0 := by decide
  rw [e3] at hm
  rw [n3]
  obtain ⟨m3, h3, hb3, -, -⟩ := M2.out.moved hm s2
  have M3 : Hid (Mine w.heap.size w3 w.heap.size m3 2 [(8, 2, 0), (15, 1, 0)]) := h3
  have B3 : Hid (Below w.heap.size w w3) := B2.out.trans hb3
  have s3 : w.heap.size ≤ w3.heap.size := B3.out.size
  clear hm e3 n3 h3 hb3 M2 B2
  go_wp2_with fail
  refine (next_any w.heap.size 2 m3 _ w3 M3.out.clk).mono ?_
  rintro e w4 ⟨rfl, hb4⟩
  have e4 : Km.nextN [(8, 2, 0), (15, 1, 0)] = 8 := by decide
  have n4 : Km.nextB [(8, 2, 0), (15, 1, 0)] = true := by decide
  rw [e4, n4]
  have M4 : Hid (Mine w.heap.size w4 w.heap.size m3 2 [(8, 2, 0), (15, 1, 0)]) := M3.out.below hb4
  have B4 : Hid (Below w.heap.size w w4) := B3.out.trans (hb4.mono s3)
  have s4 : w.heap.size ≤ w4.heap.size := B4.out.size
  clear e4 n4 hb4 M3 B3
  go_wp2_with fail
  refine (due_any w.heap.size 2 m3 _ 15 w4 M4.out.clk (by decide)).mono ?_
  rintro e w5 ⟨v, rfl, ho, hc5, hk5⟩
  have e5 : (Km.dueL 15 [(8, 2, 0), (15, 1, 0)]).map (·.2) = [(2, 0), (1, 0)] := by decide
  rw [e5] at ho
  obtain ⟨h5, hb5⟩ := M4.out.due hc5 hk5 s4
  have B5 : Hid (Below w.heap.size w w5) := B4.out.trans hb5
  obtain ⟨g, cap, rfl, hcap, hgl, hcell⟩ := own_cells ho (by decide)
  have c0 := hcell 0 _ rfl
  have c2 := hcell 2 _ rfl
  have hgs := hcap
  clear e5 ho hc5 hk5 h5 hb5 M4 B4 hcell
  go_wp2
  go_ret
  exact ⟨rfl, B5.out⟩
end Go.Proofs.Ytalpfcckdjipoaa
