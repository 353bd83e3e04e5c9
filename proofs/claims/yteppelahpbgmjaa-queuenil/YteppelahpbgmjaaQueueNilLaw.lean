/-
  The law QueueNil's walk: of a nil queue nothing is there; what a queue tells of its payloads is nobody else's.
-/
import Derived.Test.YteppelahpbgmjaaQueWakes
import Derived.Test.YteppelahpbgmjaaQueNil
namespace Go.Proofs.Yteppelahpbgmjaa
open Go.RowKit
set_option linter.unusedVariables false
set_option linter.unusedSimpArgs false

theorem list_one {w : World} {base : Nat} {v : Value} {x : ByteArray} {n : Nat} {vs : List Value} (h : w.ownsRow base 9 1 v n vs) (hn : n = 1) (hvs : vs = [.string x]) : ∃ g off cap, v = .slice (some ⟨g, off, none⟩) 1 cap ∧ base ≤ g ∧ g < w.heap.size ∧ w.cell? ⟨g, off, none⟩ = some (.string x) ∧ w.frozen? ⟨g, off, none⟩ = false ∧ 1 ≤ cap := by
  subst hn hvs
  obtain ⟨a, cap, G, rfl, hS, hG⟩ := own_srow (L := [x]) rfl h
  rcases hS.row with ⟨_, _, h3⟩ | ⟨g, off, rfl, rfl, hlt, hc, hf⟩
  · have := hS.le; simp at this; omega
  · have hc0 := hc 0 (by simp)
    have hf0 := hf 0 (by have := hS.le; simp at this; omega)
    exact ⟨g, off, cap, rfl, (hG g rfl).1, hlt, hc0, hf0.2, by have := hS.le; simpa using this⟩

set_option maxHeartbeats 2000000 in
set_option maxRecDepth 100000 in
theorem walk_QueueNil (s : ByteArray) (n : Int) (w : World) (hs0 : s.size ≤ 140737488351232) (hn0 : -9223372036854775808 ≤ n ∧ n ≤ 9223372036854775807) : Calls Try.prog 5 #[.string s, .int .i64 n] w fun e w' => e = .returned (.bool true) ∧ Below w.heap.size w w' := by
  clear hs0 hn0
  go_enter Try.func5, Try.ntmps5
  go_wp2_with fail
  refine (take_nil _).mono ?_
  rintro e w0 ⟨rfl, rfl⟩
  go_wp2_with fail
  refine (new_any 3 _).mono ?_
  rintro e w1 ⟨rfl, hq1, hb1⟩
  have O1 : Own w0.heap.size w0 w1 w0.heap.size 3 [] 0 := own_new hq1 (Nat.le_refl _) hb1
  clear hq1 hb1
  obtain ⟨C, hC⟩ : ∃ C, C = w0.heap.size := ⟨_, rfl⟩
  rw [← hC] at O1 ⊢
  have HC : Hid (C = w0.heap.size) := hC
  clear hC
  go_wp2_with fail
  refine (own_push ⟨#[120]⟩ O1 (by decide)).mono ?_
  rintro e w2 ⟨rfl, O2⟩
  rw [show Qm.pushN 3 [] ⟨#[120]⟩ = 0 from rfl]
  replace O2 : Own C w0 w2 C 3 [⟨#[120]⟩] 0 := O2
  clear O1
  go_wp2_with fail
  refine (own_list O2).mono ?_
  rintro e w3 ⟨v, rfl, hrow, hb3, _⟩
  obtain ⟨g, off, cap, rfl, hgb, hgl, hgc, hgf, hcap⟩ := list_one hrow rfl rfl
  clear hrow
  go_wp2_with fail
  refine (wakes_any _).mono ?_
  rintro e w4 ⟨rfl, hb4⟩
  have y1 := (hb4.cell (p := ⟨g, off, none⟩) hgl).trans hgc
  have y2 := (hb4.frozen (p := ⟨g, off, none⟩) hgl).trans hgf
  have y3 : g < w4.heap.size := Nat.lt_of_lt_of_le hgl hb4.size
  have O5 : Own C w0 (w4.setCell ⟨g, off, none⟩ (.string s)) C 3 [⟨#[120]⟩] 0 :=
    O2.below ((hb3.trans (hb4.mono hb3.size)).trans (((Kept.refl w4 (fun k => k = g)).setCell (p := ⟨g, off, none⟩) (fun _ => rfl) (.string s)).below (Nat.le_trans hb3.size hb4.size) (fun k e => by rw [e]; exact hgb)))
  clear hb3 hb4 O2 hgl hgc hgf
  go_wp2_with fail
  clear y1 y2 y3
  generalize w4.setCell ⟨g, off, none⟩ (.string s) = w5 at O5 ⊢
  refine (own_list O5).mono ?_
  rintro e w6 ⟨v, rfl, hrow, hb6, O6⟩
  obtain ⟨g2, off2, cap2, rfl, _, hgl, hgc, _, hcap2⟩ := list_one hrow rfl rfl
  clear hrow O5 hb6
  go_wp2_with fail
  refine (push_nil s _).mono ?_
  rintro e w7 ⟨rfl, rfl⟩
  go_wp2_with fail
  refine (done_nil n _).mono ?_
  rintro e w8 ⟨rfl, rfl⟩
  go_wp2_with fail
  refine (back_nil n _).mono ?_
  rintro e w9 ⟨rfl, rfl⟩
  go_wp2_with fail
  refine (sent_nil _).mono ?_
  rintro e w10 ⟨rfl, rfl⟩
  go_wp2_with fail
  refine (left_nil _).mono ?_
  rintro e w11 ⟨rfl, rfl⟩
  go_wp2_with fail
  refine (clear_nil _).mono ?_
  rintro e w12 ⟨rfl, rfl⟩
  go_wp2_with fail
  refine (list_nil _).mono ?_
  rintro e w13 ⟨rfl, rfl⟩
  have HE : Hid (Below C w0 w13) := O6.bel
  clear O6 hgc hgl
  go_wp2
  go_ret
  exact ⟨rfl, by rw [← HC.out]; exact HE.out⟩
end Go.Proofs.Yteppelahpbgmjaa
