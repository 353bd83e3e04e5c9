/-
  The law FlowNil's walk: of a nil flow nothing is there.
-/
import Derived.Test.YtejhhgpfkobjoaaFlowWakes
import Derived.Test.YtejhhgpfkobjoaaFlowNils
namespace Go.Proofs.Ytejhhgpfkobjoaa
open Go.RowKit
set_option linter.unusedVariables false
set_option linter.unusedSimpArgs false

set_option maxHeartbeats 4000000 in
set_option maxRecDepth 100000 in
theorem walk_FlowNil (d n : Int) (ne on : Bool) (s : ByteArray) (w : World) (hd : -9223372036854775808 ≤ d ∧ d ≤ 9223372036854775807) (hn : -9223372036854775808 ≤ n ∧ n ≤ 9223372036854775807) (hs : s.size ≤ 140737488351232) :
    Calls Try.prog 6 #[.agg #[.int .i64 d, .int .i64 n, .bool ne, .bool on, .string s]] w fun e w' => e = .returned (.bool true) ∧ Below w.heap.size w w' := by
  clear hd hn hs
  go_enter Try.func6, Try.ntmps6
  obtain ⟨W, hW⟩ : ∃ W, W = w.alloc (.cells #[.int .i64 d, .int .i64 n, .bool ne, .bool on, .string s] 30) := ⟨_, rfl⟩
  go_wp2_with fail
  rw [← hW]
  have c1 : W.cell? ⟨w.heap.size, 1, none⟩ = some (.int .i64 n) := by rw [hW]; simp
  have c3 : W.cell? ⟨w.heap.size, 3, none⟩ = some (.bool on) := by rw [hW]; simp
  have c4 : W.cell? ⟨w.heap.size, 4, none⟩ = some (.string s) := by rw [hW]; simp
  have hlt : w.heap.size < W.heap.size := by rw [hW]; simp
  have hb : Below w.heap.size w W := by rw [hW]; exact (Below.refl _ _).alloc (Nat.le_refl _) _
  clear hW
  obtain ⟨B, hB⟩ : ∃ B, B = w.heap.size := ⟨_, rfl⟩
  rw [← hB] at c1 c3 c4 hlt hb ⊢
  have HS : Hid (B = w.heap.size) := hB
  clear hB
  have HB : Hid (Below B w W) := hb
  clear hb
  refine (ftake_nil _).mono ?_
  rintro e w1 ⟨rfl, hb1⟩
  have d1 := (hb1.cell (p := ⟨B, 1, none⟩) hlt).trans c1
  have d3 := (hb1.cell (p := ⟨B, 3, none⟩) hlt).trans c3
  have d4 := (hb1.cell (p := ⟨B, 4, none⟩) hlt).trans c4
  have hlt1 := Nat.lt_of_lt_of_le hlt hb1.size
  have HB1 : Hid (Below B w w1) := HB.out.trans (hb1.mono (Nat.le_of_lt hlt))
  clear c1 c3 c4 hb1 HB
  go_wp2_with fail
  refine (fack_nil n _).mono ?_
  rintro e w2 ⟨rfl, rfl⟩
  go_wp2_with fail
  refine (fback_nil _).mono ?_
  rintro e w2 ⟨rfl, rfl⟩
  go_wp2_with fail
  refine (fpeer_nil on _).mono ?_
  rintro e w2 ⟨rfl, rfl⟩
  go_wp2_with fail
  refine (freset_nil _).mono ?_
  rintro e w2 ⟨rfl, rfl⟩
  go_wp2_with fail
  refine (flwakes_any _).mono ?_
  rintro e w3 ⟨rfl, hb3⟩
  have c3 := (hb3.cell (p := ⟨B, 3, none⟩) hlt1).trans d3
  have c1 := (hb3.cell (p := ⟨B, 1, none⟩) hlt1).trans d1
  have c4 := (hb3.cell (p := ⟨B, 4, none⟩) hlt1).trans d4
  have hlt := Nat.lt_of_lt_of_le hlt1 hb3.size
  have HB3 : Hid (Below B w w3) := HB1.out.trans (hb3.mono (Nat.le_of_lt hlt1))
  clear d1 d3 d4 hb3 HB1
  go_wp2_with fail
  refine (fview_nil _).mono ?_
  rintro e w4 ⟨rfl, hb4⟩
  have d1 := (hb4.cell (p := ⟨B, 1, none⟩) hlt).trans c1
  have d3 := (hb4.cell (p := ⟨B, 3, none⟩) hlt).trans c3
  have d4 := (hb4.cell (p := ⟨B, 4, none⟩) hlt).trans c4
  have hlt4 := Nat.lt_of_lt_of_le hlt hb4.size
  have HB4 : Hid (Below B w w4) := HB3.out.trans (hb4.mono (Nat.le_of_lt hlt))
  clear c1 c3 c4 hb4 HB3
  unfold vw0
  go_wp2_with fail
  refine (fpush_nil s _).mono ?_
  rintro e w5 ⟨rfl, rfl⟩
  go_wp2_with fail
  refine (fcome_nil n _).mono ?_
  rintro e w5 ⟨rfl, rfl⟩
  go_wp2_with fail
  refine (fown_nil on _).mono ?_
  rintro e w5 ⟨rfl, rfl⟩
  go_wp2_with fail
  refine (fclear_nil _).mono ?_
  rintro e w5 ⟨rfl, rfl⟩
  go_wp2
  go_ret
  exact ⟨rfl, by rw [← HS.out]; exact HB4.out⟩
end Go.Proofs.Ytejhhgpfkobjoaa
