/-
  The walk of the law TeimsgGets: it returns true.
-/
import Derived.Test.YtfpdkdaoomakgaaTeimsgSame
import Derived.Test.YtfpdkdaoomakgaaRefTeimsgGet
namespace Go.Proofs.Ytfpdkdaoomakgaa
open Go.RowKit
set_option linter.unusedVariables false
set_option linter.unusedSimpArgs false

theorem tget_one : Tm.getRes ⟨#[15, 1, 2, 1, 255]⟩ = ((1, 258, 127), 0) := by decide

set_option maxHeartbeats 1000000 in
set_option maxRecDepth 100000 in
theorem walk_TeimsgGets (s : ByteArray) (w : World) (hs : s.size ≤ 140737488351232) :
    Calls Try.prog 4 #[.string s] w fun e w' => e = .returned (.bool true) ∧ Below w.heap.size w w' := by
  have hP := tget_any s w hs
  have hR := fun W => ref_tget_any s W hs
  generalize Tm.getRes s = R at hP hR
  obtain ⟨⟨t, ri, ai⟩, e0⟩ := R
  simp only [tgetV, msgV] at hP hR
  have hO := fun W => tget_any ⟨#[15, 1, 2, 1, 255]⟩ W (by decide)
  rw [tget_one] at hO
  simp only [tgetV, msgV] at hO
  have te : (e0 == e0) = true := by simp
  go_enter Try.func4, Try.ntmps4
  go_wp2_with fail
  refine hP.mono ?_
  rintro e w1 ⟨rfl, hb1⟩
  clear hP
  have hM1 := msg3_new w1 t ri ai 29
  have hq1 := hb1.alloc hb1.size (.cells #[.int .i64 t, .int .i64 ri, .int .i64 ai] 29)
  clear hb1
  go_wp2_with fail
  refine (hR _).mono ?_
  rintro e w2 ⟨rfl, hb2⟩
  clear hR
  have hM2 := hM1.later hb2
  have hq2 := hq1.trans (hb2.mono hq1.size)
  clear hM1 hq1 hb2
  have hN2 := msg3_new w2 t ri ai 33
  have hM3 := hM2.later ((Below.refl _ _).alloc (Nat.le_refl _) (.cells #[.int .i64 t, .int .i64 ri, .int .i64 ai] 33))
  have hq3 := hq2.alloc hq2.size (.cells #[.int .i64 t, .int .i64 ri, .int .i64 ai] 33)
  clear hM2 hq2
  go_wp2_with fail
  refine (hO _).mono ?_
  rintro e w3 ⟨rfl, hb3⟩
  clear hO
  have hq4 := hq3.trans (hb3.mono hq3.size)
  obtain ⟨l0, m0, m1, m2⟩ := hM3.later hb3
  obtain ⟨l1, k0, k1, k2⟩ := hN2.later hb3
  clear hM3 hN2 hq3 hb3
  go_wp2_with fail
  refine (tsame_any t ri ai _).mono ?_
  rintro e w4 ⟨rfl, hb4⟩
  have hq5 := (hq4.alloc hq4.size (.cells #[.int .i64 1, .int .i64 258, .int .i64 127] 29)).trans (hb4.mono (hq4.alloc hq4.size _).size)
  go_wp2
  go_ret
  exact ⟨by simp, hq5⟩
end Go.Proofs.Ytfpdkdaoomakgaa
