/-
  The walk of the law TeimsgOf: it returns true.
-/
import Derived.Test.YtfpdkdaoomakgaaFrameFrames7
import Derived.Test.YtfpdkdaoomakgaaRefTeimsgOf
import Derived.Test.YtfpdkdaoomakgaaTeimsgSame
import Derived.Test.YtfpdkdaoomakgaaTeimsgWakes
namespace Go.Proofs.Ytfpdkdaoomakgaa
open Go.RowKit
set_option linter.unusedVariables false
set_option linter.unusedSimpArgs false

set_option maxHeartbeats 2000000 in
set_option maxRecDepth 100000 in
theorem walk_TeimsgOf (sapi tei : Int) (c : Bool) (k : Int) (pf : Bool) (ns nr : Int) (info : ByteArray) (network : Bool) (w : World) (h0 : -9223372036854775808 ≤ sapi ∧ sapi ≤ 9223372036854775807) (h1 : -9223372036854775808 ≤ tei ∧ tei ≤ 9223372036854775807) (h2 : -9223372036854775808 ≤ k ∧ k ≤ 9223372036854775807) (h3 : -9223372036854775808 ≤ ns ∧ ns ≤ 9223372036854775807) (h4 : -9223372036854775808 ≤ nr ∧ nr ≤ 9223372036854775807) (hi : info.size ≤ 140737488351232) :
    Calls Try.prog 5 #[.agg #[.int .i64 sapi, .int .i64 tei, .bool c, .int .i64 k, .bool pf, .int .i64 ns, .int .i64 nr, .string info], .bool network] w fun e w' => e = .returned (.bool true) ∧ Below w.heap.size w w' := by
  clear h0 h1 h2 h3 h4
  have hq0 : Below w.heap.size w (w.alloc (.cells #[.int .i64 sapi, .int .i64 tei, .bool c, .int .i64 k, .bool pf, .int .i64 ns, .int .i64 nr, .string info] 55)) := (Below.refl w.heap.size w).alloc (Nat.le_refl _) _
  have hP := fun W => tof_any sapi tei c k pf ns nr info network W hi
  have hR := fun W => ref_tof_any sapi tei c k pf ns nr info network W hi
  generalize Tm.ofRes sapi tei c k info network = R at hP hR
  obtain ⟨⟨t, ri, ai⟩, ok⟩ := R
  simp only [tofV, msgV] at hP hR
  have tk : (ok == ok) = true := by simp
  go_enter Try.func5, Try.ntmps5
  go_wp2_with fail
  refine (frames7_any sapi tei c k pf ns nr info _).mono ?_
  rintro e w1 ⟨rfl, hb1⟩
  have hq1 := hq0.trans (hb1.mono hq0.size)
  clear hb1 hq0
  simp only [frA]
  have hqa : Below w1.heap.size w1 ((w1.alloc (.cells #[.int .i64 sapi, .int .i64 tei, .bool c, .int .i64 k, .bool pf, .int .i64 ns, .int .i64 nr, .string info] 38)).alloc (.cells #[.int .i64 sapi, .int .i64 tei, .bool c, .int .i64 k, .bool pf, .int .i64 ns, .int .i64 nr, .string info] 42)) := ((Below.refl _ _).alloc (Nat.le_refl _) _).alloc (by simp) _
  have hqb := hq1.trans (hqa.mono hq1.size)
  have hB0 := frc_new (w1.alloc (.cells #[.int .i64 sapi, .int .i64 tei, .bool c, .int .i64 k, .bool pf, .int .i64 ns, .int .i64 nr, .string info] 38)) sapi tei c k pf ns nr info 42
  rw [show (w1.alloc (.cells #[.int .i64 sapi, .int .i64 tei, .bool c, .int .i64 k, .bool pf, .int .i64 ns, .int .i64 nr, .string info] 38)).heap.size = w1.heap.size + 1 from by simp] at hB0
  clear hqa
  go_wp2_with fail
  refine (hP _).mono ?_
  rintro e w2 ⟨rfl, hb2⟩
  clear hP
  have hq2 := hqb.trans (hb2.mono hqb.size)
  have hB2 := hB0.later hb2
  clear hqb hB0 hb2
  have hM2 := msg3_new w2 t ri ai 29
  have hq3 := hq2.alloc hq2.size (.cells #[.int .i64 t, .int .i64 ri, .int .i64 ai] 29)
  obtain ⟨l0, a0, a1, a2, a3, a4, a5, a6, a7⟩ := hB2
  go_wp2_with fail
  refine (hR _).mono ?_
  rintro e w3 ⟨rfl, hb3⟩
  clear hR l0 a0 a1 a2 a3 a4 a5 a6 a7
  have hq4 := hq3.trans (hb3.mono hq3.size)
  have hM3 := hM2.later hb3
  clear hq3 hM2 hb3 hq2
  have hN3 := msg3_new w3 t ri ai 33
  have hM4 := hM3.later ((Below.refl _ _).alloc (Nat.le_refl _) (.cells #[.int .i64 t, .int .i64 ri, .int .i64 ai] 33))
  have hq5 := hq4.alloc hq4.size (.cells #[.int .i64 t, .int .i64 ri, .int .i64 ai] 33)
  clear hM3 hq4
  go_wp2_with fail
  refine (twakes_any _).mono ?_
  rintro e w4 ⟨rfl, hb4⟩
  have hq6 := hq5.trans (hb4.mono hq5.size)
  obtain ⟨m0, x0, x1, x2⟩ := hM4.later hb4
  obtain ⟨n0, y0, y1, y2⟩ := hN3.later hb4
  clear hM4 hN3 hb4 hq5
  go_wp2_with fail
  refine (tsame_any t ri ai _).mono ?_
  rintro e w5 ⟨rfl, hb5⟩
  go_wp2
  go_ret
  exact ⟨by simp, hq6.trans (hb5.mono hq6.size)⟩
end Go.Proofs.Ytfpdkdaoomakgaa
