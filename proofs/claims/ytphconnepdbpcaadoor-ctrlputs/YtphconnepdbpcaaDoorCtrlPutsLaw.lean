/-
  The walk of the law CtrlPuts: it returns true.
-/
import Derived.Test.YtphconnepdbpcaaDoorCtrlWakes
import Derived.Test.YtphconnepdbpcaaDoorCtrlRefPut
namespace Go.Proofs.YtphconnepdbpcaaDoor
open Go.RowKit
set_option linter.unusedVariables false
set_option linter.unusedSimpArgs false

set_option maxHeartbeats 400000 in
theorem walk_CtrlPuts (k : Int) (pf : Bool) (ns nr : Int) (w : World) (hk : -9223372036854775808 ≤ k ∧ k ≤ 9223372036854775807) (hns : -9223372036854775808 ≤ ns ∧ ns ≤ 9223372036854775807) (hnr : -9223372036854775808 ≤ nr ∧ nr ≤ 9223372036854775807) (hT : First w) (hN : Names w) :
    Calls Tryd.prog 4 #[.agg #[.int .i64 k, .bool pf, .int .i64 ns, .int .i64 nr]] w fun e w' => e = .returned (.bool true) ∧ Below w.heap.size w w' := by
  have hq0 : Below w.heap.size w (w.alloc (.cells #[.int .i64 k, .bool pf, .int .i64 ns, .int .i64 nr] 28)) := (Below.refl w.heap.size w).alloc (Nat.le_refl _) _
  have hC0 := ctl_new w k pf ns nr 28
  go_enter Tryd.func4, Tryd.ntmps4
  go_wp2_with fail
  refine (made_any k pf ns nr _).mono ?_
  rintro e w1 ⟨rfl, hb1⟩
  have hq1 := hq0.trans (hb1.mono hq0.size)
  have hC1 := hC0.later hb1
  clear hC0 hb1 hq0
  go_wp2_with fail
  refine (cput_any k pf ns nr _ (hT.later hq1)).mono ?_
  rintro e w2 ⟨rfl, hb2⟩
  have hq2 := hq1.trans (hb2.mono hq1.size)
  obtain ⟨hlt, k0, k1, k2, k3⟩ := hC1.later hb2
  clear hC1 hb2 hq1
  generalize hR : Cm.putRes k pf ns nr = R
  have HR : Hid (Cm.putRes k pf ns nr = R) := hR
  clear hR
  go_wp2_with fail
  refine (ref_cput_any k pf ns nr _).mono ?_
  rintro e w3 ⟨rfl, hb3⟩
  rw [HR.out]
  have hq3 := hq2.trans (hb3.mono hq2.size)
  go_wp2_with fail
  refine (cwakes_any _ (hT.later hq3) (hN.later hq3)).mono ?_
  rintro e w4 ⟨rfl, hb4⟩
  go_wp2
  go_ret
  exact ⟨by simp, hq3.trans (hb4.mono hq3.size)⟩
end Go.Proofs.YtphconnepdbpcaaDoor
