/-
  The walk of the law AddrPuts: it returns true.
-/
import Derived.Test.YtgkegjhnhchomaaAddrWakes
import Derived.Test.YtgkegjhnhchomaaRefPutWalks
namespace Go.Proofs.Ytgkegjhnhchomaa
open Go.RowKit
set_option linter.unusedVariables false
set_option linter.unusedSimpArgs false

set_option maxHeartbeats 400000 in
theorem walk_AddrPuts (a b : Int) (c : Bool) (w : World) (ha : -9223372036854775808 ≤ a ∧ a ≤ 9223372036854775807) (hb : -9223372036854775808 ≤ b ∧ b ≤ 9223372036854775807) :
    Calls Try.prog 4 #[.agg #[.int .i64 a, .int .i64 b, .bool c]] w fun e w' => e = .returned (.bool true) ∧ Below w.heap.size w w' := by
  go_enter Try.func4, Try.ntmps4
  go_wp2_with fail
  refine (put_any a b c _).mono ?_
  rintro e w1 ⟨rfl, hb1⟩
  have hq1 : Below w.heap.size w w1 := ((Below.refl w.heap.size w).alloc (Nat.le_refl _) _).trans (hb1.mono (by simp))
  have k0 : w1.cell? ⟨w.heap.size, 0, none⟩ = some (.int .i64 a) := (hb1.cell (p := ⟨w.heap.size, 0, none⟩) (by simp)).trans (by simp)
  have k1 : w1.cell? ⟨w.heap.size, 1, none⟩ = some (.int .i64 b) := (hb1.cell (p := ⟨w.heap.size, 1, none⟩) (by simp)).trans (by simp)
  have k2 : w1.cell? ⟨w.heap.size, 2, none⟩ = some (.bool c) := (hb1.cell (p := ⟨w.heap.size, 2, none⟩) (by simp)).trans (by simp)
  clear hb1
  generalize hR : Am.putRes a b c = R
  have HR : Hid (Am.putRes a b c = R) := hR
  clear hR
  go_wp2_with fail
  refine (ref_put_any a b c _).mono ?_
  rintro e w2 ⟨rfl, hb2⟩
  rw [HR.out]
  have hq2 := hq1.trans (hb2.mono hq1.size)
  go_wp2_with fail
  refine (wakes_any _).mono ?_
  rintro e w3 ⟨rfl, hb3⟩
  go_wp2
  go_ret
  exact ⟨by simp, hq2.trans (hb3.mono hq2.size)⟩
end Go.Proofs.Ytgkegjhnhchomaa
