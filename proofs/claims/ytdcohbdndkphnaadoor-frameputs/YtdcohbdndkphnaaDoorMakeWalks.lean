/-
  The walks of addr.Make and of an address's method Command. Nothing that was there is turned.
-/
import Derived.Test.YtdcohbdndkphnaaDoorCommon
import Derived.Test.YtdcohbdndkphnaaDoorAddrMath
namespace Go.Proofs.YtdcohbdndkphnaaDoor
open Go.RowKit
set_option linter.unusedVariables false
set_option linter.unusedSimpArgs false

set_option maxHeartbeats 400000 in
theorem make_any (a b : Int) (c n : Bool) (w : World) :
    Calls Tryd.prog 29 #[.agg #[.int .i64 a, .int .i64 b], .bool c, .bool n] w fun e w' => e = .returned (.agg #[.int .i64 a, .int .i64 b, .bool (c == n)]) ∧ Below w.heap.size w w' := by
  go_enter Tryd.func29, Tryd.ntmps29
  go_wp2
  exact bodyPost_ret (v := .agg #[.int .i64 a, .int .i64 b, .bool (c == n)]) (by simp [results, Tryd.results29, go_sem]) rfl ⟨rfl, ((Below.refl _ _).alloc (Nat.le_refl _) _).alloc (by simp) _⟩

set_option maxHeartbeats 400000 in
theorem command_any (a b : Int) (c n : Bool) (w : World) :
    Calls Tryd.prog 38 #[.agg #[.int .i64 a, .int .i64 b, .bool c], .bool n] w fun e w' => e = .returned (.bool (c == n)) ∧ Below w.heap.size w w' := by
  go_enter Tryd.func38, Tryd.ntmps38
  go_wp2
  go_ret
  exact ⟨rfl, (Below.refl _ _).alloc (Nat.le_refl _) _⟩
end Go.Proofs.YtdcohbdndkphnaaDoor
