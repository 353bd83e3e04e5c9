/-
  The walks of addr.Make and of an address's method Command. Nothing that was there is turned.
-/
import Derived.Test.YtfpdkdaoomakgaaDoorCommon
import Derived.Test.YtfpdkdaoomakgaaDoorAddrMath
namespace Go.Proofs.YtfpdkdaoomakgaaDoor
open Go.RowKit
set_option linter.unusedVariables false
set_option linter.unusedSimpArgs false

set_option maxHeartbeats 400000 in
theorem make_any (a b : Int) (c n : Bool) (w : World) :
    Calls Tryd.prog 20 #[.agg #[.int .i64 a, .int .i64 b], .bool c, .bool n] w fun e w' => e = .returned (.agg #[.int .i64 a, .int .i64 b, .bool (c == n)]) ∧ Below w.heap.size w w' := by
  go_enter Tryd.func20, Tryd.ntmps20
  go_wp2
  exact bodyPost_ret (v := .agg #[.int .i64 a, .int .i64 b, .bool (c == n)]) (by simp [results, Tryd.results20, go_sem]) rfl ⟨rfl, ((Below.refl _ _).alloc (Nat.le_refl _) _).alloc (by simp) _⟩

set_option maxHeartbeats 400000 in
theorem command_any (a b : Int) (c n : Bool) (w : World) :
    Calls Tryd.prog 26 #[.agg #[.int .i64 a, .int .i64 b, .bool c], .bool n] w fun e w' => e = .returned (.bool (c == n)) ∧ Below w.heap.size w w' := by
  go_enter Tryd.func26, Tryd.ntmps26
  go_wp2
  go_ret
  exact ⟨rfl, (Below.refl _ _).alloc (Nat.le_refl _) _⟩
end Go.Proofs.YtfpdkdaoomakgaaDoor
