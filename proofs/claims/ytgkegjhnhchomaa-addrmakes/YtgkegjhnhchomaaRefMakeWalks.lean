/-
  The walks of the document's Make and Command, and of 'same'. Nothing that was there is turned.
-/
import Derived.Test.YtgkegjhnhchomaaCommon
import Derived.Test.YtgkegjhnhchomaaAddrMath
namespace Go.Proofs.Ytgkegjhnhchomaa
open Go.RowKit
set_option linter.unusedVariables false
set_option linter.unusedSimpArgs false

set_option maxHeartbeats 400000 in
theorem ref_make_any (a b : Int) (c n : Bool) (w : World) :
    Calls Try.prog 18 #[.int .i64 a, .int .i64 b, .bool c, .bool n] w fun e w' => e = .returned (.agg #[.int .i64 a, .int .i64 b, .bool (c == n)]) ∧ Below w.heap.size w w' := by
  cases c <;> cases n
  all_goals
    go_enter Try.func18, Try.ntmps18
    go_wp2
  · exact bodyPost_ret (v := .agg #[.int .i64 a, .int .i64 b, .bool true]) (by simp [results, Try.results18, go_sem]) rfl ⟨rfl, (Below.refl _ _).alloc (Nat.le_refl _) _⟩
  · exact bodyPost_ret (v := .agg #[.int .i64 a, .int .i64 b, .bool false]) (by simp [results, Try.results18, go_sem]) rfl ⟨rfl, (Below.refl _ _).alloc (Nat.le_refl _) _⟩
  · exact bodyPost_ret (v := .agg #[.int .i64 a, .int .i64 b, .bool false]) (by simp [results, Try.results18, go_sem]) rfl ⟨rfl, (Below.refl _ _).alloc (Nat.le_refl _) _⟩
  · exact bodyPost_ret (v := .agg #[.int .i64 a, .int .i64 b, .bool true]) (by simp [results, Try.results18, go_sem]) rfl ⟨rfl, (Below.refl _ _).alloc (Nat.le_refl _) _⟩

set_option maxHeartbeats 400000 in
theorem ref_command_any (a b : Int) (c n : Bool) (w : World) :
    Calls Try.prog 20 #[.agg #[.int .i64 a, .int .i64 b, .bool c], .bool n] w fun e w' => e = .returned (.bool (c == n)) ∧ Below w.heap.size w w' := by
  cases c <;> cases n
  all_goals
    go_enter Try.func20, Try.ntmps20
    go_wp2
    go_ret
    exact ⟨rfl, (Below.refl _ _).alloc (Nat.le_refl _) _⟩

set_option maxHeartbeats 400000 in
theorem same_any (a b : Int) (c : Bool) (w : World) :
    Calls Try.prog 16 #[.agg #[.int .i64 a, .int .i64 b, .bool c], .agg #[.int .i64 a, .int .i64 b, .bool c]] w fun e w' => e = .returned (.bool true) ∧ Below w.heap.size w w' := by
  have ea : (a == a) = true := by simp
  have eb : (b == b) = true := by simp
  cases c
  all_goals
    go_enter Try.func16, Try.ntmps16
    go_wp2
    go_ret
    exact ⟨rfl, ((Below.refl _ _).alloc (Nat.le_refl _) _).alloc (by simp) _⟩
end Go.Proofs.Ytgkegjhnhchomaa
