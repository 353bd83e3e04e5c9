/-
  cmp.Compare at int and int64, cmp.Or at int, in the program beside this one.
-/
import Derived.Test.YtalpfcckdjipoaaSimPlan
import Derived.Test.YtalpfcckdjipoaaClockMath
import Derived.Test.YtalpfcckdjipoaaBase
import Derived.Shelf.Abstract
import Derived.Handy
namespace Go.Proofs.Ytalpfcckdjipoaa
open Go.RowKit
set_option linter.unusedVariables false
set_option linter.unusedSimpArgs false

theorem side_at {g : Nat} {fn : Func} (h : Try.prog.funcs[g]? = some fn) (hne : g ≠ 23) (hg : (planTab g).isSome = true) : (beside Try.prog).funcs[g]? = some fn := by
  show (besideF Try.prog)[g]? = _
  rw [beside_at h, if_neg hne, if_pos hg]
theorem side_enters {g : Nat} {fn : Func} {c : Code} (h : Try.prog.funcs[g]? = some fn) (hne : g ≠ 23) (hg : (planTab g).isSome = true) (hn : (fn.name == "runtime.NumGoroutine") = false) (hb : fn.body = some c) : ∀ args w, (callFunc g args).run (beside Try.prog) w = .ok (.enter g args) w :=
  fun args w => call_enters (side_at h hne hg) hn hb args w
theorem side_mixed : (beside Try.prog).follows .mixedOrders = true := by kernel_rfl

/-- what is asked of a program: its comparisons are this one's -/
structure HasCmp (Q : Program) : Prop where
  mixed : Q.follows .mixedOrders = true
  f40 : Q.funcs[40]? = some Try.f40
  f41 : Q.funcs[41]? = some Try.f41
  f28 : Q.funcs[28]? = some Try.f28
  f29 : Q.funcs[29]? = some Try.f29
  f27 : Q.funcs[27]? = some Try.f27
  e40 : ∀ args w, (callFunc 40 args).run Q w = .ok (.enter 40 args) w
  e41 : ∀ args w, (callFunc 41 args).run Q w = .ok (.enter 41 args) w
  e28 : ∀ args w, (callFunc 28 args).run Q w = .ok (.enter 28 args) w
  e29 : ∀ args w, (callFunc 29 args).run Q w = .ok (.enter 29 args) w
  e27 : ∀ args w, (callFunc 27 args).run Q w = .ok (.enter 27 args) w
  t2 : Q.underlying 2 = some (.int .i64)
  t3 : Q.underlying 3 = some (.int .i64)
  a3 : ∀ w, (isAgg 3).run Q w = .ok false w
  z3 : ∀ w, (Go.sizeOf 3).run Q w = .ok 1 w
  t79 : Q.underlying 79 = some (.slice 3)

theorem side_cmp : HasCmp (beside Try.prog) where
  mixed := side_mixed
  f40 := side_at Try.func40 (by decide) (by kernel_rfl)
  f41 := side_at Try.func41 (by decide) (by kernel_rfl)
  f28 := side_at Try.func28 (by decide) (by kernel_rfl)
  f29 := side_at Try.func29 (by decide) (by kernel_rfl)
  f27 := side_at Try.func27 (by decide) (by kernel_rfl)
  e40 := side_enters Try.func40 (by decide) (by kernel_rfl) (by kernel_rfl) rfl
  e41 := side_enters Try.func41 (by decide) (by kernel_rfl) (by kernel_rfl) rfl
  e28 := side_enters Try.func28 (by decide) (by kernel_rfl) (by kernel_rfl) rfl
  e29 := side_enters Try.func29 (by decide) (by kernel_rfl) (by kernel_rfl) rfl
  e27 := side_enters Try.func27 (by decide) (by kernel_rfl) (by kernel_rfl) rfl
  t2 := by kernel_rfl
  t3 := by kernel_rfl
  a3 := fun _ => by rfl
  z3 := fun _ => by rfl
  t79 := by kernel_rfl

section
variable {Q : Program} (H : HasCmp Q)
include H

set_option maxHeartbeats 400000 in
theorem nan64_any (x : Int) (w : World) : Calls Q 40 #[.int .i64 x] w fun e w' => e = .returned (.bool false) ∧ w = w' := by
  have t2 := H.t2
  go_enter H.f40, Try.ntmps40
  clear H
  go_wp2
  go_ret
  exact ⟨by simp, rfl⟩
set_option maxHeartbeats 400000 in
theorem nan_any (x : Int) (w : World) : Calls Q 41 #[.int .i64 x] w fun e w' => e = .returned (.bool false) ∧ w = w' := by
  have t3 := H.t3
  go_enter H.f41, Try.ntmps41
  clear H
  go_wp2
  go_ret
  exact ⟨by simp, rfl⟩

set_option maxHeartbeats 400000 in
theorem cmp64_any (x y : Int) (w : World) : Calls Q 28 #[.int .i64 x, .int .i64 y] w fun e w' => e = .returned (.int .i64 (Km.cmpI x y)) ∧ w = w' := by
  have e40 := H.e40
  have hc := fun x w => nan64_any H x w
  have t2 := H.t2
  go_enter H.f28, Try.ntmps28
  clear H
  go_wp2_with (go_at_fn 40; refine (hc _ _).mono ?_; rintro e w' ⟨rfl, rfl⟩)
  all_goals
    go_ret
    exact ⟨ret_int (by unfold Km.cmpI; split <;> first | rfl | omega | (split <;> first | rfl | omega)), rfl⟩
set_option maxHeartbeats 400000 in
theorem cmp_any (x y : Int) (w : World) : Calls Q 29 #[.int .i64 x, .int .i64 y] w fun e w' => e = .returned (.int .i64 (Km.cmpI x y)) ∧ w = w' := by
  have e41 := H.e41
  have hc := fun x w => nan_any H x w
  have t3 := H.t3
  go_enter H.f29, Try.ntmps29
  clear H
  go_wp2_with (go_at_fn 41; refine (hc _ _).mono ?_; rintro e w' ⟨rfl, rfl⟩)
  all_goals
    go_ret
    exact ⟨ret_int (by unfold Km.cmpI; split <;> first | rfl | omega | (split <;> first | rfl | omega)), rfl⟩

set_option maxHeartbeats 1000000 in
theorem or_any (a b c : Int) (G : Nat) (w : World) (hlt : G < w.heap.size) (h0 : w.cell? ⟨G, 0, none⟩ = some (.int .i64 a)) (h1 : w.cell? ⟨G, 1, none⟩ = some (.int .i64 b)) (h2 : w.cell? ⟨G, 2, none⟩ = some (.int .i64 c)) :
    Calls Q 27 #[.slice (some ⟨G, 0, none⟩) 3 3] w fun e w' => e = .returned (.int .i64 (if a ≠ 0 then a else if b ≠ 0 then b else c)) ∧ w = w' := by
  have t3 := H.t3
  have a3 := H.a3
  have z3 := H.z3
  have t79 := H.t79
  go_enter H.f27, Try.ntmps27
  clear H
  go_wp2
  refine wp_loop_rounds 4 ?_
  by_cases ha : a = 0
  · subst ha
    by_cases hb : b = 0
    · subst hb
      by_cases hc : c = 0
      · subst hc
        repeat any_goals (rw [rounds_succ]; go_wp2)
        go_ret
        exact ⟨rfl, rfl⟩
      · have tc : (c != 0) = true := by simpa using hc
        repeat any_goals (rw [rounds_succ]; go_wp2)
        go_ret
        exact ⟨rfl, rfl⟩
    · have tb : (b != 0) = true := by simpa using hb
      repeat any_goals (rw [rounds_succ]; go_wp2)
      go_ret
      exact ⟨ret_int (by simp [hb]), rfl⟩
  · have ta : (a != 0) = true := by simpa using ha
    repeat any_goals (rw [rounds_succ]; go_wp2)
    go_ret
    exact ⟨ret_int (by simp [ha]), rfl⟩
end
end Go.Proofs.Ytalpfcckdjipoaa
