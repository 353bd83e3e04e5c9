/-
  The walks of the document's Numbered, Name and octet: they turn nothing.
-/
import Derived.Test.YtdcohbdndkphnaaDoorCtrlSmall
namespace Go.Proofs.YtdcohbdndkphnaaDoor
open Go.RowKit
set_option linter.unusedVariables false
set_option linter.unusedSimpArgs false

theorem ten_cases (n : Nat) (h : n < 10) : n = 0 ∨ n = 1 ∨ n = 2 ∨ n = 3 ∨ n = 4 ∨ n = 5 ∨ n = 6 ∨ n = 7 ∨ n = 8 ∨ n = 9 := by omega

set_option maxHeartbeats 400000 in
set_option maxRecDepth 100000 in
theorem ref_numbered_any (k : Int) (w : World) :
    Calls Tryd.prog 53 #[.int .i64 k] w fun e w' => e = .returned (.bool (Cm.numd k)) ∧ w = w' := by
  by_cases h : 0 ≤ k ∧ k ≤ 3
  · obtain ⟨n, rfl⟩ : ∃ n : Nat, k = (n : Int) := ⟨k.toNat, by omega⟩
    rw [numd_low n (by omega)]
    have hc : n = 0 ∨ n = 1 ∨ n = 2 ∨ n = 3 := by omega
    rcases hc with rfl | rfl | rfl | rfl
    all_goals
      clear h
      go_enter Tryd.func53, Tryd.ntmps53
      go_wp2
      go_ret
      exact ⟨rfl, rfl⟩
  · have hk : Cm.numd k = false := by rw [Cm.numd, decide_eq_false_iff_not]; exact h
    rw [hk]
    have h0 : (k == 0) = false := by simp; omega
    have h1 : (k == 1) = false := by simp; omega
    have h2 : (k == 2) = false := by simp; omega
    have h3 : (k == 3) = false := by simp; omega
    clear h hk
    go_enter Tryd.func53, Tryd.ntmps53
    go_wp2
    go_ret
    exact ⟨rfl, rfl⟩

set_option maxHeartbeats 400000 in
set_option maxRecDepth 100000 in
theorem ref_octet_any (n : Nat) (w : World) (hn : n < 10) :
    Calls Tryd.prog 52 #[.int .i64 (n : Int)] w fun e w' => e = .returned (.int .i64 (Cm.octs.getD n 0)) ∧ w = w' := by
  rcases ten_cases n hn with rfl | rfl | rfl | rfl | rfl | rfl | rfl | rfl | rfl | rfl
  all_goals
    clear hn
    go_enter Tryd.func52, Tryd.ntmps52
    go_wp2
    go_ret
    exact ⟨rfl, rfl⟩
end Go.Proofs.YtdcohbdndkphnaaDoor
