/-
  The walk of fcs.Step: it returns the register behind one octet more; nothing is turned.
-/
import Derived.Test.YtfpdkdaoomakgaaDoorCommon
import Derived.Test.YtfpdkdaoomakgaaDoorFcsMath
namespace Go.Proofs.YtfpdkdaoomakgaaDoor
open Go.RowKit
set_option linter.unusedVariables false
set_option linter.unusedSimpArgs false

set_option maxHeartbeats 400000 in
theorem step_any (r c : Nat) (w : World) (hr : r < 65536) (hc : c < 256) :
    Calls Tryd.prog 38 #[.int .u16 (r : Int), .int .u8 (c : Int)] w fun e w' => e = .returned (.int .u16 ((Fm.step r c : Nat) : Int)) ∧ w = w' := by
  go_enter Tryd.func38, Tryd.ntmps38
  go_wp2
  go_loop [0, 7] (fun x i => ∃ k : Nat, k ≤ 8 ∧ i = .int .i64 k ∧ x = .int .u16 ((Fm.stepK r c k : Nat) : Int)) (fun _ i => 8 - (intOf i).toNat)
  case atStart => exact ⟨0, Nat.zero_le _, rfl, rfl⟩
  case round =>
    obtain ⟨k, hk8, rfl, rfl⟩ := hrel
    have hql : Fm.stepK r c k < 65536 := Fm.stepK_lt r c k hr
    by_cases hk : k < 8
    · have HS : Hid (Fm.stepK r c (k + 1) = Fm.bit1 (Fm.stepK r c k) (c / 2 ^ k % 2)) := Fm.stepK_succ r c k hk
      have ht := Fm.code_test (Fm.stepK r c k) c k hql hc
      by_cases hb : (Fm.stepK r c k + c / 2 ^ k % 2) % 2 = 1
      · have HB : Hid (bits .xor .u16 ((Fm.stepK r c k : Int) / 2) 33800 = ((Fm.bit1 (Fm.stepK r c k) (c / 2 ^ k % 2) : Nat) : Int)) := Fm.code_next _ _ hql hb
        rw [decide_eq_true hb] at ht
        clear hb
        go_wp2
        go_round
        case rel => exact ⟨k + 1, by omega, by go_num, by rw [HS.out, HB.out]⟩
        case measure => simp [intOf]; omega
      · have HB : Hid ((Fm.stepK r c k : Int) / 2 = ((Fm.bit1 (Fm.stepK r c k) (c / 2 ^ k % 2) : Nat) : Int)) := Fm.code_keep _ _ hb
        rw [decide_eq_false hb] at ht
        clear hb
        go_wp2
        go_round
        case rel => exact ⟨k + 1, by omega, by go_num, by rw [HS.out, HB.out]⟩
        case measure => simp [intOf]; omega
    · go_wp2
      go_ret
      have : k = 8 := by omega
      subst this
      exact ⟨ret_int (by rw [Fm.stepK_8]), rfl⟩
end Go.Proofs.YtfpdkdaoomakgaaDoor
