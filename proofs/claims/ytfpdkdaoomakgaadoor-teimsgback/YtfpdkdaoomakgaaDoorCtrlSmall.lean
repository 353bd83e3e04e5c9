/-
  The walks of a kind's methods known and Numbered, and of ctrl.firstOctet: they turn nothing.
-/
import Derived.Test.YtfpdkdaoomakgaaDoorTabs
namespace Go.Proofs.YtfpdkdaoomakgaaDoor
open Go.RowKit
set_option linter.unusedVariables false
set_option linter.unusedSimpArgs false

set_option maxHeartbeats 400000 in
theorem known_any (k : Int) (w : World) :
    Calls Tryd.prog 29 #[.int .i64 k] w fun e w' => e = .returned (.bool (Cm.kn k)) ∧ w = w' := by
  have HK : Hid (Cm.kn k = decide (0 ≤ k ∧ k ≤ 9)) := rfl
  go_enter Tryd.func29, Tryd.ntmps29
  go_wp2
  all_goals go_ret
  all_goals exact ⟨ret_bool (by rw [HK.out, Bool.eq_iff_iff]; simp; try omega), rfl⟩

set_option maxHeartbeats 400000 in
theorem numbered_any (k : Int) (w : World) :
    Calls Tryd.prog 31 #[.int .i64 k] w fun e w' => e = .returned (.bool (Cm.numd k)) ∧ w = w' := by
  have HK : Hid (Cm.numd k = decide (0 ≤ k ∧ k ≤ 3)) := rfl
  go_enter Tryd.func31, Tryd.ntmps31
  go_wp2
  all_goals go_ret
  all_goals exact ⟨ret_bool (by rw [HK.out, Bool.eq_iff_iff]; simp; try omega), rfl⟩

theorem numd_low (n : Nat) (h : n < 4) : Cm.numd (n : Int) = true := by rw [Cm.numd, decide_eq_true_eq]; omega
theorem numd_high (n : Nat) (h : 4 ≤ n) : Cm.numd (n : Int) = false := by rw [Cm.numd, decide_eq_false_iff_not]; omega

set_option maxHeartbeats 400000 in
theorem firstOctet_any (n : Nat) (pf : Bool) (w : World) (hn : n < 10) (hT : First w) :
    Calls Tryd.prog 30 #[.int .i64 (n : Int), .bool pf] w fun e w' => e = .returned (.int .u8 (Cm.foct n pf)) ∧ w = w' := by
  have hc := hT n hn
  have hb := Cm.octs_bd n
  have hlt := hT.lt
  have HF := Cm.foct_false n
  cases pf
  · rw [HF]
    obtain ⟨x, hx⟩ : ∃ x, x = Cm.octs.getD n 0 := ⟨_, rfl⟩
    rw [← hx] at hc hb ⊢
    clear hx HF hT
    go_enter Tryd.func30, Tryd.ntmps30
    go_wp2
    go_ret
    exact ⟨rfl, rfl⟩
  · by_cases h4 : n < 4
    · have hN := numbered_any (n : Int) w
      rw [numd_low n h4] at hN
      rw [Cm.foct_low n h4]
      obtain ⟨x, hx⟩ : ∃ x, x = Cm.octs.getD n 0 := ⟨_, rfl⟩
      rw [← hx] at hc hb ⊢
      clear hx HF hT
      go_enter Tryd.func30, Tryd.ntmps30
      go_wp2_with fail
      refine hN.mono ?_
      rintro e w' ⟨rfl, rfl⟩
      go_wp2
      go_ret
      exact ⟨rfl, rfl⟩
    · have hN := numbered_any (n : Int) w
      rw [numd_high n (by omega)] at hN
      rw [Cm.foct_high n (by omega)]
      obtain ⟨x, hx⟩ : ∃ x, x = Cm.octs.getD n 0 := ⟨_, rfl⟩
      rw [← hx] at hc hb ⊢
      obtain ⟨hx0, hx1⟩ := hb
      clear hx HF hT
      go_enter Tryd.func30, Tryd.ntmps30
      go_wp2_with fail
      refine hN.mono ?_
      rintro e w' ⟨rfl, rfl⟩
      go_wp2
      go_ret
      exact ⟨rfl, rfl⟩
end Go.Proofs.YtfpdkdaoomakgaaDoor
