/-
  The walks of frame.known, May and Carries: they turn nothing.
-/
import Derived.Test.YtidemohpngkedabGreatDoorWaysTab
namespace Go.Proofs.YtidemohpngkedabGreatDoor
open Go.RowKit
set_option linter.unusedVariables false
set_option maxRecDepth 100000
set_option linter.unusedSimpArgs false

set_option maxHeartbeats 400000 in
theorem fknown_any (k : Int) (w : World) :
    Calls Tryz.prog 50 #[.int .i64 k] w fun e w' => e = .returned (.bool (Cm.kn k)) ∧ w = w' := by
  have HK : Hid (Cm.kn k = decide (0 ≤ k ∧ k ≤ 9)) := rfl
  go_enter Tryz.func50, Tryz.ntmps50
  go_wp2
  all_goals go_ret
  all_goals exact ⟨ret_bool (by rw [HK.out, Bool.eq_iff_iff]; simp; try omega), rfl⟩

theorem may_in (n : Nat) (c : Bool) (hn : n < 10) : Xm.mayB (n : Int) c = !((if c then Xm.respT else Xm.cmdT).getD n false) := by
  rw [Xm.mayB, Cm.kn_in ⟨by omega, by omega⟩, Int.toNat_natCast]; rfl

set_option maxHeartbeats 400000 in
theorem may_any (k : Int) (c : Bool) (w : World) (hW : Ways w) :
    Calls Tryz.prog 23 #[.int .i64 k, .bool c] w fun e w' => e = .returned (.bool (Xm.mayB k c)) ∧ w = w' := by
  by_cases h : Cm.known k
  · obtain ⟨n, rfl⟩ : ∃ n : Nat, k = (n : Int) := ⟨k.toNat, by have : 0 ≤ k := h.1; omega⟩
    have hn : n < 10 := by have : (n : Int) ≤ 9 := h.2; omega
    have hK := fknown_any (n : Int) w
    rw [Cm.kn_in h] at hK
    rw [may_in n c hn]
    have hlt := hW.lt
    cases c
    · have hc := hW.cmd n hn
      obtain ⟨b, hb⟩ : ∃ b, b = Xm.cmdT.getD n false := ⟨_, rfl⟩
      rw [if_neg (by decide), ← hb]
      rw [← hb] at hc
      clear hb hW h
      go_enter Tryz.func23, Tryz.ntmps23
      go_wp2_with fail
      refine hK.mono ?_
      rintro e w' ⟨rfl, rfl⟩
      go_wp2
      go_ret
      exact ⟨rfl, rfl⟩
    · have hc := hW.resp n hn
      obtain ⟨b, hb⟩ : ∃ b, b = Xm.respT.getD n false := ⟨_, rfl⟩
      rw [if_pos rfl, ← hb]
      rw [← hb] at hc
      clear hb hW h
      go_enter Tryz.func23, Tryz.ntmps23
      go_wp2_with fail
      refine hK.mono ?_
      rintro e w' ⟨rfl, rfl⟩
      go_wp2
      go_ret
      exact ⟨rfl, rfl⟩
  · rw [Xm.may_out c h]
    have hK := fknown_any k w
    rw [Cm.kn_out h] at hK
    go_enter Tryz.func23, Tryz.ntmps23
    go_wp2_with fail
    refine hK.mono ?_
    rintro e w' ⟨rfl, rfl⟩
    go_wp2
    go_ret
    exact ⟨rfl, rfl⟩

set_option maxHeartbeats 400000 in
theorem carries_any (k n : Int) (w : World) :
    Calls Tryz.prog 24 #[.int .i64 k, .int .i64 n] w fun e w' => e = .returned (.bool (Xm.carB k n)) ∧ w = w' := by
  by_cases h0 : k = 0 ∨ k = 6
  · have HC : Hid (Xm.carB k n = decide (0 ≤ n ∧ n ≤ 260)) := by show _ = _; rw [Xm.carB, if_pos h0]
    rcases h0 with rfl | rfl
    all_goals
      go_enter Tryz.func24, Tryz.ntmps24
      go_wp2
      all_goals go_ret
      all_goals exact ⟨ret_bool (by rw [HC.out, Bool.eq_iff_iff]; simp; try omega), rfl⟩
  · by_cases h9 : k = 9
    · have HC : Hid (Xm.carB k n = decide (n = 5)) := by show _ = _; rw [Xm.carB, if_neg h0, if_pos h9]
      subst h9
      clear h0
      go_enter Tryz.func24, Tryz.ntmps24
      go_wp2
      all_goals go_ret
      all_goals exact ⟨ret_bool (by rw [HC.out, Bool.eq_iff_iff]; simp; try omega), rfl⟩
    · have HC : Hid (Xm.carB k n = (Cm.kn k && decide (n = 0))) := by show _ = _; rw [Xm.carB, if_neg h0, if_neg h9]
      have t0 : (k == 0) = false := by simp; omega
      have t6 : (k == 6) = false := by simp; omega
      have t9 : (k == 9) = false := by simp; omega
      clear h0 h9
      go_enter Tryz.func24, Tryz.ntmps24
      go_wp2_with fail
      refine (fknown_any k _).mono ?_
      rintro e w' ⟨rfl, rfl⟩
      obtain ⟨b, hb⟩ : ∃ b, b = Cm.kn k := ⟨_, rfl⟩
      rw [← hb] at HC ⊢
      clear hb
      cases b
      · go_wp2
        go_ret
        exact ⟨ret_bool (by rw [HC.out]; rfl), rfl⟩
      · go_wp2
        go_ret
        exact ⟨ret_bool (by rw [HC.out, Bool.eq_iff_iff]; simp), rfl⟩
end Go.Proofs.YtidemohpngkedabGreatDoor
