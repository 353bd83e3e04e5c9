/-
  The walk of the law FrameMay: it returns true.
-/
import Derived.Test.YtdcohbdndkphnaaDoorFrameWakes
import Derived.Test.YtdcohbdndkphnaaDoorRefFrameSmall
namespace Go.Proofs.YtdcohbdndkphnaaDoor
open Go.RowKit
set_option linter.unusedVariables false
set_option linter.unusedSimpArgs false

set_option maxHeartbeats 2000000 in
set_option maxRecDepth 100000 in
theorem walk_FrameMay (k n : Int) (w : World) (hk : -9223372036854775808 ≤ k ∧ k ≤ 9223372036854775807) (hn : -9223372036854775808 ≤ n ∧ n ≤ 9223372036854775807) (hL : Laws6 w) :
    Calls Tryd.prog 3 #[.int .i64 k, .int .i64 n] w fun e w' => e = .returned (.bool true) ∧ Below w.heap.size w w' := by
  go_enter Tryd.func3, Tryd.ntmps3
  go_wp2
  go_loopw [6] (fun c wr => ∃ i : Nat, i ≤ 12 ∧ c = .int .i64 i ∧ Below w.heap.size w wr) (fun c _ => 12 - (intOf c).toNat)
  case atStart => exact ⟨0, Nat.zero_le _, rfl, Below.refl _ _⟩
  case round =>
    obtain ⟨i, hi12, rfl, hbel⟩ := hrel
    by_cases hlt : i < 12
    · have hM1 := may_any (i : Int) true wr (hL.later hbel).ways
      obtain ⟨b1, hb1⟩ : ∃ b, b = Xm.mayB (i : Int) true := ⟨_, rfl⟩
      obtain ⟨b2, hb2⟩ : ∃ b, b = Xm.mayB (i : Int) false := ⟨_, rfl⟩
      obtain ⟨b3, hb3⟩ : ∃ b, b = Xm.carB (i : Int) n := ⟨_, rfl⟩
      have HB1 : Hid (b1 = Xm.mayB (i : Int) true) := hb1
      have HB2 : Hid (b2 = Xm.mayB (i : Int) false) := hb2
      have HB3 : Hid (b3 = Xm.carB (i : Int) n) := hb3
      rw [← hb1] at hM1
      clear hb1 hb2 hb3
      have t1 : (b1 != b1) = false := by simp
      have t2 : (b2 != b2) = false := by simp
      have t3 : (b3 != b3) = false := by simp
      go_wp2_with fail
      refine hM1.mono ?_
      rintro e w' ⟨rfl, rfl⟩
      clear hM1
      go_wp2_with fail
      refine (ref_may_any (i : Int) true _).mono ?_
      rintro e w1 ⟨rfl, h1⟩
      rw [← HB1.out]
      have hq1 := hbel.trans (h1.mono hbel.size)
      clear h1 hbel
      have hM2 := may_any (i : Int) false w1 (hL.later hq1).ways
      rw [← HB2.out] at hM2
      go_wp2_with fail
      refine hM2.mono ?_
      rintro e w' ⟨rfl, rfl⟩
      clear hM2
      go_wp2_with fail
      refine (ref_may_any (i : Int) false _).mono ?_
      rintro e w2 ⟨rfl, h2⟩
      rw [← HB2.out]
      have hq2 := hq1.trans (h2.mono hq1.size)
      clear h2 hq1
      go_wp2_with fail
      refine (carries_any (i : Int) n _).mono ?_
      rintro e w' ⟨rfl, rfl⟩
      rw [← HB3.out]
      go_wp2_with fail
      refine (ref_carries_any (i : Int) n _).mono ?_
      rintro e w' ⟨rfl, rfl⟩
      rw [← HB3.out]
      go_wp2
      go_roundw
      case rel => exact ⟨i + 1, by omega, by go_num, hq2⟩
      case measure => simp [intOf]; omega
    · have e : i = 12 := by omega
      subst e
      obtain ⟨b1, hb1⟩ : ∃ b, b = Xm.mayB k true := ⟨_, rfl⟩
      obtain ⟨b3, hb3⟩ : ∃ b, b = Xm.carB k n := ⟨_, rfl⟩
      have HB1 : Hid (b1 = Xm.mayB k true) := hb1
      have HB3 : Hid (b3 = Xm.carB k n) := hb3
      clear hb1 hb3
      have t1 : (b1 == b1) = true := by simp
      have t3 : (b3 == b3) = true := by simp
      go_wp2_with fail
      refine (fwakes_any _ (hL.later hbel)).mono ?_
      rintro e w1 ⟨rfl, h1⟩
      have hq1 := hbel.trans (h1.mono hbel.size)
      clear h1 hbel
      have hM := may_any k true w1 (hL.later hq1).ways
      rw [← HB1.out] at hM
      go_wp2_with fail
      refine hM.mono ?_
      rintro e w' ⟨rfl, rfl⟩
      clear hM
      go_wp2_with fail
      refine (ref_may_any k true _).mono ?_
      rintro e w2 ⟨rfl, h2⟩
      rw [← HB1.out]
      have hq2 := hq1.trans (h2.mono hq1.size)
      clear h2 hq1
      go_wp2_with fail
      refine (carries_any k n _).mono ?_
      rintro e w' ⟨rfl, rfl⟩
      rw [← HB3.out]
      go_wp2_with fail
      refine (ref_carries_any k n _).mono ?_
      rintro e w' ⟨rfl, rfl⟩
      rw [← HB3.out]
      go_wp2
      go_ret
      exact ⟨by simp, hq2⟩
end Go.Proofs.YtdcohbdndkphnaaDoor
