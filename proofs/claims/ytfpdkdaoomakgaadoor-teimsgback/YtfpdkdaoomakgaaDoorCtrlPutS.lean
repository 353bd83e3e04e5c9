/-
  The walk of ctrl.Put of RR, RNR and REJ. Nothing that was there is turned.
-/
import Derived.Test.YtfpdkdaoomakgaaDoorCtrlPutWalks
namespace Go.Proofs.YtfpdkdaoomakgaaDoor
open Go.RowKit
set_option linter.unusedVariables false
set_option linter.unusedSimpArgs false

set_option maxHeartbeats 1000000 in
theorem cput_s (n : Nat) (pf : Bool) (ns nr : Int) (w : World) (h0 : 0 < n) (h4 : n < 4) (hT : First w) :
    Calls Tryd.prog 18 #[.agg #[.int .i64 (n : Int), .bool pf, .int .i64 ns, .int .i64 nr]] w fun e w' => e = .returned (.tuple #[.string (Cm.putRes (n : Int) pf ns nr).1, .int .i64 (Cm.putRes (n : Int) pf ns nr).2]) ∧ Below w.heap.size w w' := by
  have hT1 : First (w.alloc (.cells #[.int .i64 (n : Int), .bool pf, .int .i64 ns, .int .i64 nr] 56)) := hT.later ((Below.refl _ _).alloc (Nat.le_refl _) _)
  have hF := firstOctet_any n pf _ (by omega) hT1
  rw [Cm.foct_low n h4, ← Cm.foct_low n h4 false] at hF
  obtain ⟨x, hx⟩ : ∃ x, x = Cm.foct n false := ⟨_, rfl⟩
  have HX : Hid (x = Cm.foct n false) := hx
  rw [← hx] at hF
  clear hx hT hT1
  have hne : ((n : Int) == 0) = false := by simp; omega
  have HB : Hid (0 < n ∧ n < 4) := ⟨h0, h4⟩
  have hcb := Am.crN_bd pf
  go_enter Tryd.func18, Tryd.ntmps18
  go_wp2_with fail
  refine (known_any (n : Int) _).mono ?_
  rintro e w' ⟨rfl, rfl⟩
  rw [Cm.kn_in ⟨by omega, by omega⟩]
  go_wp2_with fail
  refine hF.mono ?_
  rintro e w' ⟨rfl, rfl⟩
  clear hF
  go_wp2_with fail
  refine (numbered_any (n : Int) _).mono ?_
  rintro e w' ⟨rfl, rfl⟩
  rw [numd_low n h4]
  clear h0 h4
  go_wp2
  go_region_with (first | (go_at_call 33; refine (cbit_any _ _).mono ?_; rintro e w' ⟨rfl, rfl⟩) | (go_at_call 32; refine (numOct_any _ _ _ hcb).mono ?_; rintro e w1 ⟨rfl, hb1⟩))
  all_goals
    have q1 : Below w.heap.size w w1 := ((Below.refl w.heap.size w).alloc (Nat.le_refl _) _).drew.trans (hb1.mono (by simp))
    clear hb1
    by_cases hr : 0 ≤ nr ∧ nr ≤ 127
    · rw [Cm.no_in _ nr hr]
      have HP : Hid (Cm.putRes (n : Int) pf ns nr = (strOfNums [x, 2 * nr + Am.crN pf], 0)) := by show _ = _; rw [HX.out]; exact Cm.put_s n pf ns nr HB.out.1 HB.out.2 hr
      have hcv := conv_pair w1 x (2 * nr + Am.crN pf)
      clear hr
      go_wp2
      go_ret2
      rw [HP.out]
      exact ⟨rfl, q1.alloc q1.size _⟩
    · rw [Cm.no_out _ nr hr]
      have HP : Hid (Cm.putRes (n : Int) pf ns nr = (ByteArray.empty, 2)) := Cm.put_badnr n pf ns nr HB.out.2 hr
      clear hr
      go_wp2
      go_ret2
      rw [HP.out]
      exact ⟨rfl, q1⟩
end Go.Proofs.YtfpdkdaoomakgaaDoor
