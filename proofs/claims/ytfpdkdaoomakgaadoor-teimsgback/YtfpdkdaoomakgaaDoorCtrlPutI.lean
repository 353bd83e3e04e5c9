/-
  The walk of ctrl.Put of I, and of whatever kind: it answers 'putRes'. Nothing that was there is turned.
-/
import Derived.Test.YtfpdkdaoomakgaaDoorCtrlPutS
namespace Go.Proofs.YtfpdkdaoomakgaaDoor
open Go.RowKit
set_option linter.unusedVariables false
set_option linter.unusedSimpArgs false

theorem no_in0 (n : Int) (h : 0 ≤ n ∧ n ≤ 127) : Cm.no 0 n = (2 * n, 0) := by rw [Cm.no_in 0 n h, Int.add_zero]
theorem fld_zero : Bm.fld 0 0 1 = 0 := by decide

set_option maxHeartbeats 1000000 in
theorem cput_i (pf : Bool) (ns nr : Int) (w : World) (hT : First w) :
    Calls Tryd.prog 18 #[.agg #[.int .i64 0, .bool pf, .int .i64 ns, .int .i64 nr]] w fun e w' => e = .returned (.tuple #[.string (Cm.putRes 0 pf ns nr).1, .int .i64 (Cm.putRes 0 pf ns nr).2]) ∧ Below w.heap.size w w' := by
  have hT1 : First (w.alloc (.cells #[.int .i64 0, .bool pf, .int .i64 ns, .int .i64 nr] 56)) := hT.later ((Below.refl _ _).alloc (Nat.le_refl _) _)
  have hF := firstOctet_any 0 pf _ (by decide) hT1
  rw [Cm.foct_low 0 (by decide), show Cm.octs.getD 0 0 = 0 from rfl, show ((0 : Nat) : Int) = 0 from rfl] at hF
  clear hT hT1
  have hcb := Am.crN_bd pf
  have hzz : (0 : Int) ≤ 0 ∧ (0 : Int) ≤ 1 := by decide
  have hctl := ctl_new w 0 pf ns nr 56
  have HC : Hid (Ctl (w.alloc (.cells #[.int .i64 0, .bool pf, .int .i64 ns, .int .i64 nr] 56)) w.heap.size 0 pf ns nr) := hctl
  clear hctl
  go_enter Tryd.func18, Tryd.ntmps18
  go_wp2_with fail
  refine (known_any 0 _).mono ?_
  rintro e w' ⟨rfl, rfl⟩
  rw [Cm.kn_in (k := 0) (by decide)]
  go_wp2_with fail
  refine hF.mono ?_
  rintro e w' ⟨rfl, rfl⟩
  clear hF
  go_wp2_with fail
  refine (numbered_any 0 _).mono ?_
  rintro e w' ⟨rfl, rfl⟩
  rw [show Cm.numd 0 = true from rfl]
  go_wp2
  go_region_with (first | (go_at_call 15; refine (field_any 0 0 1 _ (by decide) (by decide) (by decide)).mono ?_; rintro e w' ⟨rfl, n1, rfl⟩; rw [fld_zero]) | (go_at_call 32; refine (numOct_any _ _ _ hzz).mono ?_; rintro e w1 ⟨rfl, hb1⟩))
  all_goals
    have q1 : Below (w.heap.size + 1) (w.alloc (.cells #[.int .i64 0, .bool pf, .int .i64 ns, .int .i64 nr] 56)) w1 := by
      have hb2 : Below (w.heap.size + 1) _ w1 := hb1.mono (by simp)
      refine Below.trans ?_ hb2
      first | exact (below_drewN ((Below.refl _ _).drew) _) | exact ((below_drewN (Below.refl _ _) _).drew) | exact (below_drewN (Below.refl _ _) _)
    have hC := HC.out.later (by simpa using q1)
    have q2 : Below w.heap.size w w1 := ((Below.refl w.heap.size w).alloc (Nat.le_refl _) _).trans (q1.mono (by omega))
    clear hb1 q1 HC
    obtain ⟨hlt, k0, k1, k2, k3⟩ := hC
    by_cases hs : 0 ≤ ns ∧ ns ≤ 127
    · rw [no_in0 ns hs]
      have HS : Hid (0 ≤ ns ∧ ns ≤ 127) := hs
      clear hs
      go_wp2
      go_region_with (first | (go_at_call 33; refine (cbit_any _ _).mono ?_; rintro e w' ⟨rfl, rfl⟩) | (go_at_call 32; refine (numOct_any _ _ _ hcb).mono ?_; rintro e w3 ⟨rfl, hb3⟩))
      all_goals
        have q3 : Below w.heap.size w w3 := q2.drew.trans (hb3.mono (by have := q2.size; simpa using this))
        clear hb3
        by_cases hr : 0 ≤ nr ∧ nr ≤ 127
        · rw [Cm.no_in _ nr hr]
          have HP : Hid (Cm.putRes 0 pf ns nr = (strOfNums [2 * ns, 2 * nr + Am.crN pf], 0)) := by show _ = _; exact Cm.put_i pf ns nr HS.out hr
          have hcv := conv_pair w3 (2 * ns) (2 * nr + Am.crN pf)
          clear hr
          go_wp2
          go_ret2
          rw [HP.out]
          exact ⟨rfl, q3.alloc q3.size _⟩
        · rw [Cm.no_out _ nr hr]
          have HP : Hid (Cm.putRes 0 pf ns nr = (ByteArray.empty, 2)) := Cm.put_badnr 0 pf ns nr (by decide) hr
          clear hr
          go_wp2
          go_ret2
          rw [HP.out]
          exact ⟨rfl, q3⟩
    · rw [Cm.no_out _ ns hs]
      have HP : Hid (Cm.putRes 0 pf ns nr = (ByteArray.empty, 2)) := Cm.put_badns pf ns nr hs
      clear hs
      go_wp2
      go_ret2
      rw [HP.out]
      exact ⟨rfl, q2⟩

theorem cput_any (k : Int) (pf : Bool) (ns nr : Int) (w : World) (hT : First w) :
    Calls Tryd.prog 18 #[.agg #[.int .i64 k, .bool pf, .int .i64 ns, .int .i64 nr]] w fun e w' => e = .returned (.tuple #[.string (Cm.putRes k pf ns nr).1, .int .i64 (Cm.putRes k pf ns nr).2]) ∧ Below w.heap.size w w' := by
  by_cases h : Cm.known k
  · obtain ⟨n, rfl⟩ : ∃ n : Nat, k = (n : Int) := ⟨k.toNat, by have : 0 ≤ k := h.1; omega⟩
    have hn : n < 10 := by have : (n : Int) ≤ 9 := h.2; omega
    by_cases h4 : 4 ≤ n
    · exact cput_high n pf ns nr w hn h4 hT
    · by_cases h0 : n = 0
      · subst h0; exact cput_i pf ns nr w hT
      · exact cput_s n pf ns nr w (by omega) (by omega) hT
  · exact cput_none k pf ns nr w h
end Go.Proofs.YtfpdkdaoomakgaaDoor
