/-
  The walk of the law FrameSides: it returns true.
-/
import Derived.Test.YtdcohbdndkphnaaDoorFrameWakes
namespace Go.Proofs.YtdcohbdndkphnaaDoor
open Go.RowKit
set_option linter.unusedVariables false
set_option linter.unusedSimpArgs false

/-- a kind that may be both has an N(R) -/
theorem both_low {k : Int} (h1 : Xm.mayB k true = true) (h2 : Xm.mayB k false = true) : k < 4 := by
  have hk := Xm.may_known h1
  obtain ⟨n, rfl⟩ : ∃ n : Nat, k = (n : Int) := ⟨k.toNat, by have : 0 ≤ k := hk.1; omega⟩
  have hn : n < 10 := by have : (n : Int) ≤ 9 := hk.2; omega
  have : ∀ n < 10, Xm.mayB (n : Nat) true = true → Xm.mayB (n : Nat) false = true → n < 4 := by decide
  have := this n hn h1 h2
  omega

set_option maxHeartbeats 4000000 in
theorem walk_FrameSides (sapi tei : Int) (c : Bool) (k : Int) (pf : Bool) (ns nr : Int) (info : ByteArray) (net : Bool) (w : World) (hi : info.size ≤ 140737488351232) (hL : Laws6 w) :
    Calls Tryd.prog 8 #[.agg #[.int .i64 sapi, .int .i64 tei, .bool c, .int .i64 k, .bool pf, .int .i64 ns, .int .i64 nr, .string info], .bool net] w fun e w' => e = .returned (.bool true) ∧ Below w.heap.size w w' := by
  have hq0 : Below w.heap.size w (w.alloc (.cells #[.int .i64 sapi, .int .i64 tei, .bool c, .int .i64 k, .bool pf, .int .i64 ns, .int .i64 nr, .string info] 29)) := (Below.refl w.heap.size w).alloc (Nat.le_refl _) _
  go_enter Tryd.func8, Tryd.ntmps8
  go_wp2_with fail
  refine (frames_any sapi tei c k pf ns nr info _).mono ?_
  rintro e w1 ⟨rfl, hb1⟩
  have hq1 := hq0.trans (hb1.mono hq0.size)
  clear hb1 hq0
  simp only [frV]
  have hqa : Below w1.heap.size w1 ((w1.alloc (.cells #[.int .i64 sapi, .int .i64 tei, .bool c, .int .i64 k, .bool pf, .int .i64 ns, .int .i64 nr, .string info] 33)).alloc (.cells #[.int .i64 sapi, .int .i64 tei, .bool c, .int .i64 k, .bool pf, .int .i64 ns, .int .i64 nr, .string info] 34)) := ((Below.refl _ _).alloc (Nat.le_refl _) _).alloc (by simp) _
  have hqb := hq1.trans (hqa.mono hq1.size)
  have hC0 : FrC ((w1.alloc (.cells #[.int .i64 sapi, .int .i64 tei, .bool c, .int .i64 k, .bool pf, .int .i64 ns, .int .i64 nr, .string info] 33)).alloc (.cells #[.int .i64 sapi, .int .i64 tei, .bool c, .int .i64 k, .bool pf, .int .i64 ns, .int .i64 nr, .string info] 34)) w1.heap.size sapi tei c k pf ns nr info := (frc_new w1 sapi tei c k pf ns nr info _).later ((Below.refl _ _).alloc (Nat.le_refl _) _)
  have hE0 : Eight ((w1.alloc (.cells #[.int .i64 sapi, .int .i64 tei, .bool c, .int .i64 k, .bool pf, .int .i64 ns, .int .i64 nr, .string info] 33)).alloc (.cells #[.int .i64 sapi, .int .i64 tei, .bool c, .int .i64 k, .bool pf, .int .i64 ns, .int .i64 nr, .string info] 34)) w1.heap.size := (eight_new w1 _ _ _ _ _ _ _ _ _).later ((Below.refl _ _).alloc (Nat.le_refl _) _)
  have hP := fput_any sapi tei c k pf ns nr info net ((w1.alloc (.cells #[.int .i64 sapi, .int .i64 tei, .bool c, .int .i64 k, .bool pf, .int .i64 ns, .int .i64 nr, .string info] 33)).alloc (.cells #[.int .i64 sapi, .int .i64 tei, .bool c, .int .i64 k, .bool pf, .int .i64 ns, .int .i64 nr, .string info] 34)) hi (hL.later hqb)
  have HB := Xm.sides (f := ⟨sapi, tei, c, k, pf, ns, nr, info⟩) (net := net)
  have HZ := Xm.put_size (f := ⟨sapi, tei, c, k, pf, ns, nr, info⟩) (net := net)
  have HO := Xm.put_ok (f := ⟨sapi, tei, c, k, pf, ns, nr, info⟩) (net := net)
  generalize hR : Xm.putRes ⟨sapi, tei, c, k, pf, ns, nr, info⟩ net = R at hP HB HZ HO
  clear hR
  obtain ⟨T, e0⟩ := R
  simp only at hP HB HZ HO
  have HB' : Hid (e0 = 0 → Xm.getRes T (!net) = if Xm.mayB k (!c) = false then (Xm.zero, 4) else (⟨sapi, tei, !c, k, pf, (if k = 0 then ns else 0), (if k < 4 then nr else 0), info⟩, 0)) := HB
  have HZ' : Hid (e0 = 0 → T.size ≤ 1000) := by
    intro h
    have h1 := HZ h
    have h2 := Xm.ctl_size (HO h).2.1
    omega
  have HO' : Hid (e0 = 0 → Xm.mayB k c = true) := fun h => (HO h).1
  clear HB HZ HO
  go_wp2_with fail
  refine hP.mono ?_
  rintro e w2 ⟨rfl, hb2⟩
  clear hP
  have hq2 := hqb.trans (hb2.mono hqb.size)
  have hC2 := hC0.later hb2
  clear hb2 hC0 hE0 hqb
  go_wp2_with fail
  refine (fwakes_any _ (hL.later hq2)).mono ?_
  rintro e w3 ⟨rfl, hb3⟩
  have hq3 := hq2.trans (hb3.mono hq2.size)
  have hC3 := hC2.later hb3
  clear hb3 hC2 hq2
  by_cases h0 : e0 = 0
  · subst h0
    have hT := HZ'.out rfl
    have hm := HO'.out rfl
    have hG := fget_any T (!net) w3 (by omega) (hL.later hq3)
    rw [HB'.out rfl] at hG
    clear HB' HZ' HO'
    by_cases hm2 : Xm.mayB k (!c) = false
    · rw [if_pos hm2] at hG
      simp only [fgetV, frV, Xm.zero] at hG
      have hM1 : ∀ u, Ways u → Calls Tryd.prog 9 #[.int .i64 k, .bool true] u fun e w' => e = .returned (.bool c) ∧ u = w' := by
        intro u hu
        have := may_any k true u hu
        cases c
        · rw [show Xm.mayB k true = false from hm2] at this; exact this
        · rw [show Xm.mayB k true = true from hm] at this; exact this
      go_wp2_with fail
      refine hG.mono ?_
      rintro e w4 ⟨rfl, hb4⟩
      clear hG
      have hq4 := hq3.trans (hb4.mono hq3.size)
      have hC4 := hC3.later hb4
      clear hb4 hC3 hq3
      obtain ⟨hlt, c0, c1, c2, c3, c4, c5, c6, c7⟩ := hC4
      have hq5 := hq4.alloc hq4.size (.cells #[.int .i64 0, .int .i64 0, .bool false, .int .i64 0, .bool false, .int .i64 0, .int .i64 0, .string ByteArray.empty] 33)
      have hM2 := hM1 _ (hL.later hq5).ways
      clear hM1
      have hM3 := may_any k false _ (hL.later hq5).ways
      cases c
      · go_wp2_with fail
        refine hM2.mono ?_
        rintro e w' ⟨rfl, rfl⟩
        clear hM2 hM3
        go_wp2
        go_ret
        exact ⟨by simp, hq5⟩
      · rw [show Xm.mayB k false = false from hm2] at hM3
        go_wp2_with fail
        refine hM2.mono ?_
        rintro e w' ⟨rfl, rfl⟩
        clear hM2
        go_wp2_with fail
        refine hM3.mono ?_
        rintro e w' ⟨rfl, rfl⟩
        clear hM3
        go_wp2
        go_ret
        exact ⟨by simp, hq5⟩
    · have hm2' : Xm.mayB k (!c) = true := by simpa using hm2
      rw [if_neg hm2] at hG
      have ht : Xm.mayB k true = true ∧ Xm.mayB k false = true := by
        cases c
        · exact ⟨hm2', hm⟩
        · exact ⟨hm, hm2'⟩
      have hlow := both_low ht.1 ht.2
      rw [if_pos hlow] at hG
      clear hlow hm hm2 hm2'
      generalize (if k = 0 then ns else 0) = ns' at hG
      simp only [fgetV, frV] at hG
      go_wp2_with fail
      refine hG.mono ?_
      rintro e w4 ⟨rfl, hb4⟩
      clear hG
      have hq4 := hq3.trans (hb4.mono hq3.size)
      have hC4 := hC3.later hb4
      clear hb4 hC3 hq3
      obtain ⟨hlt, c0, c1, c2, c3, c4, c5, c6, c7⟩ := hC4
      have hq5 := hq4.alloc hq4.size (.cells #[.int .i64 sapi, .int .i64 tei, .bool (!c), .int .i64 k, .bool pf, .int .i64 ns', .int .i64 nr, .string info] 33)
      have hM2 := may_any k true _ (hL.later hq5).ways
      have hM3 := may_any k false _ (hL.later hq5).ways
      rw [ht.1] at hM2
      rw [ht.2] at hM3
      clear ht
      have t1 : ((!c) == (!c)) = true := by simp
      have t2 : (k == k) = true := by simp
      have t3 : (nr == nr) = true := by simp
      go_wp2_with fail
      refine hM2.mono ?_
      rintro e w' ⟨rfl, rfl⟩
      clear hM2
      go_wp2_with fail
      refine hM3.mono ?_
      rintro e w' ⟨rfl, rfl⟩
      clear hM3
      go_wp2
      go_ret
      exact ⟨by simp, hq5⟩
  · have tb : (e0 != 0) = true := by simpa using h0
    clear h0 hC3 HB' HZ' HO'
    go_wp2_with fail
    refine (fwakes_any _ (hL.later hq3)).mono ?_
    rintro e w4 ⟨rfl, hb4⟩
    go_wp2
    go_ret
    exact ⟨rfl, hq3.trans (hb4.mono hq3.size)⟩
end Go.Proofs.YtdcohbdndkphnaaDoor
