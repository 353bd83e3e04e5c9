/-
  The walk of the law FrameBack: it returns true.
-/
import Derived.Test.YtdcohbdndkphnaaDoorFrameWakes
namespace Go.Proofs.YtdcohbdndkphnaaDoor
open Go.RowKit
set_option linter.unusedVariables false
set_option linter.unusedSimpArgs false

/-- what is known of octets that Get is asked for -/
theorem got_ways (s : ByteArray) (net : Bool) : (∃ e, Xm.getRes s net = (Xm.zero, e) ∧ e ≠ 0) ∨ (∃ sapi tei c k pf ns nr info, Xm.getRes s net = (⟨sapi, tei, c, k, pf, ns, nr, info⟩, 0) ∧ Xm.putRes ⟨sapi, tei, c, k, pf, ns, nr, info⟩ net = (s, 0) ∧ info.size ≤ 260) := by
  by_cases h : (Xm.getRes s net).2 = 0
  · refine Or.inr ?_
    have hp := Xm.puts h
    have hz := (Xm.put_size (f := (Xm.getRes s net).1) (net := net) (by rw [hp])).2
    generalize hR : Xm.getRes s net = R at h hp hz
    obtain ⟨⟨sapi, tei, c, k, pf, ns, nr, info⟩, e⟩ := R
    simp only at h
    subst h
    exact ⟨sapi, tei, c, k, pf, ns, nr, info, rfl, hp, hz⟩
  · refine Or.inl ⟨(Xm.getRes s net).2, ?_, h⟩
    rw [← Xm.get_bad h]

set_option maxHeartbeats 4000000 in
theorem walk_FrameBack (sapi tei : Int) (c : Bool) (k : Int) (pf : Bool) (ns nr : Int) (info s : ByteArray) (net : Bool) (w : World) (hi : info.size ≤ 140737488351232) (hs : s.size ≤ 140737488351232) (hL : Laws6 w) :
    Calls Tryd.prog 6 #[.agg #[.int .i64 sapi, .int .i64 tei, .bool c, .int .i64 k, .bool pf, .int .i64 ns, .int .i64 nr, .string info], .string s, .bool net] w fun e w' => e = .returned (.bool true) ∧ Below w.heap.size w w' := by
  have hq0 : Below w.heap.size w (w.alloc (.cells #[.int .i64 sapi, .int .i64 tei, .bool c, .int .i64 k, .bool pf, .int .i64 ns, .int .i64 nr, .string info] 29)) := (Below.refl w.heap.size w).alloc (Nat.le_refl _) _
  go_enter Tryd.func6, Tryd.ntmps6
  go_wp2_with fail
  refine (frames_any sapi tei c k pf ns nr info _).mono ?_
  rintro e w1 ⟨rfl, hb1⟩
  have hq1 := hq0.trans (hb1.mono hq0.size)
  clear hb1 hq0
  simp only [frV]
  have hqa : Below w1.heap.size w1 ((w1.alloc (.cells #[.int .i64 sapi, .int .i64 tei, .bool c, .int .i64 k, .bool pf, .int .i64 ns, .int .i64 nr, .string info] 33)).alloc (.cells #[.int .i64 sapi, .int .i64 tei, .bool c, .int .i64 k, .bool pf, .int .i64 ns, .int .i64 nr, .string info] 34)) := ((Below.refl _ _).alloc (Nat.le_refl _) _).alloc (by simp) _
  have hqb := hq1.trans (hqa.mono hq1.size)
  have hC0 : FrC ((w1.alloc (.cells #[.int .i64 sapi, .int .i64 tei, .bool c, .int .i64 k, .bool pf, .int .i64 ns, .int .i64 nr, .string info] 33)).alloc (.cells #[.int .i64 sapi, .int .i64 tei, .bool c, .int .i64 k, .bool pf, .int .i64 ns, .int .i64 nr, .string info] 34)) w1.heap.size sapi tei c k pf ns nr info := (frc_new w1 sapi tei c k pf ns nr info _).later ((Below.refl _ _).alloc (Nat.le_refl _) _)
  have hE0 : Eight ((w1.alloc (.cells #[.int .i64 sapi, .int .i64 tei, .bool c, .int .i64 k, .bool pf, .int .i64 ns, .int .i64 nr, .string info] 33)).alloc (.cells #[.int .i64 sapi, .int .i64 tei, .bool c, .int .i64 k, .bool pf, .int .i64 ns, .int .i64 nr, .string info] 34)) w1.heap.size := (eight_new w1 _ _ _ _ _ _ _ _ _).later ((Below.refl _ _).alloc (Nat.le_refl _) _)
  have hP := fput_any sapi tei c k pf ns nr info net ((w1.alloc (.cells #[.int .i64 sapi, .int .i64 tei, .bool c, .int .i64 k, .bool pf, .int .i64 ns, .int .i64 nr, .string info] 33)).alloc (.cells #[.int .i64 sapi, .int .i64 tei, .bool c, .int .i64 k, .bool pf, .int .i64 ns, .int .i64 nr, .string info] 34)) hi (hL.later hqb)
  have HB := Xm.back (f := ⟨sapi, tei, c, k, pf, ns, nr, info⟩) (net := net)
  have HZ := Xm.put_size (f := ⟨sapi, tei, c, k, pf, ns, nr, info⟩) (net := net)
  have HO := Xm.put_ok (f := ⟨sapi, tei, c, k, pf, ns, nr, info⟩) (net := net)
  generalize hR : Xm.putRes ⟨sapi, tei, c, k, pf, ns, nr, info⟩ net = R at hP HB HZ HO
  clear hR
  obtain ⟨T, e0⟩ := R
  simp only at hP HB HZ HO
  have HB' : Hid (e0 = 0 → Xm.getRes T net = (Xm.norm ⟨sapi, tei, c, k, pf, ns, nr, info⟩, 0)) := HB
  have HZ' : Hid (e0 = 0 → T.size ≤ 1000) := by
    intro h
    have h1 := HZ h
    have h2 := Xm.ctl_size (HO h).2.1
    omega
  have HO' : Hid (e0 = 0 → Cm.known k) := fun h => Xm.may_known (HO h).1
  clear HB HZ HO
  go_wp2_with fail
  refine hP.mono ?_
  rintro e w2 ⟨rfl, hb2⟩
  clear hP
  have hq2 := hqb.trans (hb2.mono hqb.size)
  have hC2 := hC0.later hb2
  have hE2 := hE0.later hb2
  clear hb2 hC0 hE0 hqb
  go_wp2_with fail
  refine (fwakes_any _ (hL.later hq2)).mono ?_
  rintro e w3 ⟨rfl, hb3⟩
  have hq3 := hq2.trans (hb3.mono hq2.size)
  have hC3 := hC2.later hb3
  have hE3 := hE2.later hb3
  clear hb3 hC2 hE2 hq2
  by_cases h0 : e0 = 0
  · subst h0
    have hT := HZ'.out rfl
    have hkn := HO'.out rfl
    have hG := fget_any T net w3 (by omega) (hL.later hq3)
    rw [HB'.out rfl] at hG
    clear HB' HZ' HO'
    obtain ⟨n, rfl⟩ : ∃ n : Nat, k = (n : Int) := ⟨k.toNat, by have : 0 ≤ k := hkn.1; omega⟩
    have hn : n < 10 := by have : (n : Int) ≤ 9 := hkn.2; omega
    clear hkn
    simp only [fgetV, frV, Xm.norm] at hG
    go_wp2_with fail
    refine hG.mono ?_
    rintro e w4 ⟨rfl, hb4⟩
    clear hG
    have hq4 := hq3.trans (hb4.mono hq3.size)
    have hC4 := hC3.later hb4
    have hE4 := hE3.later hb4
    clear hb4 hC3 hE3 hq3
    by_cases hn0 : n = 0
    · subst hn0
      have e1 : (if ((0 : Nat) : Int) = 0 then ns else 0) = ns := if_pos rfl
      have e2 : (if ((0 : Nat) : Int) < 4 then nr else 0) = nr := if_pos (by decide)
      rw [e1, e2]
      clear e1 e2 hE4 hn
      obtain ⟨hlt, c0, c1, c2, c3, c4, c5, c6, c7⟩ := hC4
      go_wp2_with fail
      refine (numbered_any 0 _).mono ?_
      rintro e w' ⟨rfl, rfl⟩
      rw [show Cm.numd 0 = true from rfl]
      have hqu := hq4.alloc hq4.size (.cells #[.int .i64 sapi, .int .i64 tei, .bool c, .int .i64 0, .bool pf, .int .i64 ns, .int .i64 nr, .string info] 33)
      clear hq4
      go_wp2_with fail
      refine (fget_any s net _ hs (hL.later hqu)).mono ?_
      rintro e w5 ⟨rfl, hb5⟩
      have hq5 := hqu.trans (hb5.mono hqu.size)
      clear hb5 hqu
      rcases got_ways s net with ⟨e5, h5, h5n⟩ | ⟨sapi', tei', c', k', pf', ns', nr', info', h5, hp5, hz5⟩
      · rw [h5]
        simp only [fgetV, frV, Xm.zero]
        have t5 : (e5 != 0) = true := by simpa using h5n
        clear h5 h5n
        go_wp2
        go_ret
        exact ⟨by simp, hq5.alloc hq5.size _⟩
      · rw [h5]
        simp only [fgetV, frV]
        clear h5
        have hq6 := hq5.alloc hq5.size (.cells #[.int .i64 sapi', .int .i64 tei', .bool c', .int .i64 k', .bool pf', .int .i64 ns', .int .i64 nr', .string info'] 33)
        have hP6 := fput_any sapi' tei' c' k' pf' ns' nr' info' net _ (by omega) (hL.later hq6)
        rw [hp5] at hP6
        clear hp5 hz5
        have ts : (s.toList == s.toList) = true := str_eq rfl
        go_wp2_with fail
        refine hP6.mono ?_
        rintro e w6 ⟨rfl, hb6⟩
        clear hP6
        go_wp2
        go_ret
        exact ⟨by simp, hq6.trans (hb6.mono hq6.size)⟩
    · have e1 : (if (n : Int) = 0 then ns else 0) = 0 := if_neg (by omega)
      rw [e1]
      clear e1
      have tn : ((n : Int) != 0) = true := by simp; omega
      have f5 := hE4.f 5 (by decide)
      have f6 := hE4.f 6 (by decide)
      clear hE4
      obtain ⟨hlt, c0, c1, c2, c3, c4, c5, c6, c7⟩ := hC4
      by_cases h4 : n < 4
      · have e2 : (if (n : Int) < 4 then nr else 0) = nr := if_pos (by omega)
        rw [e2]
        clear e2
        go_wp2_with fail
        refine (numbered_any (n : Int) _).mono ?_
        rintro e w' ⟨rfl, rfl⟩
        rw [numd_low n h4]
        clear h4 hn hn0
        have hqu := (hq4.setCell (p := ⟨w1.heap.size, 5, none⟩) hq1.size (.int .i64 0)).alloc (by simp; exact hq4.size) (.cells #[.int .i64 sapi, .int .i64 tei, .bool c, .int .i64 (n : Int), .bool pf, .int .i64 0, .int .i64 nr, .string info] 33)
        clear hq4
        go_wp2_with fail
        refine (fget_any s net _ hs (hL.later hqu)).mono ?_
        rintro e w5 ⟨rfl, hb5⟩
        have hq5 := hqu.trans (hb5.mono hqu.size)
        clear hb5 hqu
        rcases got_ways s net with ⟨e5, h5, h5n⟩ | ⟨sapi', tei', c', k', pf', ns', nr', info', h5, hp5, hz5⟩
        · rw [h5]
          simp only [fgetV, frV, Xm.zero]
          have t5 : (e5 != 0) = true := by simpa using h5n
          clear h5 h5n
          go_wp2
          go_ret
          exact ⟨by simp, hq5.alloc hq5.size _⟩
        · rw [h5]
          simp only [fgetV, frV]
          clear h5
          have hq6 := hq5.alloc hq5.size (.cells #[.int .i64 sapi', .int .i64 tei', .bool c', .int .i64 k', .bool pf', .int .i64 ns', .int .i64 nr', .string info'] 33)
          have hP6 := fput_any sapi' tei' c' k' pf' ns' nr' info' net _ (by omega) (hL.later hq6)
          rw [hp5] at hP6
          clear hp5 hz5
          have ts : (s.toList == s.toList) = true := str_eq rfl
          go_wp2_with fail
          refine hP6.mono ?_
          rintro e w6 ⟨rfl, hb6⟩
          clear hP6
          go_wp2
          go_ret
          exact ⟨by simp, hq6.trans (hb6.mono hq6.size)⟩
      · have e2 : (if (n : Int) < 4 then nr else 0) = 0 := if_neg (by omega)
        rw [e2]
        clear e2
        go_wp2_with fail
        refine (numbered_any (n : Int) _).mono ?_
        rintro e w' ⟨rfl, rfl⟩
        rw [numd_high n (by omega)]
        clear h4 hn hn0
        have hqu := ((hq4.setCell (p := ⟨w1.heap.size, 5, none⟩) hq1.size (.int .i64 0)).setCell (p := ⟨w1.heap.size, 6, none⟩) hq1.size (.int .i64 0)).alloc (by simp; exact hq4.size) (.cells #[.int .i64 sapi, .int .i64 tei, .bool c, .int .i64 (n : Int), .bool pf, .int .i64 0, .int .i64 0, .string info] 33)
        clear hq4
        go_wp2_with fail
        refine (fget_any s net _ hs (hL.later hqu)).mono ?_
        rintro e w5 ⟨rfl, hb5⟩
        have hq5 := hqu.trans (hb5.mono hqu.size)
        clear hb5 hqu
        rcases got_ways s net with ⟨e5, h5, h5n⟩ | ⟨sapi', tei', c', k', pf', ns', nr', info', h5, hp5, hz5⟩
        · rw [h5]
          simp only [fgetV, frV, Xm.zero]
          have t5 : (e5 != 0) = true := by simpa using h5n
          clear h5 h5n
          go_wp2
          go_ret
          exact ⟨by simp, hq5.alloc hq5.size _⟩
        · rw [h5]
          simp only [fgetV, frV]
          clear h5
          have hq6 := hq5.alloc hq5.size (.cells #[.int .i64 sapi', .int .i64 tei', .bool c', .int .i64 k', .bool pf', .int .i64 ns', .int .i64 nr', .string info'] 33)
          have hP6 := fput_any sapi' tei' c' k' pf' ns' nr' info' net _ (by omega) (hL.later hq6)
          rw [hp5] at hP6
          clear hp5 hz5
          have ts : (s.toList == s.toList) = true := str_eq rfl
          go_wp2_with fail
          refine hP6.mono ?_
          rintro e w6 ⟨rfl, hb6⟩
          clear hP6
          go_wp2
          go_ret
          exact ⟨by simp, hq6.trans (hb6.mono hq6.size)⟩
  · have tb : (e0 == 0) = false := by simpa using h0
    clear h0 hC3 hE3 HB' HZ' HO'
    have hqu := hq3
    clear hq3
    go_wp2_with fail
    refine (fget_any s net _ hs (hL.later hqu)).mono ?_
    rintro e w5 ⟨rfl, hb5⟩
    have hq5 := hqu.trans (hb5.mono hqu.size)
    clear hb5 hqu
    rcases got_ways s net with ⟨e5, h5, h5n⟩ | ⟨sapi', tei', c', k', pf', ns', nr', info', h5, hp5, hz5⟩
    · rw [h5]
      simp only [fgetV, frV, Xm.zero]
      have t5 : (e5 != 0) = true := by simpa using h5n
      clear h5 h5n
      go_wp2
      go_ret
      exact ⟨by simp, hq5.alloc hq5.size _⟩
    · rw [h5]
      simp only [fgetV, frV]
      clear h5
      have hq6 := hq5.alloc hq5.size (.cells #[.int .i64 sapi', .int .i64 tei', .bool c', .int .i64 k', .bool pf', .int .i64 ns', .int .i64 nr', .string info'] 33)
      have hP6 := fput_any sapi' tei' c' k' pf' ns' nr' info' net _ (by omega) (hL.later hq6)
      rw [hp5] at hP6
      clear hp5 hz5
      have ts : (s.toList == s.toList) = true := str_eq rfl
      go_wp2_with fail
      refine hP6.mono ?_
      rintro e w6 ⟨rfl, hb6⟩
      clear hP6
      go_wp2
      go_ret
      exact ⟨by simp, hq6.trans (hb6.mono hq6.size)⟩
end Go.Proofs.YtdcohbdndkphnaaDoor
