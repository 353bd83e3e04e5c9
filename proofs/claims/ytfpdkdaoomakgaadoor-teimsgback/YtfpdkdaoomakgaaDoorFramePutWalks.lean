/-
  The walk of frame.Put: it answers 'putRes'. Nothing that was there is turned.
-/
import Derived.Test.YtfpdkdaoomakgaaDoorFrameSmall
import Derived.Test.YtfpdkdaoomakgaaDoorPutWalks
import Derived.Test.YtfpdkdaoomakgaaDoorMakeWalks
import Derived.Test.YtfpdkdaoomakgaaDoorCtrlPutI
import Derived.Test.YtfpdkdaoomakgaaDoorCells
namespace Go.Proofs.YtfpdkdaoomakgaaDoor
open Go.RowKit
set_option linter.unusedVariables false
set_option linter.unusedSimpArgs false

set_option maxHeartbeats 1000000 in
theorem fput_any (sapi tei : Int) (c : Bool) (k : Int) (pf : Bool) (ns nr : Int) (info : ByteArray) (net : Bool) (w : World) (hs : info.size ≤ 140737488351232) (hL : Laws6 w) :
    Calls Tryd.prog 10 #[.agg #[.int .i64 sapi, .int .i64 tei, .bool c, .int .i64 k, .bool pf, .int .i64 ns, .int .i64 nr, .string info], .bool net] w fun e w' =>
      e = .returned (.tuple #[.string (Xm.putRes ⟨sapi, tei, c, k, pf, ns, nr, info⟩ net).1, .int .i64 (Xm.putRes ⟨sapi, tei, c, k, pf, ns, nr, info⟩ net).2]) ∧ Below w.heap.size w w' := by
  have HP : Hid (Xm.putRes ⟨sapi, tei, c, k, pf, ns, nr, info⟩ net =
    if Xm.mayB k c = false then (ByteArray.empty, 4)
    else if (Cm.putRes k pf ns nr).2 ≠ 0 then (ByteArray.empty, (Cm.putRes k pf ns nr).2)
    else if (Am.putRes sapi tei (c == net)).2 ≠ 0 then (ByteArray.empty, (Am.putRes sapi tei (c == net)).2)
    else if Xm.carB k (info.size : Int) = false then (ByteArray.empty, 5)
    else (Fm.sealB ((Am.putRes sapi tei (c == net)).1 ++ (Cm.putRes k pf ns nr).1 ++ info), 0)) := rfl
  generalize hR : Xm.putRes ⟨sapi, tei, c, k, pf, ns, nr, info⟩ net = R at HP ⊢
  clear hR
  have hq0 : Below w.heap.size w (w.alloc (.cells #[.int .i64 sapi, .int .i64 tei, .bool c, .int .i64 k, .bool pf, .int .i64 ns, .int .i64 nr, .string info] 38)) := (Below.refl w.heap.size w).alloc (Nat.le_refl _) _
  have hC0 := frc_new w sapi tei c k pf ns nr info 38
  have hM := may_any k c _ (hL.later hq0).ways
  go_enter Tryd.func10, Tryd.ntmps10
  go_wp2_with fail
  refine hM.mono ?_
  rintro e w' ⟨rfl, rfl⟩
  clear hM
  by_cases hm : Xm.mayB k c = false
  · have H1 : Hid (R = (ByteArray.empty, 4)) := by show _ = _; rw [HP.out, if_pos hm]
    rw [hm]
    clear HP hm
    go_wp2
    go_ret2
    rw [H1.out]
    exact ⟨rfl, hq0⟩
  · have hm' : Xm.mayB k c = true := by simpa using hm
    have H1 := HP.out
    rw [if_neg hm] at H1
    rw [hm']
    clear HP hm hm'
    have HH : Hid _ := H1
    clear H1
    have hP := cput_any k pf ns nr _ (hL.later hq0).first
    obtain ⟨⟨C, e1⟩, hCe⟩ : ∃ P, P = Cm.putRes k pf ns nr := ⟨_, rfl⟩
    rw [← hCe] at hP HH
    have HS : Hid ((e1 = 0 → C.size ≤ 2)) := by
      intro h0
      have := Xm.ctl_size (f := ⟨sapi, tei, c, k, pf, ns, nr, info⟩) (by show (Cm.putRes k pf ns nr).2 = 0; rw [← hCe]; exact h0)
      have h2 : (Xm.ctl ⟨sapi, tei, c, k, pf, ns, nr, info⟩).1 = C := by show (Cm.putRes k pf ns nr).1 = C; rw [← hCe]
      rw [h2] at this; exact this.2
    clear hCe
    go_wp2_with fail
    refine hP.mono ?_
    rintro e w1 ⟨rfl, hb1⟩
    clear hP
    have hq1 := hq0.trans (hb1.mono hq0.size)
    have hC1 := hC0.later hb1
    clear hb1 hC0 hq0
    by_cases h1 : e1 = 0
    · subst h1
      have hCs := HS.out rfl
      have H2 := HH.out
      rw [if_neg (by simp)] at H2
      clear HH HS
      have HH : Hid _ := H2
      clear H2
      obtain ⟨hlt, c0, c1, c2, c3, c4, c5, c6, c7⟩ := hC1
      have HC1 : Hid (FrC w1 w.heap.size sapi tei c k pf ns nr info) := ⟨hlt, c0, c1, c2, c3, c4, c5, c6, c7⟩
      go_wp2_with fail
      refine (make_any sapi tei c net _).mono ?_
      rintro e w2 ⟨rfl, hb2⟩
      have hq2 := hq1.trans (hb2.mono hq1.size)
      have HC2 : Hid (FrC w2 w.heap.size sapi tei c k pf ns nr info) := HC1.out.later hb2
      clear hb2 hq1 HC1 hlt c0 c1 c2 c3 c4 c5 c6 c7
      have hA := put_any sapi tei (c == net) w2
      obtain ⟨⟨A, e2⟩, hAe⟩ : ∃ P, P = Am.putRes sapi tei (c == net) := ⟨_, rfl⟩
      rw [← hAe] at hA HH
      have HS : Hid (e2 = 0 → A.size = 2) := by
        intro h0
        have := Xm.adr_size (f := ⟨sapi, tei, c, k, pf, ns, nr, info⟩) (net := net) (by show (Am.putRes sapi tei (c == net)).2 = 0; rw [← hAe]; exact h0)
        have h2 : (Xm.adr ⟨sapi, tei, c, k, pf, ns, nr, info⟩ net).1 = A := by show (Am.putRes sapi tei (c == net)).1 = A; rw [← hAe]
        rw [h2] at this; exact this
      clear hAe
      go_wp2_with fail
      refine hA.mono ?_
      rintro e w3 ⟨rfl, hb3⟩
      have hq3 := hq2.trans (hb3.mono hq2.size)
      obtain ⟨hlt, c0, c1, c2, c3, c4, c5, c6, c7⟩ := HC2.out.later hb3
      clear hA hb3 hq2 HC2
      by_cases h2 : e2 = 0
      · subst h2
        have hAs := HS.out rfl
        have H2 := HH.out
        rw [if_neg (by simp)] at H2
        clear HH HS
        go_wp2_with fail
        refine (carries_any k (info.size : Int) _).mono ?_
        rintro e w' ⟨rfl, rfl⟩
        by_cases hc : Xm.carB k (info.size : Int) = false
        · rw [if_pos hc] at H2
          have H3 : Hid (R = (ByteArray.empty, 5)) := H2
          rw [hc]
          clear hc H2
          go_wp2
          go_ret2
          rw [H3.out]
          exact ⟨rfl, hq3⟩
        · have hc' : Xm.carB k (info.size : Int) = true := by simpa using hc
          rw [if_neg hc] at H2
          have H3 : Hid (R = (Fm.sealB (A ++ C ++ info), 0)) := H2
          rw [hc']
          have hi : info.size ≤ 260 := by have := Xm.car_size hc'; omega
          clear hc hc' H2
          have hAC : (A ++ C).size ≤ 4 := by rw [ByteArray.size_append]; omega
          go_wp2_with fail
          refine (seal_any (A ++ C ++ info) _ (by rw [ByteArray.size_append]; omega)).mono ?_
          rintro e w4 ⟨rfl, hb4⟩
          go_wp2
          go_ret2
          rw [H3.out]
          exact ⟨rfl, hq3.trans (hb4.mono hq3.size)⟩
      · have tf : (e2 != 0) = true := by simpa using h2
        have H2 := HH.out
        rw [if_pos h2] at H2
        have H3 : Hid (R = (ByteArray.empty, e2)) := H2
        clear HH HS H2 h2
        go_wp2
        go_ret2
        rw [H3.out]
        exact ⟨rfl, hq3⟩
    · have tf : (e1 != 0) = true := by simpa using h1
      have H2 := HH.out
      rw [if_pos h1] at H2
      have H3 : Hid (R = (ByteArray.empty, e1)) := H2
      clear HH HS H2 h1
      go_wp2
      go_ret2
      rw [H3.out]
      exact ⟨rfl, hq1⟩
end Go.Proofs.YtfpdkdaoomakgaaDoor
