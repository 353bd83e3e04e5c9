/-
  The walk of what the document's entity does when RR, RNR, REJ come over a link that is open.
  The walk of what the document's entity does when any frame comes over a link that is open.
  The walk of the document's Frame.
-/
import Derived.Test.YtidemohpngkedabGreatDoorRefInfo
import Derived.Test.YtidemohpngkedabGreatDoorFlowSets
import Derived.Test.YtidemohpngkedabGreatDoorRefFrameSmall
import Derived.Test.YtidemohpngkedabGreatDoorRefCalls
import Derived.Test.YtidemohpngkedabGreatDoorEntFrame
namespace Go.Proofs.YtidemohpngkedabGreatDoor
open Go.RowKit
set_option linter.unusedVariables false
set_option maxRecDepth 100000
set_option linter.unusedSimpArgs false

set_option maxHeartbeats 4000000 in
theorem rsupervised_any (R : Nat) (lab : Nat → Nat) (e : Em.St) (f : Em.Fr) (w : World) (h : Rn R w lab e) (hl : e.out.length ≤ 200000) (ok : Em.FlOk e.fl) (hs : e.state = 7 ∨ e.state = 8) (hk : f.k = 1 ∨ f.k = 2 ∨ f.k = 3) (r0 : -9223372036854775808 ≤ f.nr) (r1 : f.nr ≤ 9223372036854775807) :
    Calls Tryz.prog 118 #[.pointer (some ⟨R, 0, none⟩), frmV f] w fun r w' => r = .returned (.tuple #[]) ∧ Mv (Rn R) w w' lab (Em.supervised e f) := by
  rw [Em.supervised_eq e f hs]
  simp only []
  obtain ⟨sapi, tei, c, k, pf, ns, nr, info⟩ := f
  have hk' : k = 1 ∨ k = 2 ∨ k = 3 := hk
  have HKK : Hid (k = 1 ∨ k = 2 ∨ k = 3) := hk'
  have HS : Hid (e.state = 7 ∨ e.state = 8) := hs
  obtain ⟨X, hX⟩ : ∃ X, X = (if Wm.ackB (Em.supP (Em.supB (Em.supA e (c && pf)) (!c && pf && decide (e.state = 7))) (decide (k = 2))).fl nr then Em.sup2 (Em.supK (Em.supP (Em.supB (Em.supA e (c && pf)) (!c && pf && decide (e.state = 7))) (decide (k = 2))) nr) c pf k (Wm.ackN (Em.supP (Em.supB (Em.supA e (c && pf)) (!c && pf && decide (e.state = 7))) (decide (k = 2))).fl nr) else Em.anew (Em.supK (Em.supP (Em.supB (Em.supA e (c && pf)) (!c && pf && decide (e.state = 7))) (decide (k = 2))) nr) (Em.letter 74)) := ⟨_, rfl⟩
  rw [← hX]
  have HX : Hid (X = (if Wm.ackB (Em.supP (Em.supB (Em.supA e (c && pf)) (!c && pf && decide (e.state = 7))) (decide (k = 2))).fl nr then Em.sup2 (Em.supK (Em.supP (Em.supB (Em.supA e (c && pf)) (!c && pf && decide (e.state = 7))) (decide (k = 2))) nr) c pf k (Wm.ackN (Em.supP (Em.supB (Em.supA e (c && pf)) (!c && pf && decide (e.state = 7))) (decide (k = 2))).fl nr) else Em.anew (Em.supK (Em.supP (Em.supB (Em.supA e (c && pf)) (!c && pf && decide (e.state = 7))) (decide (k = 2))) nr) (Em.letter 74))) := hX
  clear hX hk hk' hs
  have HOK : Hid (Em.FlOk e.fl) := ok
  clear ok
  have hb : Below w.heap.size w (w.alloc (.cells #[.int .i64 sapi, .int .i64 tei, .bool c, .int .i64 k, .bool pf, .int .i64 ns, .int .i64 nr, .string info] 50)) := (Below.refl _ _).alloc (Nat.le_refl _) _
  have hF := frc_new w sapi tei c k pf ns nr info 50
  have hE := rbox h hb
  unfold frmV
  obtain ⟨wa, hwa⟩ : ∃ wa, wa = w.alloc (.cells #[.int .i64 sapi, .int .i64 tei, .bool c, .int .i64 k, .bool pf, .int .i64 ns, .int .i64 nr, .string info] 50) := ⟨_, rfl⟩
  rw [← hwa] at hb hF hE
  have HBW : Hid (Below w.heap.size w wa) := hb
  have HFR : Hid (FrC wa w.heap.size sapi tei c k pf ns nr info) := hF
  have HE0 : Hid (Mv (Rn R) wa wa (fresh lab w.heap.size 0) e) := hE
  clear h hE hF hb
  have b2 := HFR.out.c2
  have b4 := HFR.out.c4
  have bl := HFR.out.lt
  go_enter Tryz.func118, Tryz.ntmps118
  go_upto_region 1 with fail
  rw [← hwa]
  clear hwa
  go_cut [11] from 6 to 10 (fun s wx => s = .bool (c && pf) ∧ wx = wa)
  case first =>
    cases c with
    | true => go_wp2; go_meet; case rel => exact ⟨by simp, rfl⟩
    | false => go_wp2; go_meet; case rel => exact ⟨rfl, rfl⟩
  obtain ⟨rfl, hwc⟩ := hcut
  rw [hwc]
  clear hwc wc b2 b4
  obtain ⟨ba, hba⟩ : ∃ ba, ba = (c && pf) := ⟨_, rfl⟩
  rw [← hba] at HX ⊢
  clear hba
  obtain ⟨bf, hbf⟩ : ∃ bf, bf = (!c && pf) := ⟨_, rfl⟩
  rw [← hbf] at HX
  have HBF : Hid (bf = (!c && pf)) := hbf
  clear hbf
  go_upto_if 11 with fail
  go_cut [12] from 13 to 13 (fun _ wx => Hid (Mv (Rn R) wa wx (fresh lab w.heap.size 0) (Em.supA e ba)))
  case first =>
    cases ba with
    | true =>
      go_wp2_with fail
      refine (HE0.out.call fun lab1 h1 => ranswer_any R lab1 _ false true _ h1 (by omega)).mono ?_
      rintro r w2 ⟨rfl, hm⟩
      have HE1 : Hid (Mv (Rn R) wa w2 (fresh lab w.heap.size 0) (Em.supA e true)) := hm
      clear hm HE0
      go_wp2_with fail
      go_meet
      case rel => exact HE1
    | false =>
      go_wp2_with fail
      go_meet
      case rel => exact HE0
  obtain ⟨e1, he1⟩ : ∃ e1, e1 = Em.supA e ba := ⟨_, rfl⟩
  rw [← he1] at hcut
  have HE1 : Hid (Mv (Rn R) wa wc (fresh lab w.heap.size 0) e1) := hcut
  have hk1 := Em.supA_keep e ba
  have hl1 := Em.len_supA e ba
  rw [← he1] at hk1 hl1
  have HK1 : Hid (e1.state = e.state ∧ e1.fl = e.fl) := ⟨hk1.state, hk1.fl⟩
  have HX1 : Hid (X = (if Wm.ackB (Em.supP (Em.supB e1 (bf && decide (e.state = 7))) (decide (k = 2))).fl nr then Em.sup2 (Em.supK (Em.supP (Em.supB e1 (bf && decide (e.state = 7))) (decide (k = 2))) nr) c pf k (Wm.ackN (Em.supP (Em.supB e1 (bf && decide (e.state = 7))) (decide (k = 2))).fl nr) else Em.anew (Em.supK (Em.supP (Em.supB e1 (bf && decide (e.state = 7))) (decide (k = 2))) nr) (Em.letter 74))) := by
    rw [he1]; exact HX.out
  obtain ⟨w1, hw1⟩ : ∃ w1, w1 = wc := ⟨_, rfl⟩
  rw [← hw1] at HE1 ⊢
  clear hcut he1 hk1 HX HE0 hw1 wc
  have k0 := (rcells HE1.out).c1
  rw [HK1.out.1] at k0
  have l1 := (rcells HE1.out).lt
  have b2 := (rfr HE1.out HFR.out (Nat.le_refl _)).c2
  have b4 := (rfr HE1.out HFR.out (Nat.le_refl _)).c4
  clear bl
  have bl := (rfr HE1.out HFR.out (Nat.le_refl _)).lt
  go_upto_region 3 with fail
  go_cut [27] from 14 to 26 (fun s wx => s = .bool (bf && decide (e.state = 7)) ∧ wx = w1)
  case first =>
    rcases HS.out with hs | hs
    · rw [hs] at k0
      have HD : Hid (decide (e.state = 7) = true) := decide_eq_true hs
      clear hs
      cases c with
      | true => go_wp2; go_meet; case rel => exact ⟨by rw [HBF.out]; rfl, rfl⟩
      | false =>
        cases pf with
        | true => go_wp2; go_meet; case rel => exact ⟨by rw [HBF.out, HD.out]; rfl, rfl⟩
        | false => go_wp2; go_meet; case rel => exact ⟨by rw [HBF.out]; rfl, rfl⟩
    · rw [hs] at k0
      have HD : Hid (decide (e.state = 7) = false) := decide_eq_false (by omega)
      clear hs
      cases c with
      | true => go_wp2; go_meet; case rel => exact ⟨by rw [HBF.out]; rfl, rfl⟩
      | false =>
        cases pf with
        | true => go_wp2; go_meet; case rel => exact ⟨by rw [HBF.out, HD.out]; rfl, rfl⟩
        | false => go_wp2; go_meet; case rel => exact ⟨by rw [HBF.out]; rfl, rfl⟩
  obtain ⟨rfl, hwc⟩ := hcut
  rw [hwc]
  clear hwc wc k0 l1 b2 b4
  generalize (bf && decide (e.state = 7)) = bb at HX1 ⊢
  go_upto_if 27 with fail
  go_cut [28] from 29 to 29 (fun _ wx => Hid (Mv (Rn R) wa wx (fresh lab w.heap.size 0) (Em.supB e1 bb)))
  case first =>
    cases bb with
    | true =>
      go_wp2_with fail
      refine (HE1.out.call fun lab1 h1 => rtell_any R lab1 _ 7 (Em.letter 65) _ h1 (by omega)).mono ?_
      rintro r w2 ⟨rfl, hm⟩
      have HE2 : Hid (Mv (Rn R) wa w2 (fresh lab w.heap.size 0) (Em.supB e1 true)) := hm
      clear hm HE1
      go_wp2_with fail
      go_meet
      case rel => exact HE2
    | false =>
      go_wp2_with fail
      go_meet
      case rel => exact HE1
  obtain ⟨e2, he2⟩ : ∃ e2, e2 = Em.supB e1 bb := ⟨_, rfl⟩
  rw [← he2] at hcut
  have HE2 : Hid (Mv (Rn R) wa wc (fresh lab w.heap.size 0) e2) := hcut
  have hk2 := Em.supB_keep e1 bb
  have hl2 := Em.len_supB e1 bb
  rw [← he2] at hk2 hl2
  have HK2 : Hid (e2.state = e.state ∧ e2.fl = e.fl) := ⟨hk2.state.trans HK1.out.1, hk2.fl.trans HK1.out.2⟩
  have HX2 : Hid (X = (if Wm.ackB (Em.supP e2 (decide (k = 2))).fl nr then Em.sup2 (Em.supK (Em.supP e2 (decide (k = 2))) nr) c pf k (Wm.ackN (Em.supP e2 (decide (k = 2))).fl nr) else Em.anew (Em.supK (Em.supP e2 (decide (k = 2))) nr) (Em.letter 74))) := by
    rw [he2]; exact HX1.out
  obtain ⟨w2, hw2⟩ : ∃ w2, w2 = wc := ⟨_, rfl⟩
  rw [← hw2] at HE2 ⊢
  clear hcut he2 hk2 HX1 HE1 HK1 hw2 wc
  have b3 := (rfr HE2.out HFR.out (Nat.le_refl _)).c3
  have bl2 := (rfr HE2.out HFR.out (Nat.le_refl _)).lt
  obtain ⟨F, D, H, fc, fR, fF, ffl, fmv⟩ := rflow HE2.out
  have v3 := ffl.fr.c3
  have vf := ffl.fr.f 3 (by decide)
  have HM : Hid (∀ b, Mv (Rn R) wa (w2.drew.setCell ⟨F, 3, none⟩ (.bool b)) (fresh lab w.heap.size 0) (Em.supP e2 b)) := fun b => fmv _ _ (Mvr.ahead (Below.refl _ _).drew (rpeer_set (ffl.below (Below.refl _ _).drew) b))
  clear ffl fmv bl
  go_upto_region 5 with fail
  go_cut [37] from 30 to 38 (fun _ wx => Hid (Mv (Rn R) wa wx (fresh lab w.heap.size 0) (Em.supP e2 (decide (k = 2)))))
  case first =>
    rcases HKK.out with rfl | rfl | rfl
    · go_region
      go_wp2_with fail
      go_meet
      case rel => exact HM.out false
    · go_region
      go_wp2_with fail
      go_meet
      case rel => exact HM.out true
    · go_region
      go_wp2_with fail
      go_meet
      case rel => exact HM.out false
  obtain ⟨e3, he3⟩ : ∃ e3, e3 = Em.supP e2 (decide (k = 2)) := ⟨_, rfl⟩
  rw [← he3] at hcut
  have HE3 : Hid (Mv (Rn R) wa wc (fresh lab w.heap.size 0) e3) := hcut
  have hl3 : e3.out.length = e2.out.length := by rw [he3]; rfl
  have HK3 : Hid (e3.state = e.state ∧ Em.FlOk e3.fl) := by
    rw [he3]
    refine ⟨HK2.out.1, ?_⟩
    show Em.FlOk (Wm.peerT e2.fl _)
    rw [HK2.out.2]
    exact HOK.out.peer _
  have HX3 : Hid (X = (if Wm.ackB e3.fl nr then Em.sup2 (Em.supK e3 nr) c pf k (Wm.ackN e3.fl nr) else Em.anew (Em.supK e3 nr) (Em.letter 74))) := by
    rw [he3]; exact HX2.out
  obtain ⟨w3, hw3⟩ : ∃ w3, w3 = wc := ⟨_, rfl⟩
  rw [← hw3] at HE3 ⊢
  clear hcut he3 HX2 HE2 HK2 hw3 wc HM fc fR fF v3 vf b3 bl2 HOK
  have b6 := (rfr HE3.out HFR.out (Nat.le_refl _)).c6
  have bl3 := (rfr HE3.out HFR.out (Nat.le_refl _)).lt
  obtain ⟨F, D, H, fc, fC, fD, ffl, fmv⟩ := rflow HE3.out
  have HMV : Hid (∀ w' σ', Mvr w3 w' F D H σ' → Mv (Rn R) wa w' (fresh lab w.heap.size 0) { e3 with fl := σ' }) := fmv
  have HC : Hid (∀ W, Below w3.heap.size w3 W → Calls Tryz.prog 140 #[.pointer (some ⟨F, 0, none⟩), .int .i64 nr] W fun r w' => r = .returned (.tuple #[.int .i64 (Wm.ackN e3.fl nr), .int .i64 (Wm.ackE e3.fl nr)]) ∧ Mv (Rn R) wa w' (fresh lab w.heap.size 0) (Em.supK e3 nr)) := by
    intro W hW
    exact (rfack_any F D H e3.fl nr W (ffl.below hW) HK3.out.2.ok r0 r1).mono fun r w' hx => ⟨hx.1, HMV.out _ _ (Mvr.ahead hW hx.2)⟩
  clear ffl fmv
  go_upto_region 6 with fail
  go_cut [4, 5] from 39 to 48 (fun s5 s6 wx => s5 = .int .i64 (Wm.ackN e3.fl nr) ∧ s6 = .int .i64 (Wm.ackE e3.fl nr) ∧ Hid (Mv (Rn R) wa wx (fresh lab w.heap.size 0) (Em.supK e3 nr)))
  case first =>
    go_region_with (go_at_call 140; refine (HC.out _ (Below.refl _ _).drew).mono ?_; rintro r w4 ⟨rfl, hm⟩)
    all_goals
      have HEm := (show Hid _ from hm)
      clear hm
      go_wp2_with fail
      go_meet
      case rel => exact ⟨rfl, rfl, HEm⟩
  obtain ⟨rfl, rfl, HE4⟩ := hcut
  obtain ⟨w4, hw4⟩ : ∃ w4, w4 = wc := ⟨_, rfl⟩
  rw [← hw4] at HE4 ⊢
  clear hw4 wc HE3 HMV HC fc fC fD b6 bl3
  have hE : Wm.ackE e3.fl nr = if Wm.ackB e3.fl nr then 0 else 2 := rfl
  rw [hE]
  have hX3 := HX3.out
  clear HX3 hE
  generalize Wm.ackN e3.fl nr = an at hX3 ⊢
  obtain ⟨e4, he4⟩ : ∃ e4, e4 = Em.supK e3 nr := ⟨_, rfl⟩
  rw [← he4] at HE4 hX3
  have hl4 : e4.out.length = e3.out.length := by rw [he4]; rfl
  have HK4 : Hid (e4.state = e.state ∧ Em.FlOk e4.fl) := by
    rw [he4]
    exact ⟨HK3.out.1, HK3.out.2.ack nr⟩
  clear he4 HK3
  cases hb : Wm.ackB e3.fl nr with
  | false =>
    rw [hb, if_neg (by decide)] at hX3
    have HX4 := (show Hid _ from hX3)
    rw [if_neg (by decide)]
    clear hb hX3
    go_wp2_with fail
    refine (HE4.out.call fun lab1 h1 => ranew_any R lab1 _ (Em.letter 74) _ h1 (by omega)).mono ?_
    rintro r w5 ⟨rfl, hm⟩
    have HE5 : Hid (Mv (Rn R) wa w5 (fresh lab w.heap.size 0) (Em.anew e4 (Em.letter 74))) := hm
    clear HE4 hm
    go_wp2
    refine bodyPost_ret (v := .tuple #[]) (results_none rfl _ _ _) rfl ?_
    exact ⟨rfl, by rw [HX4.out]; exact runbox HBW.out HE5.out⟩
  | true =>
    rw [hb, if_pos rfl] at hX3
    rw [if_pos rfl]
    clear hb
    unfold Em.sup2 at hX3
    have k0 := (rcells HE4.out).c1
    have l4 := (rcells HE4.out).lt
    rw [HK4.out.1] at k0 hX3
    have b2 := (rfr HE4.out HFR.out (Nat.le_refl _)).c2
    have b3 := (rfr HE4.out HFR.out (Nat.le_refl _)).c3
    have b4 := (rfr HE4.out HFR.out (Nat.le_refl _)).c4
    have bl4 := (rfr HE4.out HFR.out (Nat.le_refl _)).lt
    have HOK4 : Hid (Em.FlOk e4.fl) := HK4.out.2
    rcases HS.out with hs | hs
    · rw [hs] at k0
      rw [if_pos hs] at hX3
      have HX4 := (show Hid _ from hX3)
      clear hs hX3
      rcases HKK.out with rfl | rfl | rfl
      · skip
        go_wp2_with fail
        refine (HE4.out.call fun lab1 h1 => rcount_any R lab1 _ an _ h1 (by omega)).mono ?_
        rintro r w5 ⟨rfl, hm⟩
        have HE5 : Hid (Mv (Rn R) wa w5 (fresh lab w.heap.size 0) (Em.count e4 an)) := hm
        clear HE4 hm
        clear k0 l4 b2 b3 b4 bl4
        have hlc := Em.len_count e4 an
        go_wp2_with fail
        refine (HE5.out.call fun lab1 h1 => rgoOn_any R lab1 _ _ h1 (by omega) (by rw [(Em.count_keep _ _).fl]; exact HOK4.out)).mono ?_
        rintro r w6 ⟨rfl, hm⟩
        have HE6 : Hid (Mv (Rn R) wa w6 (fresh lab w.heap.size 0) (Em.goOn (Em.count e4 an))) := hm
        clear HE5 hm
        go_wp2
        go_end0
        exact ⟨rfl, by rw [HX4.out]; exact runbox HBW.out HE6.out⟩
      · skip
        go_wp2_with fail
        refine (HE4.out.call fun lab1 h1 => rstop203_any R lab1 _ _ h1 (by omega)).mono ?_
        rintro r w5 ⟨rfl, hm⟩
        have HE5 : Hid (Mv (Rn R) wa w5 (fresh lab w.heap.size 0) (Em.stop203 e4)) := hm
        clear HE4 hm
        clear k0 l4 b2 b3 b4 bl4
        have hlc := Em.len_stop203 e4
        go_wp2_with fail
        refine (HE5.out.call fun lab1 h1 => rstart200_any R lab1 _ _ h1 (by omega)).mono ?_
        rintro r w6 ⟨rfl, hm⟩
        have HE6 : Hid (Mv (Rn R) wa w6 (fresh lab w.heap.size 0) (Em.start200 (Em.stop203 e4))) := hm
        clear HE5 hm
        go_wp2_with fail
        refine (HE6.out.call fun lab1 h1 => rgoOn_any R lab1 _ _ h1 (by rw [Em.len_start200]; omega) (by rw [Em.await_fl]; exact HOK4.out)).mono ?_
        rintro r w7 ⟨rfl, hm⟩
        have HE7 : Hid (Mv (Rn R) wa w7 (fresh lab w.heap.size 0) (Em.goOn (Em.start200 (Em.stop203 e4)))) := hm
        clear HE6 hm
        go_wp2
        go_end0
        exact ⟨rfl, by rw [HX4.out]; exact runbox HBW.out HE7.out⟩
      · skip
        go_wp2_with fail
        refine (HE4.out.call fun lab1 h1 => rstop200_any R lab1 _ _ h1 (by omega)).mono ?_
        rintro r w5 ⟨rfl, hm⟩
        have HE5 : Hid (Mv (Rn R) wa w5 (fresh lab w.heap.size 0) (Em.stop200 e4)) := hm
        clear HE4 hm
        clear k0 l4 b2 b3 b4 bl4
        have hlc := Em.len_stop200 e4
        go_wp2_with fail
        refine (HE5.out.call fun lab1 h1 => rstart203_any R lab1 _ _ h1 (by omega)).mono ?_
        rintro r w6 ⟨rfl, hm⟩
        have HE6 : Hid (Mv (Rn R) wa w6 (fresh lab w.heap.size 0) (Em.start203 (Em.stop200 e4))) := hm
        clear HE5 hm
        obtain ⟨F, D, H, fc, fR, fF, ffl, fmv⟩ := rflow HE6.out
        have HFL : Hid (Rf (w6) F D H (Em.start203 (Em.stop200 e4)).fl) := ffl
        have HMV : Hid (∀ w' σ', Mvr (w6) w' F D H σ' → Mv (Rn R) wa w' (fresh lab w.heap.size 0) { (Em.start203 (Em.stop200 e4)) with fl := σ' }) := fmv
        clear ffl fmv
        go_wp2_with fail
        refine (rfback_any F D H _ _ HFL.out).mono ?_
        rintro r w7 ⟨rfl, hm⟩
        have HE7 : Hid (Mv (Rn R) wa w7 (fresh lab w.heap.size 0) ({ Em.start203 (Em.stop200 e4) with fl := Wm.backT (Em.start203 (Em.stop200 e4)).fl })) := HMV.out _ _ hm
        clear HE6 hm HFL HMV fc fR fF
        go_wp2_with fail
        refine (HE7.out.call fun lab1 h1 => rgoOn_any R lab1 _ _ h1 (by show (Em.start203 (Em.stop200 e4)).out.length ≤ _; rw [Em.len_start203]; omega) (by show Em.FlOk (Wm.backT (Em.start203 (Em.stop200 e4)).fl); rw [Em.rest_fl]; exact HOK4.out.back)).mono ?_
        rintro r w8 ⟨rfl, hm⟩
        have HE8 : Hid (Mv (Rn R) wa w8 (fresh lab w.heap.size 0) (Em.goOn { Em.start203 (Em.stop200 e4) with fl := Wm.backT (Em.start203 (Em.stop200 e4)).fl })) := hm
        clear HE7 hm
        go_wp2
        go_end0
        exact ⟨rfl, by rw [HX4.out]; exact runbox HBW.out HE8.out⟩
    · rw [hs] at k0
      rw [if_neg (show ¬ e.state = 7 by omega)] at hX3
      clear hs
      cases c with
      | true =>
        rw [if_neg (by simp)] at hX3
        have HX4 := (show Hid _ from hX3)
        clear hX3
        go_wp2
        refine bodyPost_ret (v := .tuple #[]) (results_none rfl _ _ _) rfl ?_
        exact ⟨rfl, by rw [HX4.out]; exact runbox HBW.out HE4.out⟩
      | false =>
        cases pf with
        | false =>
          rw [if_neg (by decide)] at hX3
          have HX4 := (show Hid _ from hX3)
          clear hX3
          go_wp2
          refine bodyPost_ret (v := .tuple #[]) (results_none rfl _ _ _) rfl ?_
          exact ⟨rfl, by rw [HX4.out]; exact runbox HBW.out HE4.out⟩
        | true =>
          rw [if_pos (by rfl)] at hX3
          have HX4 := (show Hid _ from hX3)
          clear hX3
          rcases HKK.out with rfl | rfl | rfl
          · skip
            go_wp2_with fail
            refine (HE4.out.call fun lab1 h1 => rstop200_any R lab1 _ _ h1 (by omega)).mono ?_
            rintro r w5 ⟨rfl, hm⟩
            have HE5 : Hid (Mv (Rn R) wa w5 (fresh lab w.heap.size 0) (Em.stop200 e4)) := hm
            clear HE4 hm
            clear k0 l4 b2 b3 b4 bl4
            have hlc := Em.len_stop200 e4
            go_wp2_with fail
            refine (HE5.out.call fun lab1 h1 => rstart203_any R lab1 _ _ h1 (by omega)).mono ?_
            rintro r w6 ⟨rfl, hm⟩
            have HE6 : Hid (Mv (Rn R) wa w6 (fresh lab w.heap.size 0) (Em.start203 (Em.stop200 e4))) := hm
            clear HE5 hm
            obtain ⟨F, D, H, fc, fR, fF, ffl, fmv⟩ := rflow HE6.out
            have HFL : Hid (Rf (w6) F D H (Em.start203 (Em.stop200 e4)).fl) := ffl
            have HMV : Hid (∀ w' σ', Mvr (w6) w' F D H σ' → Mv (Rn R) wa w' (fresh lab w.heap.size 0) { (Em.start203 (Em.stop200 e4)) with fl := σ' }) := fmv
            clear ffl fmv
            go_wp2_with fail
            refine (rfback_any F D H _ _ HFL.out).mono ?_
            rintro r w7 ⟨rfl, hm⟩
            have HE7 : Hid (Mv (Rn R) wa w7 (fresh lab w.heap.size 0) ({ Em.start203 (Em.stop200 e4) with fl := Wm.backT (Em.start203 (Em.stop200 e4)).fl })) := HMV.out _ _ hm
            clear HE6 hm HFL HMV fc fR fF
            have ha7 := rcells HE7.out
            have k71 := ha7.c1
            have l7 := ha7.lt
            have g7 := ha7.f 1 (by decide)
            clear ha7
            have HE8 : Hid (Mv (Rn R) wa (w7.setCell ⟨R, 1, none⟩ (.int .i64 7)) (fresh lab w.heap.size 0) ({ Em.start203 (Em.stop200 e4) with fl := Wm.backT (Em.start203 (Em.stop200 e4)).fl, state := 7 })) := HE7.out.trans fun _ hx => hx.setState 7
            go_wp2_with fail
            refine (HE8.out.call fun lab1 h1 => rgoOn_any R lab1 _ _ h1 (by show (Em.start203 (Em.stop200 e4)).out.length ≤ _; rw [Em.len_start203]; omega) (by show Em.FlOk (Wm.backT (Em.start203 (Em.stop200 e4)).fl); rw [Em.rest_fl]; exact HOK4.out.back)).mono ?_
            rintro r w9 ⟨rfl, hm⟩
            have HE9 : Hid (Mv (Rn R) wa w9 (fresh lab w.heap.size 0) (Em.goOn { Em.start203 (Em.stop200 e4) with fl := Wm.backT (Em.start203 (Em.stop200 e4)).fl, state := 7 })) := hm
            clear HE8 hm
            go_wp2
            refine bodyPost_ret (v := .tuple #[]) (results_none rfl _ _ _) rfl ?_
            exact ⟨rfl, by rw [HX4.out]; exact runbox HBW.out HE9.out⟩
          · skip
            go_wp2_with fail
            refine (HE4.out.call fun lab1 h1 => rstart200_any R lab1 _ _ h1 (by omega)).mono ?_
            rintro r w5 ⟨rfl, hm⟩
            have HE5 : Hid (Mv (Rn R) wa w5 (fresh lab w.heap.size 0) (Em.start200 e4)) := hm
            clear HE4 hm
            clear k0 l4 b2 b3 b4 bl4
            obtain ⟨F, D, H, fc, fR, fF, ffl, fmv⟩ := rflow HE5.out
            have HFL : Hid (Rf (w5) F D H (Em.start200 e4).fl) := ffl
            have HMV : Hid (∀ w' σ', Mvr (w5) w' F D H σ' → Mv (Rn R) wa w' (fresh lab w.heap.size 0) { (Em.start200 e4) with fl := σ' }) := fmv
            clear ffl fmv
            go_wp2_with fail
            refine (rfback_any F D H _ _ HFL.out).mono ?_
            rintro r w6 ⟨rfl, hm⟩
            have HE6 : Hid (Mv (Rn R) wa w6 (fresh lab w.heap.size 0) ({ Em.start200 e4 with fl := Wm.backT (Em.start200 e4).fl })) := HMV.out _ _ hm
            clear HE5 hm HFL HMV fc fR fF
            have ha6 := rcells HE6.out
            have k61 := ha6.c1
            have l6 := ha6.lt
            have g6 := ha6.f 1 (by decide)
            clear ha6
            have HE7 : Hid (Mv (Rn R) wa (w6.setCell ⟨R, 1, none⟩ (.int .i64 7)) (fresh lab w.heap.size 0) ({ Em.start200 e4 with fl := Wm.backT (Em.start200 e4).fl, state := 7 })) := HE6.out.trans fun _ hx => hx.setState 7
            go_wp2_with fail
            refine (HE7.out.call fun lab1 h1 => rgoOn_any R lab1 _ _ h1 (by show (Em.start200 e4).out.length ≤ _; rw [Em.len_start200]; omega) (by show Em.FlOk (Wm.backT (Em.start200 e4).fl); exact HOK4.out.back)).mono ?_
            rintro r w8 ⟨rfl, hm⟩
            have HE8 : Hid (Mv (Rn R) wa w8 (fresh lab w.heap.size 0) (Em.goOn { Em.start200 e4 with fl := Wm.backT (Em.start200 e4).fl, state := 7 })) := hm
            clear HE7 hm
            go_wp2
            refine bodyPost_ret (v := .tuple #[]) (results_none rfl _ _ _) rfl ?_
            exact ⟨rfl, by rw [HX4.out]; exact runbox HBW.out HE8.out⟩
          · skip
            go_wp2_with fail
            refine (HE4.out.call fun lab1 h1 => rstop200_any R lab1 _ _ h1 (by omega)).mono ?_
            rintro r w5 ⟨rfl, hm⟩
            have HE5 : Hid (Mv (Rn R) wa w5 (fresh lab w.heap.size 0) (Em.stop200 e4)) := hm
            clear HE4 hm
            clear k0 l4 b2 b3 b4 bl4
            have hlc := Em.len_stop200 e4
            go_wp2_with fail
            refine (HE5.out.call fun lab1 h1 => rstart203_any R lab1 _ _ h1 (by omega)).mono ?_
            rintro r w6 ⟨rfl, hm⟩
            have HE6 : Hid (Mv (Rn R) wa w6 (fresh lab w.heap.size 0) (Em.start203 (Em.stop200 e4))) := hm
            clear HE5 hm
            obtain ⟨F, D, H, fc, fR, fF, ffl, fmv⟩ := rflow HE6.out
            have HFL : Hid (Rf (w6) F D H (Em.start203 (Em.stop200 e4)).fl) := ffl
            have HMV : Hid (∀ w' σ', Mvr (w6) w' F D H σ' → Mv (Rn R) wa w' (fresh lab w.heap.size 0) { (Em.start203 (Em.stop200 e4)) with fl := σ' }) := fmv
            clear ffl fmv
            go_wp2_with fail
            refine (rfback_any F D H _ _ HFL.out).mono ?_
            rintro r w7 ⟨rfl, hm⟩
            have HE7 : Hid (Mv (Rn R) wa w7 (fresh lab w.heap.size 0) ({ Em.start203 (Em.stop200 e4) with fl := Wm.backT (Em.start203 (Em.stop200 e4)).fl })) := HMV.out _ _ hm
            clear HE6 hm HFL HMV fc fR fF
            have ha7 := rcells HE7.out
            have k71 := ha7.c1
            have l7 := ha7.lt
            have g7 := ha7.f 1 (by decide)
            clear ha7
            have HE8 : Hid (Mv (Rn R) wa (w7.setCell ⟨R, 1, none⟩ (.int .i64 7)) (fresh lab w.heap.size 0) ({ Em.start203 (Em.stop200 e4) with fl := Wm.backT (Em.start203 (Em.stop200 e4)).fl, state := 7 })) := HE7.out.trans fun _ hx => hx.setState 7
            go_wp2_with fail
            refine (HE8.out.call fun lab1 h1 => rgoOn_any R lab1 _ _ h1 (by show (Em.start203 (Em.stop200 e4)).out.length ≤ _; rw [Em.len_start203]; omega) (by show Em.FlOk (Wm.backT (Em.start203 (Em.stop200 e4)).fl); rw [Em.rest_fl]; exact HOK4.out.back)).mono ?_
            rintro r w9 ⟨rfl, hm⟩
            have HE9 : Hid (Mv (Rn R) wa w9 (fresh lab w.heap.size 0) (Em.goOn { Em.start203 (Em.stop200 e4) with fl := Wm.backT (Em.start203 (Em.stop200 e4)).fl, state := 7 })) := hm
            clear HE8 hm
            go_wp2
            refine bodyPost_ret (v := .tuple #[]) (results_none rfl _ _ _) rfl ?_
            exact ⟨rfl, by rw [HX4.out]; exact runbox HBW.out HE9.out⟩
end Go.Proofs.YtidemohpngkedabGreatDoor

namespace Go.Proofs.YtidemohpngkedabGreatDoor
open Go.RowKit
set_option linter.unusedVariables false
set_option maxRecDepth 100000
set_option linter.unusedSimpArgs false

set_option maxHeartbeats 1000000 in
theorem rinOpen_any (R : Nat) (lab : Nat → Nat) (e : Em.St) (f : Em.Fr) (w : World) (h : Rn R w lab e) (hl : e.out.length ≤ 100000) (ok : Em.FlOk e.fl) (hs : e.state = 7 ∨ e.state = 8) (s0 : -9223372036854775808 ≤ f.ns) (s1 : f.ns ≤ 9223372036854775807) (r0 : -9223372036854775808 ≤ f.nr) (r1 : f.nr ≤ 9223372036854775807) (k0 : 0 ≤ f.k) (k9 : f.k ≤ 9) (k6 : f.k ≠ 6) :
    Calls Tryz.prog 74 #[.pointer (some ⟨R, 0, none⟩), frmV f] w fun r w' => r = .returned (.tuple #[]) ∧ Mv (Rn R) w w' lab (Em.inOpen e f) := by
  obtain ⟨sapi, tei, c, k, pf, ns, nr, info⟩ := f
  have HOK : Hid (Em.FlOk e.fl) := ok
  have HS : Hid (e.state = 7 ∨ e.state = 8) := hs
  clear ok hs
  simp only [] at s0 s1 r0 r1 k0 k9 k6
  have HS0 : Hid (-9223372036854775808 ≤ ns ∧ ns ≤ 9223372036854775807 ∧ -9223372036854775808 ≤ nr ∧ nr ≤ 9223372036854775807) := ⟨s0, s1, r0, r1⟩
  clear s0 s1 r0 r1
  have HB : Hid (∀ o, Mv (Rn R) w (w.alloc o) lab e) := fun o => h.same ((Below.refl _ _).alloc (Nat.le_refl _) o)
  clear h
  unfold frmV
  rcases (show k = 4 ∨ k = 7 ∨ k = 8 ∨ k = 5 ∨ k = 9 ∨ k = 0 ∨ k = 1 ∨ k = 2 ∨ k = 3 by omega) with rfl | rfl | rfl | rfl | rfl | rfl | rfl | rfl | rfl
  · skip
    have hres : Em.inOpen e ⟨sapi, tei, c, 4, pf, ns, nr, info⟩ = Em.open' (Em.unsure (Em.tell (Em.send e (Em.bare false 8 pf)) 7 (Em.letter 70))) := by first | rfl | (unfold Em.inOpen; simp)
    rw [hres]
    clear hres
    have HE0 : Hid (Mv (Rn R) w (w.alloc (.cells #[.int .i64 sapi, .int .i64 tei, .bool c, .int .i64 4, .bool pf, .int .i64 ns, .int .i64 nr, .string info] 50)) lab e) := HB.out _
    clear HB
    go_enter Tryz.func74, Tryz.ntmps74
    go_wp2_with fail
    refine (HE0.out.call fun lab1 h1 => rreply_any R lab1 _ 8 ⟨sapi, tei, c, 4, pf, ns, nr, info⟩ _ h1 (by omega)).mono ?_
    rintro r w1 ⟨rfl, hm⟩
    have HE1 : Hid (Mv (Rn R) w w1 lab (Em.send e (Em.bare false 8 pf))) := hm
    clear HE0 hm
    go_wp2_with fail
    refine (HE1.out.call fun lab1 h1 => rtell_any R lab1 _ 7 (Em.letter 70) _ h1 (by rw [Em.len_send]; omega)).mono ?_
    rintro r w2 ⟨rfl, hm⟩
    have HE2 : Hid (Mv (Rn R) w w2 lab (Em.tell (Em.send e (Em.bare false 8 pf)) 7 (Em.letter 70))) := hm
    clear HE1 hm
    go_wp2_with fail
    refine (HE2.out.call fun lab1 h1 => runsure_any R lab1 _ _ h1 (by rw [Em.len_tell, Em.len_send]; omega)).mono ?_
    rintro r w3 ⟨rfl, hm⟩
    have HE3 : Hid (Mv (Rn R) w w3 lab (Em.unsure (Em.tell (Em.send e (Em.bare false 8 pf)) 7 (Em.letter 70)))) := hm
    clear HE2 hm
    have hl3 : (Em.unsure (Em.tell (Em.send e (Em.bare false 8 pf)) 7 (Em.letter 70))).out.length ≤ e.out.length + 3 := by have := Em.len_unsure (Em.tell (Em.send e (Em.bare false 8 pf)) 7 (Em.letter 70)); rw [Em.len_tell, Em.len_send] at this; omega
    have HOK3 : Hid (Em.FlOk (Em.unsure (Em.tell (Em.send e (Em.bare false 8 pf)) 7 (Em.letter 70))).fl) := by show Em.FlOk _; unfold Em.unsure; split <;> first | exact HOK.out.clear | exact HOK.out
    go_wp2_with fail
    refine (HE3.out.call fun lab1 h1 => ropen_any R lab1 _ _ h1 (by omega) HOK3.out).mono ?_
    rintro r w4 ⟨rfl, hm⟩
    have HE4 : Hid (Mv (Rn R) w w4 lab (Em.open' (Em.unsure (Em.tell (Em.send e (Em.bare false 8 pf)) 7 (Em.letter 70))))) := hm
    clear HE3 hm
    go_wp2
    go_end0
    exact ⟨rfl, HE4.out⟩
  · skip
    have hres : Em.inOpen e ⟨sapi, tei, c, 7, pf, ns, nr, info⟩ = Em.end' (Em.tell (Em.send e (Em.bare false 8 pf)) 3 ByteArray.empty) := by first | rfl | (unfold Em.inOpen; simp)
    rw [hres]
    clear hres
    have HE0 : Hid (Mv (Rn R) w (w.alloc (.cells #[.int .i64 sapi, .int .i64 tei, .bool c, .int .i64 7, .bool pf, .int .i64 ns, .int .i64 nr, .string info] 50)) lab e) := HB.out _
    clear HB
    go_enter Tryz.func74, Tryz.ntmps74
    go_wp2_with fail
    refine (HE0.out.call fun lab1 h1 => rreply_any R lab1 _ 8 ⟨sapi, tei, c, 7, pf, ns, nr, info⟩ _ h1 (by omega)).mono ?_
    rintro r w1 ⟨rfl, hm⟩
    have HE1 : Hid (Mv (Rn R) w w1 lab (Em.send e (Em.bare false 8 pf))) := hm
    clear HE0 hm
    go_wp2_with fail
    refine (HE1.out.call fun lab1 h1 => rtell_any R lab1 _ 3 ByteArray.empty _ h1 (by rw [Em.len_send]; omega)).mono ?_
    rintro r w2 ⟨rfl, hm⟩
    have HE2 : Hid (Mv (Rn R) w w2 lab (Em.tell (Em.send e (Em.bare false 8 pf)) 3 ByteArray.empty)) := hm
    clear HE1 hm
    go_wp2_with fail
    refine (HE2.out.call fun lab1 h1 => rend_any R lab1 _ _ h1 (by rw [Em.len_tell, Em.len_send]; omega)).mono ?_
    rintro r w3 ⟨rfl, hm⟩
    have HE3 : Hid (Mv (Rn R) w w3 lab (Em.end' (Em.tell (Em.send e (Em.bare false 8 pf)) 3 ByteArray.empty))) := hm
    clear HE2 hm
    go_wp2
    go_end0
    exact ⟨rfl, HE3.out⟩
  · skip
    have hres : Em.inOpen e ⟨sapi, tei, c, 8, pf, ns, nr, info⟩ = Em.strange e ⟨sapi, tei, c, 8, pf, ns, nr, info⟩ := by first | rfl | (unfold Em.inOpen; simp)
    rw [hres]
    clear hres
    have HE0 : Hid (Mv (Rn R) w (w.alloc (.cells #[.int .i64 sapi, .int .i64 tei, .bool c, .int .i64 8, .bool pf, .int .i64 ns, .int .i64 nr, .string info] 50)) lab e) := HB.out _
    clear HB
    go_enter Tryz.func74, Tryz.ntmps74
    go_wp2_with fail
    refine (HE0.out.call fun lab1 h1 => rstrange_any R lab1 _ ⟨sapi, tei, c, 8, pf, ns, nr, info⟩ _ h1 (by omega)).mono ?_
    rintro r w1 ⟨rfl, hm⟩
    have HE1 : Hid (Mv (Rn R) w w1 lab (Em.strange e ⟨sapi, tei, c, 8, pf, ns, nr, info⟩)) := hm
    clear HE0 hm
    go_wp2
    go_end0
    exact ⟨rfl, HE1.out⟩
  · cases pf with
    | true =>
      have hres : Em.inOpen e ⟨sapi, tei, c, 5, true, ns, nr, info⟩ = Em.anew e (Em.letter 66) := by first | rfl | (unfold Em.inOpen; simp)
      rw [hres]
      clear hres
      have HE0 : Hid (Mv (Rn R) w (w.alloc (.cells #[.int .i64 sapi, .int .i64 tei, .bool c, .int .i64 5, .bool true, .int .i64 ns, .int .i64 nr, .string info] 50)) lab e) := HB.out _
      clear HB
      go_enter Tryz.func74, Tryz.ntmps74
      go_wp2_with fail
      refine (HE0.out.call fun lab1 h1 => ranew_any R lab1 _ (Em.letter 66) _ h1 (by omega)).mono ?_
      rintro r w1 ⟨rfl, hm⟩
      have HE1 : Hid (Mv (Rn R) w w1 lab (Em.anew e (Em.letter 66))) := hm
      clear HE0 hm
      go_wp2
      go_end0
      exact ⟨rfl, HE1.out⟩
    | false =>
      have hres : Em.inOpen e ⟨sapi, tei, c, 5, false, ns, nr, info⟩ = Em.anew e (Em.letter 69) := by first | rfl | (unfold Em.inOpen; simp)
      rw [hres]
      clear hres
      have HE0 : Hid (Mv (Rn R) w (w.alloc (.cells #[.int .i64 sapi, .int .i64 tei, .bool c, .int .i64 5, .bool false, .int .i64 ns, .int .i64 nr, .string info] 50)) lab e) := HB.out _
      clear HB
      go_enter Tryz.func74, Tryz.ntmps74
      go_wp2_with fail
      refine (HE0.out.call fun lab1 h1 => ranew_any R lab1 _ (Em.letter 69) _ h1 (by omega)).mono ?_
      rintro r w1 ⟨rfl, hm⟩
      have HE1 : Hid (Mv (Rn R) w w1 lab (Em.anew e (Em.letter 69))) := hm
      clear HE0 hm
      go_wp2
      go_end0
      exact ⟨rfl, HE1.out⟩
  · skip
    have hres : Em.inOpen e ⟨sapi, tei, c, 9, pf, ns, nr, info⟩ = Em.anew e (Em.letter 75) := by first | rfl | (unfold Em.inOpen; simp)
    rw [hres]
    clear hres
    have HE0 : Hid (Mv (Rn R) w (w.alloc (.cells #[.int .i64 sapi, .int .i64 tei, .bool c, .int .i64 9, .bool pf, .int .i64 ns, .int .i64 nr, .string info] 50)) lab e) := HB.out _
    clear HB
    go_enter Tryz.func74, Tryz.ntmps74
    go_wp2_with fail
    refine (HE0.out.call fun lab1 h1 => ranew_any R lab1 _ (Em.letter 75) _ h1 (by omega)).mono ?_
    rintro r w1 ⟨rfl, hm⟩
    have HE1 : Hid (Mv (Rn R) w w1 lab (Em.anew e (Em.letter 75))) := hm
    clear HE0 hm
    go_wp2
    go_end0
    exact ⟨rfl, HE1.out⟩
  · skip
    have hres : Em.inOpen e ⟨sapi, tei, c, 0, pf, ns, nr, info⟩ = Em.info e ⟨sapi, tei, c, 0, pf, ns, nr, info⟩ := by first | rfl | (unfold Em.inOpen; simp)
    rw [hres]
    clear hres
    have HE0 : Hid (Mv (Rn R) w (w.alloc (.cells #[.int .i64 sapi, .int .i64 tei, .bool c, .int .i64 0, .bool pf, .int .i64 ns, .int .i64 nr, .string info] 50)) lab e) := HB.out _
    clear HB
    go_enter Tryz.func74, Tryz.ntmps74
    go_wp2_with fail
    refine (HE0.out.call fun lab1 h1 => rinfo_any R lab1 _ ⟨sapi, tei, c, 0, pf, ns, nr, info⟩ _ h1 (by omega) HOK.out HS0.out.1 HS0.out.2.1 HS0.out.2.2.1 HS0.out.2.2.2).mono ?_
    rintro r w1 ⟨rfl, hm⟩
    have HE1 : Hid (Mv (Rn R) w w1 lab (Em.info e ⟨sapi, tei, c, 0, pf, ns, nr, info⟩)) := hm
    clear HE0 hm
    go_wp2
    go_end0
    exact ⟨rfl, HE1.out⟩
  · skip
    have hres : Em.inOpen e ⟨sapi, tei, c, 1, pf, ns, nr, info⟩ = Em.supervised e ⟨sapi, tei, c, 1, pf, ns, nr, info⟩ := by first | rfl | (unfold Em.inOpen; simp)
    rw [hres]
    clear hres
    have HE0 : Hid (Mv (Rn R) w (w.alloc (.cells #[.int .i64 sapi, .int .i64 tei, .bool c, .int .i64 1, .bool pf, .int .i64 ns, .int .i64 nr, .string info] 50)) lab e) := HB.out _
    clear HB
    go_enter Tryz.func74, Tryz.ntmps74
    go_wp2_with fail
    refine (HE0.out.call fun lab1 h1 => rsupervised_any R lab1 _ ⟨sapi, tei, c, 1, pf, ns, nr, info⟩ _ h1 (by omega) HOK.out HS.out (by simp) HS0.out.2.2.1 HS0.out.2.2.2).mono ?_
    rintro r w1 ⟨rfl, hm⟩
    have HE1 : Hid (Mv (Rn R) w w1 lab (Em.supervised e ⟨sapi, tei, c, 1, pf, ns, nr, info⟩)) := hm
    clear HE0 hm
    go_wp2
    go_end0
    exact ⟨rfl, HE1.out⟩
  · skip
    have hres : Em.inOpen e ⟨sapi, tei, c, 2, pf, ns, nr, info⟩ = Em.supervised e ⟨sapi, tei, c, 2, pf, ns, nr, info⟩ := by first | rfl | (unfold Em.inOpen; simp)
    rw [hres]
    clear hres
    have HE0 : Hid (Mv (Rn R) w (w.alloc (.cells #[.int .i64 sapi, .int .i64 tei, .bool c, .int .i64 2, .bool pf, .int .i64 ns, .int .i64 nr, .string info] 50)) lab e) := HB.out _
    clear HB
    go_enter Tryz.func74, Tryz.ntmps74
    go_wp2_with fail
    refine (HE0.out.call fun lab1 h1 => rsupervised_any R lab1 _ ⟨sapi, tei, c, 2, pf, ns, nr, info⟩ _ h1 (by omega) HOK.out HS.out (by simp) HS0.out.2.2.1 HS0.out.2.2.2).mono ?_
    rintro r w1 ⟨rfl, hm⟩
    have HE1 : Hid (Mv (Rn R) w w1 lab (Em.supervised e ⟨sapi, tei, c, 2, pf, ns, nr, info⟩)) := hm
    clear HE0 hm
    go_wp2
    go_end0
    exact ⟨rfl, HE1.out⟩
  · skip
    have hres : Em.inOpen e ⟨sapi, tei, c, 3, pf, ns, nr, info⟩ = Em.supervised e ⟨sapi, tei, c, 3, pf, ns, nr, info⟩ := by first | rfl | (unfold Em.inOpen; simp)
    rw [hres]
    clear hres
    have HE0 : Hid (Mv (Rn R) w (w.alloc (.cells #[.int .i64 sapi, .int .i64 tei, .bool c, .int .i64 3, .bool pf, .int .i64 ns, .int .i64 nr, .string info] 50)) lab e) := HB.out _
    clear HB
    go_enter Tryz.func74, Tryz.ntmps74
    go_wp2_with fail
    refine (HE0.out.call fun lab1 h1 => rsupervised_any R lab1 _ ⟨sapi, tei, c, 3, pf, ns, nr, info⟩ _ h1 (by omega) HOK.out HS.out (by simp) HS0.out.2.2.1 HS0.out.2.2.2).mono ?_
    rintro r w1 ⟨rfl, hm⟩
    have HE1 : Hid (Mv (Rn R) w w1 lab (Em.supervised e ⟨sapi, tei, c, 3, pf, ns, nr, info⟩)) := hm
    clear HE0 hm
    go_wp2
    go_end0
    exact ⟨rfl, HE1.out⟩

end Go.Proofs.YtidemohpngkedabGreatDoor

namespace Go.Proofs.YtidemohpngkedabGreatDoor
open Go.RowKit
set_option linter.unusedVariables false
set_option maxRecDepth 100000
set_option linter.unusedSimpArgs false

/-- a store into a block beside it that is new -/
theorem rbeside {R : Nat} {w W0 W : World} {lab lab1 : Nat → Nat} {e0 : Em.St} (h1 : Rn R W0 lab1 e0) (hk1 : Kept w W0 (fun k => lab k ≠ 0)) (hl1 : ∀ k, k < w.heap.size → lab1 k = lab k) (hz : W0.heap.size = w.heap.size) (hb : Below W0.heap.size W0 W) (hB : w.heap.size < W.heap.size) (v6 v5 : Value) :
    Mv (Rn R) w W lab e0 ∧ Mv (Rn R) w ((W.setCell ⟨w.heap.size, 6, none⟩ v6).setCell ⟨w.heap.size, 5, none⟩ v5) lab e0 := by
  have h2 : Rn R W (fresh lab1 W0.heap.size 0) e0 := (h1.relab (fun k hk => fresh_old hk)).below hb
  have hz0 : fresh lab1 W0.heap.size 0 w.heap.size = 0 := fresh_new (by omega)
  have hb' : Kept w W (fun k => lab k ≠ 0) := hk1.trans (Kept.of_below (T := fun k => lab k ≠ 0) hb (fun k hk h' => by omega)) (fun k _ x => x)
  have hll : ∀ k, k < w.heap.size → fresh lab1 W0.heap.size 0 k = lab k := fun k hlt => (fresh_old (by omega)).trans (hl1 k hlt)
  refine ⟨⟨_, h2, hb', hll⟩, ⟨_, (h2.kept (kept_cell W w.heap.size 6 v6) (fun k _ hne hx => hne (by rw [hx]; exact hz0)) (fun _ _ => rfl)).kept (kept_cell _ w.heap.size 5 v5) (fun k _ hne hx => hne (by rw [hx]; exact hz0)) (fun _ _ => rfl), ?_, hll⟩⟩
  exact (hb'.trans (kept_cell W w.heap.size 6 v6) (fun k hlt hx => by exact absurd hx (by omega))).trans (kept_cell _ w.heap.size 5 v5) (fun k hlt hx => by exact absurd hx (by omega))

set_option maxHeartbeats 4000000 in
theorem rframe14_any (R : Nat) (lab : Nat → Nat) (e : Em.St) (f : Em.Fr) (w : World) (h : Rn R w lab e) (ok : Em.Ok e) (s0 : -9223372036854775808 ≤ f.ns) (s1 : f.ns ≤ 9223372036854775807) (r0 : -9223372036854775808 ≤ f.nr) (r1 : f.nr ≤ 9223372036854775807) :
    Calls Tryz.prog 32 #[.pointer (some ⟨R, 0, none⟩), frmV f] w fun r w' => r = .returned (.tuple #[]) ∧ Mv (Rn R) w w' lab (Em.frame e (Em.may f) f) := by
  have hok0 : Em.Ok { e with out := [] } := ok.fresh []
  obtain ⟨lab1, h1, hk1, hl1⟩ := h.fresh
  have g9 := h.cs.f 9 (by decide)
  obtain ⟨a9, cap9, c9, -, -⟩ := h.ot
  have hlt := h.cs.lt
  have hz : (w.setCell ⟨R, 9, none⟩ (.slice none 0 0)).heap.size = w.heap.size := by simp [World.setCell]
  obtain ⟨sapi, tei, c, k, pf, ns, nr, info⟩ := f
  simp only [] at s0 s1 r0 r1
  have HX : Hid (∀ W, Below w.heap.size ((w.setCell ⟨R, 9, none⟩ (.slice none 0 0)).alloc (.cells #[.int .i64 sapi, .int .i64 tei, .bool c, .int .i64 k, .bool pf, .int .i64 ns, .int .i64 nr, .string info] 50)) W → True) := fun _ _ => trivial
  have hF := frc_new (w.setCell ⟨R, 9, none⟩ (.slice none 0 0)) sapi tei c k pf ns nr info 50
  have h8 := eight_new (w.setCell ⟨R, 9, none⟩ (.slice none 0 0)) (.int .i64 sapi) (.int .i64 tei) (.bool c) (.int .i64 k) (.bool pf) (.int .i64 ns) (.int .i64 nr) (.string info) 50
  rw [hz] at hF h8
  obtain ⟨X, hX⟩ : ∃ X, X = (w.setCell ⟨R, 9, none⟩ (.slice none 0 0)).alloc (.cells #[.int .i64 sapi, .int .i64 tei, .bool c, .int .i64 k, .bool pf, .int .i64 ns, .int .i64 nr, .string info] 50) := ⟨_, rfl⟩
  have hbX : Below (w.setCell ⟨R, 9, none⟩ (.slice none 0 0)).heap.size (w.setCell ⟨R, 9, none⟩ (.slice none 0 0)) X := by rw [hX]; exact (Below.refl _ _).alloc (Nat.le_refl _) _
  rw [← hX] at hF h8
  have HM : Hid (Calls Tryz.prog 68 #[.int .i64 k, .bool c] X fun r w' => r = .returned (.bool (Xm.mayB k c)) ∧ (∀ v6 v5, Mv (Rn R) w w' lab { e with out := [] } ∧ Mv (Rn R) w ((w'.setCell ⟨w.heap.size, 6, none⟩ v6).setCell ⟨w.heap.size, 5, none⟩ v5) lab { e with out := [] }) ∧ FrC w' w.heap.size sapi tei c k pf ns nr info ∧ Eight w' w.heap.size) := by
    refine (ref_may_any k c X).mono ?_
    rintro r w' ⟨e1, hb⟩
    have hb2 := hbX.trans (hb.mono hbX.size)
    have hF' := hF.later hb
    exact ⟨e1, fun v6 v5 => rbeside h1 hk1 hl1 hz hb2 (by have := hF'.lt; omega) v6 v5, hF', h8.later hb⟩
  have hRB : ¬ R = w.heap.size := by omega
  have hBR : ¬ w.heap.size = R := by omega
  have b2 := hF.c2
  have b3 := hF.c3
  clear h h1 hk1 hl1 hbX h8 HX ok
  have bl := hF.lt
  clear hF
  unfold frmV
  have hme : Em.may ⟨sapi, tei, c, k, pf, ns, nr, info⟩ = (Xm.mayB k c && Xm.carB k info.size) := rfl
  rw [hme]
  clear hme
  have hHC := fun W => ref_carries_any k info.size W
  have HKN : Hid (Xm.mayB k c = true → 0 ≤ k ∧ k ≤ 9) := fun hx => Xm.may_known hx
  obtain ⟨mb, hmb⟩ : ∃ mb, mb = Xm.mayB k c := ⟨_, rfl⟩
  obtain ⟨cb, hcb⟩ : ∃ cb, cb = Xm.carB k info.size := ⟨_, rfl⟩
  rw [← hmb] at HM HKN ⊢
  rw [← hcb] at hHC ⊢
  clear hmb hcb
  go_enter Tryz.func32, Tryz.ntmps32
  go_wp2_with fail
  rw [← hX]
  refine HM.out.mono ?_
  rintro r w1 ⟨rfl, hMv, hF, h8⟩
  have HMV : Hid (∀ v6 v5, Mv (Rn R) w w1 lab { e with out := [] } ∧ Mv (Rn R) w ((w1.setCell ⟨w.heap.size, 6, none⟩ v6).setCell ⟨w.heap.size, 5, none⟩ v5) lab { e with out := [] }) := hMv
  have HE0 : Hid (Mv (Rn R) w w1 lab { e with out := [] }) := (hMv undef undef).1
  clear hMv HM hX b2 b3 bl hz g9 c9 hlt
  have p3 := hF.c3
  have p7 := hF.c7
  have pl := hF.lt
  go_wp2_with fail
  refine (hHC _).mono ?_
  rintro r w9 ⟨rfl, rfl⟩
  clear hHC
  have c2 : w1.cell? ⟨R, 2, none⟩ = some (.int .i64 e.tei) := (rcells HE0.out).c2
  have c1 : w1.cell? ⟨R, 1, none⟩ = some (.int .i64 e.state) := (rcells HE0.out).c1
  have hlt := (rcells HE0.out).lt
  by_cases ht : e.tei < 0
  · have hres : Em.frame e (mb && cb) ⟨sapi, tei, c, k, pf, ns, nr, info⟩ = { e with out := [] } := by unfold Em.frame; simp [ht]
    have HRES := (show Hid _ from hres)
    have hd : decide (e.tei < 0) = true := decide_eq_true ht
    clear hres hF h8 HMV HKN hok0
    generalize e.tei = te at c2 ht hd
    go_wp2
    refine bodyPost_ret (v := .tuple #[]) (results_none rfl _ _ _) rfl ?_
    exact ⟨rfl, by rw [HRES.out]; exact HE0.out⟩
  · have hd : decide (e.tei < 0) = false := decide_eq_false ht
    cases mb with
    | false =>
      have hres : Em.frame e (false && cb) ⟨sapi, tei, c, k, pf, ns, nr, info⟩ = { e with out := [] } := by unfold Em.frame; simp
      have HRES := (show Hid _ from hres)
      clear hres hF h8 HMV HKN hok0
      generalize e.tei = te at c2 ht hd
      go_wp2
      refine bodyPost_ret (v := .tuple #[]) (results_none rfl _ _ _) rfl ?_
      exact ⟨rfl, by rw [HRES.out]; exact HE0.out⟩
    | true =>
      cases cb with
      | false =>
        have hres : Em.frame e (true && false) ⟨sapi, tei, c, k, pf, ns, nr, info⟩ = { e with out := [] } := by unfold Em.frame; simp
        have HRES := (show Hid _ from hres)
        clear hres hF h8 HMV HKN hok0
        generalize e.tei = te at c2 ht hd
        go_wp2
        refine bodyPost_ret (v := .tuple #[]) (results_none rfl _ _ _) rfl ?_
        exact ⟨rfl, by rw [HRES.out]; exact HE0.out⟩
      | true =>
        have h4 : 4 ≤ e.state := by
          rcases (show e.state ≤ 3 ∨ 4 ≤ e.state by omega) with h3 | h4
          · have : e.tei = -1 := hok0.lo h3
            omega
          · exact h4
        have hs8 : e.state ≤ 8 := hok0.s1
        have hkk := HKN.out rfl
        have HFO : Hid (Em.FlOk e.fl) := hok0.fl
        have HEV : Hid (Mv (Rn R) w ((w1.setCell ⟨w.heap.size, 6, none⟩ (.int .i64 (Sm.nm nr))).setCell ⟨w.heap.size, 5, none⟩ (.int .i64 (Sm.nm ns))) lab { e with out := [] }) := (HMV.out (.int .i64 (Sm.nm nr)) (.int .i64 (Sm.nm ns))).2
        have HNR := fun W => ref_snorm_any nr W r0 r1
        have HNS := fun W => ref_snorm_any ns W s0 s1
        have HNM : Hid (-9223372036854775808 ≤ Sm.nm ns ∧ Sm.nm ns ≤ 9223372036854775807 ∧ -9223372036854775808 ≤ Sm.nm nr ∧ Sm.nm nr ≤ 9223372036854775807) := by
          have := Sm.nm_lo ns; have := Sm.nm_hi ns; have := Sm.nm_lo nr; have := Sm.nm_hi nr
          exact ⟨by omega, by omega, by omega, by omega⟩
        have p0 := hF.c0
        have p1 := hF.c1
        have p2 := hF.c2
        have p4 := hF.c4
        have p5 := hF.c5
        have p6 := hF.c6
        have q5 := h8.f 5 (by decide)
        have q6 := h8.f 6 (by decide)
        have HF9 : Hid (Em.frame e (true && true) ⟨sapi, tei, c, k, pf, ns, nr, info⟩ = if k = 6 then Em.tell { e with out := [] } 6 info else if e.state = 4 then Em.inAssigned { e with out := [] } ⟨sapi, tei, c, k, pf, Sm.nm ns, Sm.nm nr, info⟩ else if e.state = 5 then Em.inConnecting { e with out := [] } ⟨sapi, tei, c, k, pf, Sm.nm ns, Sm.nm nr, info⟩ else if e.state = 6 then Em.inReleasing { e with out := [] } ⟨sapi, tei, c, k, pf, Sm.nm ns, Sm.nm nr, info⟩ else Em.inOpen { e with out := [] } ⟨sapi, tei, c, k, pf, Sm.nm ns, Sm.nm nr, info⟩) := by
          show _ = _
          unfold Em.frame
          simp only [Bool.and_true]
          rw [if_neg (by rintro (hx | hx); exact ht hx; cases hx)]
        clear hF h8 HMV HKN hok0 HE0 s0 s1 r0 r1
        generalize hte : e.tei = te at c2 ht hd
        clear hte
        obtain ⟨vr, hvr⟩ : ∃ vr, vr = Sm.nm nr := ⟨_, rfl⟩
        obtain ⟨vs, hvs⟩ : ∃ vs, vs = Sm.nm ns := ⟨_, rfl⟩
        rw [← hvr] at HEV HNR HNM HF9
        rw [← hvs] at HEV HNS HNM HF9
        clear hvr hvs
        go_wp2_with fail
        refine (HNR _).mono ?_
        rintro r w9 ⟨rfl, rfl⟩
        clear HNR
        go_wp2_with fail
        refine (HNS _).mono ?_
        rintro r w9 ⟨rfl, rfl⟩
        clear HNS
        by_cases h6 : k = 6
        · subst h6
          have HR : Hid (Em.frame e (true && true) ⟨sapi, tei, c, 6, pf, ns, nr, info⟩ = Em.tell { e with out := [] } 6 info) := by show _ = _; rw [HF9.out, if_pos rfl]
          clear HF9
          go_wp2_with fail
          refine (HEV.out.call fun lab1 h1 => rtell_any R lab1 _ 6 info _ h1 (by show 0 ≤ _; omega)).mono ?_
          rintro r w2 ⟨rfl, hm⟩
          have HE1 := (show Hid _ from hm)
          clear hm HEV
          go_wp2
          refine bodyPost_ret (v := .tuple #[]) (results_none rfl _ _ _) rfl ?_
          exact ⟨rfl, by rw [HR.out]; exact HE1.out⟩
        · have n6 : (k == 6) = false := by simp; exact h6
          rcases (show e.state = 4 ∨ e.state = 5 ∨ e.state = 6 ∨ (e.state = 7 ∨ e.state = 8) by omega) with hs | hs | hs | hs
          · have HR : Hid (Em.frame e (true && true) ⟨sapi, tei, c, k, pf, ns, nr, info⟩ = Em.inAssigned { e with out := [] } ⟨sapi, tei, c, k, pf, vs, vr, info⟩) := by show _ = _; rw [HF9.out, if_neg h6, if_pos hs]
            rw [hs] at c1
            clear HF9 h4 hs8 hkk hs h6
            go_wp2_with fail
            refine (HEV.out.call fun lab1 h1 => rinAssigned_any R lab1 _ ⟨sapi, tei, c, k, pf, vs, vr, info⟩ _ h1 (by show 0 ≤ _; omega) HFO.out).mono ?_
            rintro r w2 ⟨rfl, hm⟩
            have HE1 := (show Hid _ from hm)
            clear hm HEV c1 c2 p0 p1 p2 p3 p4 p5 p6 p7 q5 q6 pl hlt
            go_wp2
            go_end0
            exact ⟨rfl, by rw [HR.out]; exact HE1.out⟩
          · have HR : Hid (Em.frame e (true && true) ⟨sapi, tei, c, k, pf, ns, nr, info⟩ = Em.inConnecting { e with out := [] } ⟨sapi, tei, c, k, pf, vs, vr, info⟩) := by show _ = _; rw [HF9.out, if_neg h6, if_neg (show ¬ e.state = 4 by omega), if_pos hs]
            rw [hs] at c1
            clear HF9 h4 hs8 hkk hs h6
            go_wp2_with fail
            refine (HEV.out.call fun lab1 h1 => rinConnecting_any R lab1 _ ⟨sapi, tei, c, k, pf, vs, vr, info⟩ _ h1 (by show 0 ≤ _; omega) HFO.out).mono ?_
            rintro r w2 ⟨rfl, hm⟩
            have HE1 := (show Hid _ from hm)
            clear hm HEV c1 c2 p0 p1 p2 p3 p4 p5 p6 p7 q5 q6 pl hlt
            go_wp2
            go_end0
            exact ⟨rfl, by rw [HR.out]; exact HE1.out⟩
          · have HR : Hid (Em.frame e (true && true) ⟨sapi, tei, c, k, pf, ns, nr, info⟩ = Em.inReleasing { e with out := [] } ⟨sapi, tei, c, k, pf, vs, vr, info⟩) := by show _ = _; rw [HF9.out, if_neg h6, if_neg (show ¬ e.state = 4 by omega), if_neg (show ¬ e.state = 5 by omega), if_pos hs]
            rw [hs] at c1
            clear HF9 h4 hs8 hkk hs h6
            go_wp2_with fail
            refine (HEV.out.call fun lab1 h1 => rinReleasing_any R lab1 _ ⟨sapi, tei, c, k, pf, vs, vr, info⟩ _ h1 (by show 0 ≤ _; omega) HFO.out).mono ?_
            rintro r w2 ⟨rfl, hm⟩
            have HE1 := (show Hid _ from hm)
            clear hm HEV c1 c2 p0 p1 p2 p3 p4 p5 p6 p7 q5 q6 pl hlt
            go_wp2
            go_end0
            exact ⟨rfl, by rw [HR.out]; exact HE1.out⟩
          · have HR : Hid (Em.frame e (true && true) ⟨sapi, tei, c, k, pf, ns, nr, info⟩ = Em.inOpen { e with out := [] } ⟨sapi, tei, c, k, pf, vs, vr, info⟩) := by show _ = _; rw [HF9.out, if_neg h6, if_neg (show ¬ e.state = 4 by omega), if_neg (show ¬ e.state = 5 by omega), if_neg (show ¬ e.state = 6 by omega)]
            have m4 : (e.state == 4) = false := by simp; omega
            have m5 : (e.state == 5) = false := by simp; omega
            have m6 : (e.state == 6) = false := by simp; omega
            have HS : Hid (e.state = 7 ∨ e.state = 8) := hs
            have HKK : Hid (0 ≤ k ∧ k ≤ 9 ∧ k ≠ 6) := ⟨hkk.1, hkk.2, h6⟩
            clear HF9 h4 hs8 hkk hs h6
            go_wp2_with fail
            refine (HEV.out.call fun lab1 h1 => rinOpen_any R lab1 _ ⟨sapi, tei, c, k, pf, vs, vr, info⟩ _ h1 (by show 0 ≤ _; omega) HFO.out HS.out HNM.out.1 HNM.out.2.1 HNM.out.2.2.1 HNM.out.2.2.2 HKK.out.1 HKK.out.2.1 HKK.out.2.2).mono ?_
            rintro r w2 ⟨rfl, hm⟩
            have HE1 := (show Hid _ from hm)
            clear hm HEV c1 c2 p0 p1 p2 p3 p4 p5 p6 p7 q5 q6 pl hlt
            go_wp2
            go_end0
            exact ⟨rfl, by rw [HR.out]; exact HE1.out⟩
end Go.Proofs.YtidemohpngkedabGreatDoor
