/-
  The walk of what the document's entity does when I frames come over a link that is open.
-/
import Derived.Test.YtidemohpngkedabGreatDoorRefMoves
import Derived.Test.YtidemohpngkedabGreatDoorEntLinked
import Derived.Deep.CutBlock
namespace Go.Proofs.YtidemohpngkedabGreatDoor
open Go.RowKit
set_option linter.unusedVariables false
set_option maxRecDepth 100000
set_option linter.unusedSimpArgs false

section
variable {R : Nat} {w wa w1 w2 : World} {lab : Nat → Nat} {e e1 : Em.St}
theorem rbox (h : Rn R w lab e) (hb : Below w.heap.size w wa) : Mv (Rn R) wa wa (fresh lab w.heap.size 0) e :=
  ((h.relab (fun k hk => fresh_old hk)).below hb).same (Below.refl _ _)
theorem runbox (hb : Below w.heap.size w wa) (h : Mv (Rn R) wa w1 (fresh lab w.heap.size 0) e1) : Mv (Rn R) w w1 lab e1 := by
  obtain ⟨lab1, h1, hk, hl⟩ := h
  refine ⟨lab1, h1, (Kept.of_below (T := fun k => lab k ≠ 0) hb (fun k hk h' => by omega)).trans hk (fun k hlt hx => by rw [fresh_old hlt] at hx; exact hx), fun k hlt => (hl k (Nat.lt_of_lt_of_le hlt hb.size)).trans (fresh_old hlt)⟩
theorem rfr {B : Nat} {sapi tei : Int} {c : Bool} {k : Int} {pf : Bool} {ns nr : Int} {info : ByteArray} (h : Mv (Rn R) wa w1 (fresh lab w.heap.size 0) e1) (hF : FrC wa B sapi tei c k pf ns nr info) (hB : w.heap.size ≤ B) : FrC w1 B sapi tei c k pf ns nr info := by
  obtain ⟨lab1, h1, hk, hl⟩ := h
  exact hF.kept (hk.block B hF.lt (fun hx => hx (fresh_new hB))) hk.size
theorem rf_below {F D : Nat} {H : Option Nat} {σ : Wm.St} {n : Nat} (h : Rf w F D H σ) (hb : Below n w w1) (hn : n = w.heap.size) : Rf w1 F D H σ := by
  subst hn
  exact h.kept (T := fun _ => False) (Kept.of_below hb (fun k hk h' => by omega)) (fun _ _ x => x)
theorem mvr_ahead {F D : Nat} {H : Option Nat} {σ : Wm.St} (hb : Below w.heap.size w w1) (h : Mvr w1 w2 F D H σ) : Mvr w w2 F D H σ := by
  obtain ⟨H', h1, hk, hf⟩ := h
  exact ⟨H', h1, (Kept.of_below (T := rtch F D H) hb (fun k hk h' => by omega)).trans hk (fun k _ x => x), fun B hB => (hf B hB).imp id (fun x => Nat.le_trans hb.size x)⟩
end

set_option maxHeartbeats 4000000 in
theorem rinfo_any (R : Nat) (lab : Nat → Nat) (e : Em.St) (f : Em.Fr) (w : World) (h : Rn R w lab e) (hl : e.out.length ≤ 200000) (ok : Em.FlOk e.fl) (s0 : -9223372036854775808 ≤ f.ns) (s1 : f.ns ≤ 9223372036854775807) (r0 : -9223372036854775808 ≤ f.nr) (r1 : f.nr ≤ 9223372036854775807) :
    Calls Tryz.prog 117 #[.pointer (some ⟨R, 0, none⟩), frmV f] w fun r w' => r = .returned (.tuple #[]) ∧ Mv (Rn R) w w' lab (Em.info e f) := by
  rw [Em.info_eq]
  obtain ⟨X, hX⟩ : ∃ X, X = Em.acked (Em.info1 e f) f.nr := ⟨_, rfl⟩
  rw [← hX]
  have HX : Hid (X = Em.acked (Em.info1 e f) f.nr) := hX
  clear hX
  obtain ⟨i1, i2, i3⟩ := Em.info1_fl e f
  have HI : Hid ((Em.info1 e f).fl = Wm.comeT e.fl f.ns ∧ (Em.info1 e f).state = e.state ∧ (Em.info1 e f).out.length ≤ e.out.length + 2) := ⟨i1, i2, i3⟩
  have HOK : Hid (Em.FlOk e.fl) := ok
  have HLE : Hid (e.out.length ≤ 200000) := hl
  clear i1 i2 i3 ok
  obtain ⟨sapi, tei, c, k, pf, ns, nr, info⟩ := f
  have hb : Below w.heap.size w (w.alloc (.cells #[.int .i64 sapi, .int .i64 tei, .bool c, .int .i64 k, .bool pf, .int .i64 ns, .int .i64 nr, .string info] 50)) := (Below.refl _ _).alloc (Nat.le_refl _) _
  have hF := frc_new w sapi tei c k pf ns nr info 50
  have hE := rbox h hb
  unfold frmV
  obtain ⟨wa, hwa⟩ : ∃ wa, wa = w.alloc (.cells #[.int .i64 sapi, .int .i64 tei, .bool c, .int .i64 k, .bool pf, .int .i64 ns, .int .i64 nr, .string info] 50) := ⟨_, rfl⟩
  rw [← hwa] at hb hF hE
  have HBW : Hid (Below w.heap.size w wa) := hb
  have HFR : Hid (FrC wa w.heap.size sapi tei c k pf ns nr info) := hF
  have HE0 : Hid (Mv (Rn R) wa wa (fresh lab w.heap.size 0) e) := hE
  clear h hE hF hb
  obtain ⟨F, D, H, fc, fC, fD, ffl, fmv⟩ := rflow HE0.out
  have HMV : Hid (∀ w' σ', Mvr wa w' F D H σ' → Mv (Rn R) wa w' (fresh lab w.heap.size 0) { e with fl := σ' }) := fmv
  have HC : Hid (∀ W, Below wa.heap.size wa W → Calls Tryz.prog 139 #[.pointer (some ⟨F, 0, none⟩), .int .i64 ns] W fun r w' => r = .returned (.int .i64 (Wm.comeN e.fl ns)) ∧ Mv (Rn R) wa w' (fresh lab w.heap.size 0) { e with fl := Wm.comeT e.fl ns }) := by
    intro W hW
    exact (rfcome_any F D H e.fl ns W (rf_below ffl hW rfl) HOK.out.ok s0 s1).mono fun r w' hx => ⟨hx.1, HMV.out _ _ (mvr_ahead hW hx.2)⟩
  clear ffl fmv
  have b5 := HFR.out.c5
  have bl := HFR.out.lt
  go_enter Tryz.func117, Tryz.ntmps117
  go_wp2_with fail
  rw [← hwa]
  have HWA : Hid (wa = w.alloc (.cells #[.int .i64 sapi, .int .i64 tei, .bool c, .int .i64 k, .bool pf, .int .i64 ns, .int .i64 nr, .string info] 50)) := hwa
  clear hwa
  go_upto_region 1 with fail
  go_cut [4] from 7 to 13 (fun s12 wx => s12 = .int .i64 (Wm.comeN e.fl ns) ∧ Hid (Mv (Rn R) wa wx (fresh lab w.heap.size 0) { e with fl := Wm.comeT e.fl ns }))
  case first =>
    go_region_with (go_at_call 139; refine (HC.out _ (Below.refl _ _).drew).mono ?_; rintro r w1 ⟨rfl, hm⟩)
    all_goals
      have HEm : Hid (Mv (Rn R) wa w1 (fresh lab w.heap.size 0) { e with fl := Wm.comeT e.fl ns }) := hm
      clear hm
      go_wp2_with fail
      go_meet
      case rel => exact ⟨rfl, HEm⟩
  obtain ⟨rfl, HE1⟩ := hcut
  obtain ⟨w1, hw1⟩ : ∃ w1, w1 = wc := ⟨_, rfl⟩
  rw [← hw1] at HE1 ⊢
  clear hw1 wc
  have hF1 := rfr HE1.out HFR.out (Nat.le_refl _)
  have p4 := hF1.c4
  have p7 := hF1.c7
  have pl := hF1.lt
  clear HMV HC HE0 b5 bl fc fC fD hF1
  have hinf := Em.inf_eq e ⟨sapi, tei, c, k, pf, ns, nr, info⟩
  simp only [] at hinf
  have HINF : Hid (Em.info1 e ⟨sapi, tei, c, k, pf, ns, nr, info⟩ = Em.inf { e with fl := Wm.comeT e.fl ns } (Wm.comeN e.fl ns) pf info) := hinf
  clear hinf
  obtain ⟨e1, he1⟩ : ∃ e1, e1 = ({ e with fl := Wm.comeT e.fl ns } : Em.St) := ⟨_, rfl⟩
  have hl1 : e1.out.length ≤ 200000 := by rw [he1]; exact hl
  rw [← he1] at HE1 HINF
  have hways := Em.comeN_ways e.fl ns
  obtain ⟨g, hg⟩ : ∃ g, g = Wm.comeN e.fl ns := ⟨_, rfl⟩
  rw [← hg] at HINF hways ⊢
  clear he1 hg
  rcases hways with rfl | rfl | rfl | rfl
  · go_wp2_with fail
    refine (HE1.out.call fun lab1 h1 => rtell_any R lab1 _ 5 info _ h1 (by omega)).mono ?_
    rintro r wy ⟨rfl, hm⟩
    have HE2 : Hid (Mv (Rn R) wa wy (fresh lab w.heap.size 0) (Em.tell e1 5 info)) := hm
    have hF1 := rfr HE2.out HFR.out (Nat.le_refl _)
    have q4 := hF1.c4
    have ql := hF1.lt
    clear hm HE1 hF1 p4 p7 pl
    go_wp2_with fail
    refine (HE2.out.call fun lab1 h1 => ranswer_any R lab1 _ false pf _ h1 (by rw [Em.len_tell]; omega)).mono ?_
    rintro r wz ⟨rfl, hm⟩
    have HEY : Hid (Mv (Rn R) wa wz (fresh lab w.heap.size 0) (Em.answer (Em.tell e1 5 info) false pf)) := hm
    clear hm HE2 q4 ql
    have hFq := rfr HEY.out HFR.out (Nat.le_refl _)
    have q4 := hFq.c4
    have ql := hFq.lt
    clear hFq
    go_upto_region 9 with fail
    clear q4 ql
    have hcut : Mv (Rn R) wa wz (fresh lab w.heap.size 0) (Em.inf e1 0 pf info) := HEY.out
    obtain ⟨wc, hwc⟩ : ∃ wc, wc = wz := ⟨_, rfl⟩
    rw [← hwc] at hcut
    rw [← hwc]
    clear hwc HEY
    rw [← HINF.out] at hcut
    clear HINF hl1 e1
    have HE2 : Hid (Mv (Rn R) wa wc (fresh lab w.heap.size 0) (Em.info1 e ⟨sapi, tei, c, k, pf, ns, nr, info⟩)) := hcut
    clear hcut
    obtain ⟨e2, he2⟩ : ∃ e2, e2 = Em.info1 e ⟨sapi, tei, c, k, pf, ns, nr, info⟩ := ⟨_, rfl⟩
    rw [← he2] at HE2 HI
    have HX2 : Hid (X = Em.acked e2 nr) := by rw [he2]; exact HX.out
    clear HX
    have hl2 : e2.out.length ≤ 200002 := by have := HI.out.2.2; omega
    have hok2 : Em.FlOk e2.fl := by rw [HI.out.1]; exact HOK.out.come _
    have HOK2 : Hid (Em.FlOk e2.fl) := hok2
    clear he2 HI HOK HLE hl hok2
    have hF2 := rfr HE2.out HFR.out (Nat.le_refl _)
    have b6 := hF2.c6
    have bl := hF2.lt
    clear hF2
    obtain ⟨F2, D2, H2, gc, gC, gD, gfl, gmv⟩ := rflow HE2.out
    have HMV2 : Hid (∀ w' σ', Mvr wc w' F2 D2 H2 σ' → Mv (Rn R) wa w' (fresh lab w.heap.size 0) { e2 with fl := σ' }) := gmv
    have HC2 : Hid (∀ W, Below wc.heap.size wc W → Calls Tryz.prog 140 #[.pointer (some ⟨F2, 0, none⟩), .int .i64 nr] W fun r w' => r = .returned (.tuple #[.int .i64 (Wm.ackN e2.fl nr), .int .i64 (Wm.ackE e2.fl nr)]) ∧ Mv (Rn R) wa w' (fresh lab w.heap.size 0) { e2 with fl := Wm.ackT e2.fl nr }) := by
      intro W hW
      exact (rfack_any F2 D2 H2 e2.fl nr W (rf_below gfl hW rfl) HOK2.out.ok r0 r1).mono fun r w' hx => ⟨hx.1, HMV2.out _ _ (mvr_ahead hW hx.2)⟩
    clear gfl gmv
    obtain ⟨w2, hw2⟩ : ∃ w2, w2 = wc := ⟨_, rfl⟩
    rw [← hw2] at HE2 HMV2 HC2 gc gC gD b6 bl ⊢
    clear hw2 wc
    go_cut [5, 6] from 43 to 52 (fun s4 s5 wx => s4 = .int .i64 (Wm.ackN e2.fl nr) ∧ s5 = .int .i64 (Wm.ackE e2.fl nr) ∧ Hid (Mv (Rn R) wa wx (fresh lab w.heap.size 0) { e2 with fl := Wm.ackT e2.fl nr }))
    case first =>
      go_region_with (go_at_call 140; refine (HC2.out _ (Below.refl _ _).drew).mono ?_; rintro r w3 ⟨rfl, hm⟩)
      all_goals
        have HEm : Hid (Mv (Rn R) wa w3 (fresh lab w.heap.size 0) { e2 with fl := Wm.ackT e2.fl nr }) := hm
        clear hm
        go_wp2_with fail
        go_meet
        case rel => exact ⟨rfl, rfl, HEm⟩
    case rest =>
      obtain ⟨rfl, rfl, HE3⟩ := hcut
      obtain ⟨w3, hw3⟩ : ∃ w3, w3 = wc := ⟨_, rfl⟩
      rw [← hw3] at HE3 ⊢
      clear hw3 wc HE2 HMV2 HC2 gc gC gD b6 bl
      have hE : Wm.ackE e2.fl nr = if Wm.ackB e2.fl nr then 0 else 2 := rfl
      rw [hE]
      have hX3 := HX2.out
      unfold Em.acked at hX3
      clear HX2
      have HOK3 : Hid (Em.FlOk (Wm.ackT e2.fl nr)) := HOK2.out.ack nr
      have HPE : Hid ((Wm.ackT e2.fl nr).pe = e2.fl.pe) := Em.ackT_pe _ _
      clear HOK2 hE
      generalize Wm.ackN e2.fl nr = an at hX3 ⊢
      generalize Wm.ackT e2.fl nr = σ3 at HE3 HOK3 HPE hX3
      cases hb : Wm.ackB e2.fl nr with
      | false =>
        rw [hb, if_neg (by decide)] at hX3
        have HX3 := (show Hid _ from hX3)
        rw [if_neg (by decide)]
        clear hb hX3
        go_wp2_with fail
        refine (HE3.out.call fun lab1 h1 => ranew_any R lab1 _ (Em.letter 74) _ h1 (by show e2.out.length ≤ _; omega)).mono ?_
        rintro r w4 ⟨rfl, hm⟩
        have HE4 : Hid (Mv (Rn R) wa w4 (fresh lab w.heap.size 0) (Em.anew { e2 with fl := σ3 } (Em.letter 74))) := hm
        clear hm HE3
        go_wp2
        refine bodyPost_ret (v := .tuple #[]) (results_none rfl _ _ _) rfl ?_
        exact ⟨rfl, by rw [HX3.out]; exact runbox HBW.out HE4.out⟩
      | true =>
        rw [hb, if_pos rfl] at hX3
        rw [if_pos rfl]
        clear hb
        have ha3 := rcells HE3.out
        have k0 := ha3.c1
        have l3 := ha3.lt
        clear ha3
        by_cases hs : e2.state = 7
        · rw [if_pos hs] at hX3
          have hs' : ({ e2 with fl := σ3 } : Em.St).state = 7 := hs
          rw [hs'] at k0
          clear hs hs'
          obtain ⟨F3, D3, H3, fc, fC, fD, ffl, -⟩ := rflow HE3.out
          have HV := ffl.fr.c3
          clear ffl
          have HPE' : Hid (σ3.pe = e2.fl.pe) := HPE
          rw [← HPE'.out] at hX3
          cases hp : σ3.pe with
          | true =>
            have hp' : ({ e2 with fl := σ3 } : Em.St).fl.pe = true := hp
            rw [hp'] at HV
            rw [hp, if_pos rfl] at hX3
            have HX3 := (show Hid _ from hX3)
            clear hX3
            clear hp hp' HPE HPE'
            have HE4 : Hid (Mv (Rn R) wa w3 (fresh lab w.heap.size 0) { e2 with fl := σ3 }) := HE3.out
            clear HE3
            go_wp2_with fail
            refine (HE4.out.call fun lab1 h1 => rgoOn_any R lab1 _ _ h1 (by show e2.out.length ≤ _; omega) HOK3.out).mono ?_
            rintro r w5 ⟨rfl, hm⟩
            have HE5 : Hid (Mv (Rn R) wa w5 (fresh lab w.heap.size 0) (Em.goOn { e2 with fl := σ3 })) := hm
            clear hm HE4 HV k0 l3 fc fC fD
            go_wp2
            go_end0
            exact ⟨rfl, by rw [HX3.out]; exact runbox HBW.out HE5.out⟩
          | false =>
            have hp' : ({ e2 with fl := σ3 } : Em.St).fl.pe = false := hp
            rw [hp'] at HV
            rw [hp, if_neg (by decide)] at hX3
            have HX3 := (show Hid _ from hX3)
            clear hX3
            clear hp hp' HPE HPE'
            have HE4 : Hid (Mv (Rn R) wa w3 (fresh lab w.heap.size 0) { e2 with fl := σ3 }) := HE3.out
            clear HE3
            go_wp2_with fail
            refine (HE4.out.call fun lab1 h1 => rcount_any R lab1 _ an _ h1 (by show e2.out.length ≤ _; omega)).mono ?_
            rintro r w5 ⟨rfl, hm⟩
            have HE5 : Hid (Mv (Rn R) wa w5 (fresh lab w.heap.size 0) (Em.count { e2 with fl := σ3 } an)) := hm
            clear hm HE4 HV k0 l3 fc fC fD
            go_wp2_with fail
            refine (HE5.out.call fun lab1 h1 => rgoOn_any R lab1 _ _ h1 (by have := Em.len_count { e2 with fl := σ3 } an; have h2 : ({ e2 with fl := σ3 } : Em.St).out.length = e2.out.length := rfl; omega) (by rw [(Em.count_keep _ _).fl]; exact HOK3.out)).mono ?_
            rintro r w6 ⟨rfl, hm⟩
            have HE6 : Hid (Mv (Rn R) wa w6 (fresh lab w.heap.size 0) (Em.goOn (Em.count { e2 with fl := σ3 } an))) := hm
            clear hm HE5
            go_wp2
            go_end0
            exact ⟨rfl, by rw [HX3.out]; exact runbox HBW.out HE6.out⟩
        · rw [if_neg hs] at hX3
          have HX3 := (show Hid _ from hX3)
          clear hX3
          have hs' : ({ e2 with fl := σ3 } : Em.St).state = e2.state := rfl
          rw [hs'] at k0
          have hne : (e2.state == 7) = false := by simp; exact hs
          have hne2 : (e2.state != 7) = true := by simp; exact hs
          clear hs hs' HPE
          go_wp2
          refine bodyPost_ret (v := .tuple #[]) (results_none rfl _ _ _) rfl ?_
          exact ⟨rfl, by rw [HX3.out]; exact runbox HBW.out HE3.out⟩
  · go_wp2_with fail
    refine (HE1.out.call fun lab1 h1 => rsend_any R lab1 _ (Em.bare false 3 pf) _ h1 (by omega)).mono ?_
    rintro r wz ⟨rfl, hm⟩
    have HEY : Hid (Mv (Rn R) wa wz (fresh lab w.heap.size 0) (Em.send e1 (Em.bare false 3 pf))) := hm
    clear hm HE1 p4 p7 pl
    go_upto_region 9 with fail
    have hcut : Mv (Rn R) wa wz (fresh lab w.heap.size 0) (Em.inf e1 1 pf info) := HEY.out
    obtain ⟨wc, hwc⟩ : ∃ wc, wc = wz := ⟨_, rfl⟩
    rw [← hwc] at hcut
    rw [← hwc]
    clear hwc HEY
    rw [← HINF.out] at hcut
    clear HINF hl1 e1
    have HE2 : Hid (Mv (Rn R) wa wc (fresh lab w.heap.size 0) (Em.info1 e ⟨sapi, tei, c, k, pf, ns, nr, info⟩)) := hcut
    clear hcut
    obtain ⟨e2, he2⟩ : ∃ e2, e2 = Em.info1 e ⟨sapi, tei, c, k, pf, ns, nr, info⟩ := ⟨_, rfl⟩
    rw [← he2] at HE2 HI
    have HX2 : Hid (X = Em.acked e2 nr) := by rw [he2]; exact HX.out
    clear HX
    have hl2 : e2.out.length ≤ 200002 := by have := HI.out.2.2; omega
    have hok2 : Em.FlOk e2.fl := by rw [HI.out.1]; exact HOK.out.come _
    have HOK2 : Hid (Em.FlOk e2.fl) := hok2
    clear he2 HI HOK HLE hl hok2
    have hF2 := rfr HE2.out HFR.out (Nat.le_refl _)
    have b6 := hF2.c6
    have bl := hF2.lt
    clear hF2
    obtain ⟨F2, D2, H2, gc, gC, gD, gfl, gmv⟩ := rflow HE2.out
    have HMV2 : Hid (∀ w' σ', Mvr wc w' F2 D2 H2 σ' → Mv (Rn R) wa w' (fresh lab w.heap.size 0) { e2 with fl := σ' }) := gmv
    have HC2 : Hid (∀ W, Below wc.heap.size wc W → Calls Tryz.prog 140 #[.pointer (some ⟨F2, 0, none⟩), .int .i64 nr] W fun r w' => r = .returned (.tuple #[.int .i64 (Wm.ackN e2.fl nr), .int .i64 (Wm.ackE e2.fl nr)]) ∧ Mv (Rn R) wa w' (fresh lab w.heap.size 0) { e2 with fl := Wm.ackT e2.fl nr }) := by
      intro W hW
      exact (rfack_any F2 D2 H2 e2.fl nr W (rf_below gfl hW rfl) HOK2.out.ok r0 r1).mono fun r w' hx => ⟨hx.1, HMV2.out _ _ (mvr_ahead hW hx.2)⟩
    clear gfl gmv
    obtain ⟨w2, hw2⟩ : ∃ w2, w2 = wc := ⟨_, rfl⟩
    rw [← hw2] at HE2 HMV2 HC2 gc gC gD b6 bl ⊢
    clear hw2 wc
    go_cut [5, 6] from 43 to 52 (fun s4 s5 wx => s4 = .int .i64 (Wm.ackN e2.fl nr) ∧ s5 = .int .i64 (Wm.ackE e2.fl nr) ∧ Hid (Mv (Rn R) wa wx (fresh lab w.heap.size 0) { e2 with fl := Wm.ackT e2.fl nr }))
    case first =>
      go_region_with (go_at_call 140; refine (HC2.out _ (Below.refl _ _).drew).mono ?_; rintro r w3 ⟨rfl, hm⟩)
      all_goals
        have HEm : Hid (Mv (Rn R) wa w3 (fresh lab w.heap.size 0) { e2 with fl := Wm.ackT e2.fl nr }) := hm
        clear hm
        go_wp2_with fail
        go_meet
        case rel => exact ⟨rfl, rfl, HEm⟩
    case rest =>
      obtain ⟨rfl, rfl, HE3⟩ := hcut
      obtain ⟨w3, hw3⟩ : ∃ w3, w3 = wc := ⟨_, rfl⟩
      rw [← hw3] at HE3 ⊢
      clear hw3 wc HE2 HMV2 HC2 gc gC gD b6 bl
      have hE : Wm.ackE e2.fl nr = if Wm.ackB e2.fl nr then 0 else 2 := rfl
      rw [hE]
      have hX3 := HX2.out
      unfold Em.acked at hX3
      clear HX2
      have HOK3 : Hid (Em.FlOk (Wm.ackT e2.fl nr)) := HOK2.out.ack nr
      have HPE : Hid ((Wm.ackT e2.fl nr).pe = e2.fl.pe) := Em.ackT_pe _ _
      clear HOK2 hE
      generalize Wm.ackN e2.fl nr = an at hX3 ⊢
      generalize Wm.ackT e2.fl nr = σ3 at HE3 HOK3 HPE hX3
      cases hb : Wm.ackB e2.fl nr with
      | false =>
        rw [hb, if_neg (by decide)] at hX3
        have HX3 := (show Hid _ from hX3)
        rw [if_neg (by decide)]
        clear hb hX3
        go_wp2_with fail
        refine (HE3.out.call fun lab1 h1 => ranew_any R lab1 _ (Em.letter 74) _ h1 (by show e2.out.length ≤ _; omega)).mono ?_
        rintro r w4 ⟨rfl, hm⟩
        have HE4 : Hid (Mv (Rn R) wa w4 (fresh lab w.heap.size 0) (Em.anew { e2 with fl := σ3 } (Em.letter 74))) := hm
        clear hm HE3
        go_wp2
        refine bodyPost_ret (v := .tuple #[]) (results_none rfl _ _ _) rfl ?_
        exact ⟨rfl, by rw [HX3.out]; exact runbox HBW.out HE4.out⟩
      | true =>
        rw [hb, if_pos rfl] at hX3
        rw [if_pos rfl]
        clear hb
        have ha3 := rcells HE3.out
        have k0 := ha3.c1
        have l3 := ha3.lt
        clear ha3
        by_cases hs : e2.state = 7
        · rw [if_pos hs] at hX3
          have hs' : ({ e2 with fl := σ3 } : Em.St).state = 7 := hs
          rw [hs'] at k0
          clear hs hs'
          obtain ⟨F3, D3, H3, fc, fC, fD, ffl, -⟩ := rflow HE3.out
          have HV := ffl.fr.c3
          clear ffl
          have HPE' : Hid (σ3.pe = e2.fl.pe) := HPE
          rw [← HPE'.out] at hX3
          cases hp : σ3.pe with
          | true =>
            have hp' : ({ e2 with fl := σ3 } : Em.St).fl.pe = true := hp
            rw [hp'] at HV
            rw [hp, if_pos rfl] at hX3
            have HX3 := (show Hid _ from hX3)
            clear hX3
            clear hp hp' HPE HPE'
            have HE4 : Hid (Mv (Rn R) wa w3 (fresh lab w.heap.size 0) { e2 with fl := σ3 }) := HE3.out
            clear HE3
            go_wp2_with fail
            refine (HE4.out.call fun lab1 h1 => rgoOn_any R lab1 _ _ h1 (by show e2.out.length ≤ _; omega) HOK3.out).mono ?_
            rintro r w5 ⟨rfl, hm⟩
            have HE5 : Hid (Mv (Rn R) wa w5 (fresh lab w.heap.size 0) (Em.goOn { e2 with fl := σ3 })) := hm
            clear hm HE4 HV k0 l3 fc fC fD
            go_wp2
            go_end0
            exact ⟨rfl, by rw [HX3.out]; exact runbox HBW.out HE5.out⟩
          | false =>
            have hp' : ({ e2 with fl := σ3 } : Em.St).fl.pe = false := hp
            rw [hp'] at HV
            rw [hp, if_neg (by decide)] at hX3
            have HX3 := (show Hid _ from hX3)
            clear hX3
            clear hp hp' HPE HPE'
            have HE4 : Hid (Mv (Rn R) wa w3 (fresh lab w.heap.size 0) { e2 with fl := σ3 }) := HE3.out
            clear HE3
            go_wp2_with fail
            refine (HE4.out.call fun lab1 h1 => rcount_any R lab1 _ an _ h1 (by show e2.out.length ≤ _; omega)).mono ?_
            rintro r w5 ⟨rfl, hm⟩
            have HE5 : Hid (Mv (Rn R) wa w5 (fresh lab w.heap.size 0) (Em.count { e2 with fl := σ3 } an)) := hm
            clear hm HE4 HV k0 l3 fc fC fD
            go_wp2_with fail
            refine (HE5.out.call fun lab1 h1 => rgoOn_any R lab1 _ _ h1 (by have := Em.len_count { e2 with fl := σ3 } an; have h2 : ({ e2 with fl := σ3 } : Em.St).out.length = e2.out.length := rfl; omega) (by rw [(Em.count_keep _ _).fl]; exact HOK3.out)).mono ?_
            rintro r w6 ⟨rfl, hm⟩
            have HE6 : Hid (Mv (Rn R) wa w6 (fresh lab w.heap.size 0) (Em.goOn (Em.count { e2 with fl := σ3 } an))) := hm
            clear hm HE5
            go_wp2
            go_end0
            exact ⟨rfl, by rw [HX3.out]; exact runbox HBW.out HE6.out⟩
        · rw [if_neg hs] at hX3
          have HX3 := (show Hid _ from hX3)
          clear hX3
          have hs' : ({ e2 with fl := σ3 } : Em.St).state = e2.state := rfl
          rw [hs'] at k0
          have hne : (e2.state == 7) = false := by simp; exact hs
          have hne2 : (e2.state != 7) = true := by simp; exact hs
          clear hs hs' HPE
          go_wp2
          refine bodyPost_ret (v := .tuple #[]) (results_none rfl _ _ _) rfl ?_
          exact ⟨rfl, by rw [HX3.out]; exact runbox HBW.out HE3.out⟩
  · cases pf with
    | true =>
      go_wp2_with fail
      refine (HE1.out.call fun lab1 h1 => ranswer_any R lab1 _ false true _ h1 (by omega)).mono ?_
      rintro r wz ⟨rfl, hm⟩
      have HEY : Hid (Mv (Rn R) wa wz (fresh lab w.heap.size 0) (Em.answer e1 false true)) := hm
      clear hm HE1 p4 p7 pl
      go_upto_region 9 with fail
      have hcut : Mv (Rn R) wa wz (fresh lab w.heap.size 0) (Em.inf e1 2 true info) := HEY.out
      obtain ⟨wc, hwc⟩ : ∃ wc, wc = wz := ⟨_, rfl⟩
      rw [← hwc] at hcut
      rw [← hwc]
      clear hwc HEY
      rw [← HINF.out] at hcut
      clear HINF hl1 e1
      have HE2 : Hid (Mv (Rn R) wa wc (fresh lab w.heap.size 0) (Em.info1 e ⟨sapi, tei, c, k, true, ns, nr, info⟩)) := hcut
      clear hcut
      obtain ⟨e2, he2⟩ : ∃ e2, e2 = Em.info1 e ⟨sapi, tei, c, k, true, ns, nr, info⟩ := ⟨_, rfl⟩
      rw [← he2] at HE2 HI
      have HX2 : Hid (X = Em.acked e2 nr) := by rw [he2]; exact HX.out
      clear HX
      have hl2 : e2.out.length ≤ 200002 := by have := HI.out.2.2; omega
      have hok2 : Em.FlOk e2.fl := by rw [HI.out.1]; exact HOK.out.come _
      have HOK2 : Hid (Em.FlOk e2.fl) := hok2
      clear he2 HI HOK HLE hl hok2
      have hF2 := rfr HE2.out HFR.out (Nat.le_refl _)
      have b6 := hF2.c6
      have bl := hF2.lt
      clear hF2
      obtain ⟨F2, D2, H2, gc, gC, gD, gfl, gmv⟩ := rflow HE2.out
      have HMV2 : Hid (∀ w' σ', Mvr wc w' F2 D2 H2 σ' → Mv (Rn R) wa w' (fresh lab w.heap.size 0) { e2 with fl := σ' }) := gmv
      have HC2 : Hid (∀ W, Below wc.heap.size wc W → Calls Tryz.prog 140 #[.pointer (some ⟨F2, 0, none⟩), .int .i64 nr] W fun r w' => r = .returned (.tuple #[.int .i64 (Wm.ackN e2.fl nr), .int .i64 (Wm.ackE e2.fl nr)]) ∧ Mv (Rn R) wa w' (fresh lab w.heap.size 0) { e2 with fl := Wm.ackT e2.fl nr }) := by
        intro W hW
        exact (rfack_any F2 D2 H2 e2.fl nr W (rf_below gfl hW rfl) HOK2.out.ok r0 r1).mono fun r w' hx => ⟨hx.1, HMV2.out _ _ (mvr_ahead hW hx.2)⟩
      clear gfl gmv
      obtain ⟨w2, hw2⟩ : ∃ w2, w2 = wc := ⟨_, rfl⟩
      rw [← hw2] at HE2 HMV2 HC2 gc gC gD b6 bl ⊢
      clear hw2 wc
      go_cut [5, 6] from 43 to 52 (fun s4 s5 wx => s4 = .int .i64 (Wm.ackN e2.fl nr) ∧ s5 = .int .i64 (Wm.ackE e2.fl nr) ∧ Hid (Mv (Rn R) wa wx (fresh lab w.heap.size 0) { e2 with fl := Wm.ackT e2.fl nr }))
      case first =>
        go_region_with (go_at_call 140; refine (HC2.out _ (Below.refl _ _).drew).mono ?_; rintro r w3 ⟨rfl, hm⟩)
        all_goals
          have HEm : Hid (Mv (Rn R) wa w3 (fresh lab w.heap.size 0) { e2 with fl := Wm.ackT e2.fl nr }) := hm
          clear hm
          go_wp2_with fail
          go_meet
          case rel => exact ⟨rfl, rfl, HEm⟩
      case rest =>
        obtain ⟨rfl, rfl, HE3⟩ := hcut
        obtain ⟨w3, hw3⟩ : ∃ w3, w3 = wc := ⟨_, rfl⟩
        rw [← hw3] at HE3 ⊢
        clear hw3 wc HE2 HMV2 HC2 gc gC gD b6 bl
        have hE : Wm.ackE e2.fl nr = if Wm.ackB e2.fl nr then 0 else 2 := rfl
        rw [hE]
        have hX3 := HX2.out
        unfold Em.acked at hX3
        clear HX2
        have HOK3 : Hid (Em.FlOk (Wm.ackT e2.fl nr)) := HOK2.out.ack nr
        have HPE : Hid ((Wm.ackT e2.fl nr).pe = e2.fl.pe) := Em.ackT_pe _ _
        clear HOK2 hE
        generalize Wm.ackN e2.fl nr = an at hX3 ⊢
        generalize Wm.ackT e2.fl nr = σ3 at HE3 HOK3 HPE hX3
        cases hb : Wm.ackB e2.fl nr with
        | false =>
          rw [hb, if_neg (by decide)] at hX3
          have HX3 := (show Hid _ from hX3)
          rw [if_neg (by decide)]
          clear hb hX3
          go_wp2_with fail
          refine (HE3.out.call fun lab1 h1 => ranew_any R lab1 _ (Em.letter 74) _ h1 (by show e2.out.length ≤ _; omega)).mono ?_
          rintro r w4 ⟨rfl, hm⟩
          have HE4 : Hid (Mv (Rn R) wa w4 (fresh lab w.heap.size 0) (Em.anew { e2 with fl := σ3 } (Em.letter 74))) := hm
          clear hm HE3
          go_wp2
          refine bodyPost_ret (v := .tuple #[]) (results_none rfl _ _ _) rfl ?_
          exact ⟨rfl, by rw [HX3.out]; exact runbox HBW.out HE4.out⟩
        | true =>
          rw [hb, if_pos rfl] at hX3
          rw [if_pos rfl]
          clear hb
          have ha3 := rcells HE3.out
          have k0 := ha3.c1
          have l3 := ha3.lt
          clear ha3
          by_cases hs : e2.state = 7
          · rw [if_pos hs] at hX3
            have hs' : ({ e2 with fl := σ3 } : Em.St).state = 7 := hs
            rw [hs'] at k0
            clear hs hs'
            obtain ⟨F3, D3, H3, fc, fC, fD, ffl, -⟩ := rflow HE3.out
            have HV := ffl.fr.c3
            clear ffl
            have HPE' : Hid (σ3.pe = e2.fl.pe) := HPE
            rw [← HPE'.out] at hX3
            cases hp : σ3.pe with
            | true =>
              have hp' : ({ e2 with fl := σ3 } : Em.St).fl.pe = true := hp
              rw [hp'] at HV
              rw [hp, if_pos rfl] at hX3
              have HX3 := (show Hid _ from hX3)
              clear hX3
              clear hp hp' HPE HPE'
              have HE4 : Hid (Mv (Rn R) wa w3 (fresh lab w.heap.size 0) { e2 with fl := σ3 }) := HE3.out
              clear HE3
              go_wp2_with fail
              refine (HE4.out.call fun lab1 h1 => rgoOn_any R lab1 _ _ h1 (by show e2.out.length ≤ _; omega) HOK3.out).mono ?_
              rintro r w5 ⟨rfl, hm⟩
              have HE5 : Hid (Mv (Rn R) wa w5 (fresh lab w.heap.size 0) (Em.goOn { e2 with fl := σ3 })) := hm
              clear hm HE4 HV k0 l3 fc fC fD
              go_wp2
              go_end0
              exact ⟨rfl, by rw [HX3.out]; exact runbox HBW.out HE5.out⟩
            | false =>
              have hp' : ({ e2 with fl := σ3 } : Em.St).fl.pe = false := hp
              rw [hp'] at HV
              rw [hp, if_neg (by decide)] at hX3
              have HX3 := (show Hid _ from hX3)
              clear hX3
              clear hp hp' HPE HPE'
              have HE4 : Hid (Mv (Rn R) wa w3 (fresh lab w.heap.size 0) { e2 with fl := σ3 }) := HE3.out
              clear HE3
              go_wp2_with fail
              refine (HE4.out.call fun lab1 h1 => rcount_any R lab1 _ an _ h1 (by show e2.out.length ≤ _; omega)).mono ?_
              rintro r w5 ⟨rfl, hm⟩
              have HE5 : Hid (Mv (Rn R) wa w5 (fresh lab w.heap.size 0) (Em.count { e2 with fl := σ3 } an)) := hm
              clear hm HE4 HV k0 l3 fc fC fD
              go_wp2_with fail
              refine (HE5.out.call fun lab1 h1 => rgoOn_any R lab1 _ _ h1 (by have := Em.len_count { e2 with fl := σ3 } an; have h2 : ({ e2 with fl := σ3 } : Em.St).out.length = e2.out.length := rfl; omega) (by rw [(Em.count_keep _ _).fl]; exact HOK3.out)).mono ?_
              rintro r w6 ⟨rfl, hm⟩
              have HE6 : Hid (Mv (Rn R) wa w6 (fresh lab w.heap.size 0) (Em.goOn (Em.count { e2 with fl := σ3 } an))) := hm
              clear hm HE5
              go_wp2
              go_end0
              exact ⟨rfl, by rw [HX3.out]; exact runbox HBW.out HE6.out⟩
          · rw [if_neg hs] at hX3
            have HX3 := (show Hid _ from hX3)
            clear hX3
            have hs' : ({ e2 with fl := σ3 } : Em.St).state = e2.state := rfl
            rw [hs'] at k0
            have hne : (e2.state == 7) = false := by simp; exact hs
            have hne2 : (e2.state != 7) = true := by simp; exact hs
            clear hs hs' HPE
            go_wp2
            refine bodyPost_ret (v := .tuple #[]) (results_none rfl _ _ _) rfl ?_
            exact ⟨rfl, by rw [HX3.out]; exact runbox HBW.out HE3.out⟩
    | false =>
      go_upto_region 9 with fail
      clear p4 p7 pl
      have hcut : Mv (Rn R) wa w1 (fresh lab w.heap.size 0) (Em.inf e1 2 false info) := HE1.out
      obtain ⟨wc, hwc⟩ : ∃ wc, wc = w1 := ⟨_, rfl⟩
      rw [← hwc] at hcut
      rw [← hwc]
      clear hwc HE1
      rw [← HINF.out] at hcut
      clear HINF hl1 e1
      have HE2 : Hid (Mv (Rn R) wa wc (fresh lab w.heap.size 0) (Em.info1 e ⟨sapi, tei, c, k, false, ns, nr, info⟩)) := hcut
      clear hcut
      obtain ⟨e2, he2⟩ : ∃ e2, e2 = Em.info1 e ⟨sapi, tei, c, k, false, ns, nr, info⟩ := ⟨_, rfl⟩
      rw [← he2] at HE2 HI
      have HX2 : Hid (X = Em.acked e2 nr) := by rw [he2]; exact HX.out
      clear HX
      have hl2 : e2.out.length ≤ 200002 := by have := HI.out.2.2; omega
      have hok2 : Em.FlOk e2.fl := by rw [HI.out.1]; exact HOK.out.come _
      have HOK2 : Hid (Em.FlOk e2.fl) := hok2
      clear he2 HI HOK HLE hl hok2
      have hF2 := rfr HE2.out HFR.out (Nat.le_refl _)
      have b6 := hF2.c6
      have bl := hF2.lt
      clear hF2
      obtain ⟨F2, D2, H2, gc, gC, gD, gfl, gmv⟩ := rflow HE2.out
      have HMV2 : Hid (∀ w' σ', Mvr wc w' F2 D2 H2 σ' → Mv (Rn R) wa w' (fresh lab w.heap.size 0) { e2 with fl := σ' }) := gmv
      have HC2 : Hid (∀ W, Below wc.heap.size wc W → Calls Tryz.prog 140 #[.pointer (some ⟨F2, 0, none⟩), .int .i64 nr] W fun r w' => r = .returned (.tuple #[.int .i64 (Wm.ackN e2.fl nr), .int .i64 (Wm.ackE e2.fl nr)]) ∧ Mv (Rn R) wa w' (fresh lab w.heap.size 0) { e2 with fl := Wm.ackT e2.fl nr }) := by
        intro W hW
        exact (rfack_any F2 D2 H2 e2.fl nr W (rf_below gfl hW rfl) HOK2.out.ok r0 r1).mono fun r w' hx => ⟨hx.1, HMV2.out _ _ (mvr_ahead hW hx.2)⟩
      clear gfl gmv
      obtain ⟨w2, hw2⟩ : ∃ w2, w2 = wc := ⟨_, rfl⟩
      rw [← hw2] at HE2 HMV2 HC2 gc gC gD b6 bl ⊢
      clear hw2 wc
      go_cut [5, 6] from 43 to 52 (fun s4 s5 wx => s4 = .int .i64 (Wm.ackN e2.fl nr) ∧ s5 = .int .i64 (Wm.ackE e2.fl nr) ∧ Hid (Mv (Rn R) wa wx (fresh lab w.heap.size 0) { e2 with fl := Wm.ackT e2.fl nr }))
      case first =>
        go_region_with (go_at_call 140; refine (HC2.out _ (Below.refl _ _).drew).mono ?_; rintro r w3 ⟨rfl, hm⟩)
        all_goals
          have HEm : Hid (Mv (Rn R) wa w3 (fresh lab w.heap.size 0) { e2 with fl := Wm.ackT e2.fl nr }) := hm
          clear hm
          go_wp2_with fail
          go_meet
          case rel => exact ⟨rfl, rfl, HEm⟩
      case rest =>
        obtain ⟨rfl, rfl, HE3⟩ := hcut
        obtain ⟨w3, hw3⟩ : ∃ w3, w3 = wc := ⟨_, rfl⟩
        rw [← hw3] at HE3 ⊢
        clear hw3 wc HE2 HMV2 HC2 gc gC gD b6 bl
        have hE : Wm.ackE e2.fl nr = if Wm.ackB e2.fl nr then 0 else 2 := rfl
        rw [hE]
        have hX3 := HX2.out
        unfold Em.acked at hX3
        clear HX2
        have HOK3 : Hid (Em.FlOk (Wm.ackT e2.fl nr)) := HOK2.out.ack nr
        have HPE : Hid ((Wm.ackT e2.fl nr).pe = e2.fl.pe) := Em.ackT_pe _ _
        clear HOK2 hE
        generalize Wm.ackN e2.fl nr = an at hX3 ⊢
        generalize Wm.ackT e2.fl nr = σ3 at HE3 HOK3 HPE hX3
        cases hb : Wm.ackB e2.fl nr with
        | false =>
          rw [hb, if_neg (by decide)] at hX3
          have HX3 := (show Hid _ from hX3)
          rw [if_neg (by decide)]
          clear hb hX3
          go_wp2_with fail
          refine (HE3.out.call fun lab1 h1 => ranew_any R lab1 _ (Em.letter 74) _ h1 (by show e2.out.length ≤ _; omega)).mono ?_
          rintro r w4 ⟨rfl, hm⟩
          have HE4 : Hid (Mv (Rn R) wa w4 (fresh lab w.heap.size 0) (Em.anew { e2 with fl := σ3 } (Em.letter 74))) := hm
          clear hm HE3
          go_wp2
          refine bodyPost_ret (v := .tuple #[]) (results_none rfl _ _ _) rfl ?_
          exact ⟨rfl, by rw [HX3.out]; exact runbox HBW.out HE4.out⟩
        | true =>
          rw [hb, if_pos rfl] at hX3
          rw [if_pos rfl]
          clear hb
          have ha3 := rcells HE3.out
          have k0 := ha3.c1
          have l3 := ha3.lt
          clear ha3
          by_cases hs : e2.state = 7
          · rw [if_pos hs] at hX3
            have hs' : ({ e2 with fl := σ3 } : Em.St).state = 7 := hs
            rw [hs'] at k0
            clear hs hs'
            obtain ⟨F3, D3, H3, fc, fC, fD, ffl, -⟩ := rflow HE3.out
            have HV := ffl.fr.c3
            clear ffl
            have HPE' : Hid (σ3.pe = e2.fl.pe) := HPE
            rw [← HPE'.out] at hX3
            cases hp : σ3.pe with
            | true =>
              have hp' : ({ e2 with fl := σ3 } : Em.St).fl.pe = true := hp
              rw [hp'] at HV
              rw [hp, if_pos rfl] at hX3
              have HX3 := (show Hid _ from hX3)
              clear hX3
              clear hp hp' HPE HPE'
              have HE4 : Hid (Mv (Rn R) wa w3 (fresh lab w.heap.size 0) { e2 with fl := σ3 }) := HE3.out
              clear HE3
              go_wp2_with fail
              refine (HE4.out.call fun lab1 h1 => rgoOn_any R lab1 _ _ h1 (by show e2.out.length ≤ _; omega) HOK3.out).mono ?_
              rintro r w5 ⟨rfl, hm⟩
              have HE5 : Hid (Mv (Rn R) wa w5 (fresh lab w.heap.size 0) (Em.goOn { e2 with fl := σ3 })) := hm
              clear hm HE4 HV k0 l3 fc fC fD
              go_wp2
              go_end0
              exact ⟨rfl, by rw [HX3.out]; exact runbox HBW.out HE5.out⟩
            | false =>
              have hp' : ({ e2 with fl := σ3 } : Em.St).fl.pe = false := hp
              rw [hp'] at HV
              rw [hp, if_neg (by decide)] at hX3
              have HX3 := (show Hid _ from hX3)
              clear hX3
              clear hp hp' HPE HPE'
              have HE4 : Hid (Mv (Rn R) wa w3 (fresh lab w.heap.size 0) { e2 with fl := σ3 }) := HE3.out
              clear HE3
              go_wp2_with fail
              refine (HE4.out.call fun lab1 h1 => rcount_any R lab1 _ an _ h1 (by show e2.out.length ≤ _; omega)).mono ?_
              rintro r w5 ⟨rfl, hm⟩
              have HE5 : Hid (Mv (Rn R) wa w5 (fresh lab w.heap.size 0) (Em.count { e2 with fl := σ3 } an)) := hm
              clear hm HE4 HV k0 l3 fc fC fD
              go_wp2_with fail
              refine (HE5.out.call fun lab1 h1 => rgoOn_any R lab1 _ _ h1 (by have := Em.len_count { e2 with fl := σ3 } an; have h2 : ({ e2 with fl := σ3 } : Em.St).out.length = e2.out.length := rfl; omega) (by rw [(Em.count_keep _ _).fl]; exact HOK3.out)).mono ?_
              rintro r w6 ⟨rfl, hm⟩
              have HE6 : Hid (Mv (Rn R) wa w6 (fresh lab w.heap.size 0) (Em.goOn (Em.count { e2 with fl := σ3 } an))) := hm
              clear hm HE5
              go_wp2
              go_end0
              exact ⟨rfl, by rw [HX3.out]; exact runbox HBW.out HE6.out⟩
          · rw [if_neg hs] at hX3
            have HX3 := (show Hid _ from hX3)
            clear hX3
            have hs' : ({ e2 with fl := σ3 } : Em.St).state = e2.state := rfl
            rw [hs'] at k0
            have hne : (e2.state == 7) = false := by simp; exact hs
            have hne2 : (e2.state != 7) = true := by simp; exact hs
            clear hs hs' HPE
            go_wp2
            refine bodyPost_ret (v := .tuple #[]) (results_none rfl _ _ _) rfl ?_
            exact ⟨rfl, by rw [HX3.out]; exact runbox HBW.out HE3.out⟩
  · cases pf with
    | true =>
      go_wp2_with fail
      refine (HE1.out.call fun lab1 h1 => ranswer_any R lab1 _ false true _ h1 (by omega)).mono ?_
      rintro r wz ⟨rfl, hm⟩
      have HEY : Hid (Mv (Rn R) wa wz (fresh lab w.heap.size 0) (Em.answer e1 false true)) := hm
      clear hm HE1 p4 p7 pl
      go_upto_region 9 with fail
      have hcut : Mv (Rn R) wa wz (fresh lab w.heap.size 0) (Em.inf e1 3 true info) := HEY.out
      obtain ⟨wc, hwc⟩ : ∃ wc, wc = wz := ⟨_, rfl⟩
      rw [← hwc] at hcut
      rw [← hwc]
      clear hwc HEY
      rw [← HINF.out] at hcut
      clear HINF hl1 e1
      have HE2 : Hid (Mv (Rn R) wa wc (fresh lab w.heap.size 0) (Em.info1 e ⟨sapi, tei, c, k, true, ns, nr, info⟩)) := hcut
      clear hcut
      obtain ⟨e2, he2⟩ : ∃ e2, e2 = Em.info1 e ⟨sapi, tei, c, k, true, ns, nr, info⟩ := ⟨_, rfl⟩
      rw [← he2] at HE2 HI
      have HX2 : Hid (X = Em.acked e2 nr) := by rw [he2]; exact HX.out
      clear HX
      have hl2 : e2.out.length ≤ 200002 := by have := HI.out.2.2; omega
      have hok2 : Em.FlOk e2.fl := by rw [HI.out.1]; exact HOK.out.come _
      have HOK2 : Hid (Em.FlOk e2.fl) := hok2
      clear he2 HI HOK HLE hl hok2
      have hF2 := rfr HE2.out HFR.out (Nat.le_refl _)
      have b6 := hF2.c6
      have bl := hF2.lt
      clear hF2
      obtain ⟨F2, D2, H2, gc, gC, gD, gfl, gmv⟩ := rflow HE2.out
      have HMV2 : Hid (∀ w' σ', Mvr wc w' F2 D2 H2 σ' → Mv (Rn R) wa w' (fresh lab w.heap.size 0) { e2 with fl := σ' }) := gmv
      have HC2 : Hid (∀ W, Below wc.heap.size wc W → Calls Tryz.prog 140 #[.pointer (some ⟨F2, 0, none⟩), .int .i64 nr] W fun r w' => r = .returned (.tuple #[.int .i64 (Wm.ackN e2.fl nr), .int .i64 (Wm.ackE e2.fl nr)]) ∧ Mv (Rn R) wa w' (fresh lab w.heap.size 0) { e2 with fl := Wm.ackT e2.fl nr }) := by
        intro W hW
        exact (rfack_any F2 D2 H2 e2.fl nr W (rf_below gfl hW rfl) HOK2.out.ok r0 r1).mono fun r w' hx => ⟨hx.1, HMV2.out _ _ (mvr_ahead hW hx.2)⟩
      clear gfl gmv
      obtain ⟨w2, hw2⟩ : ∃ w2, w2 = wc := ⟨_, rfl⟩
      rw [← hw2] at HE2 HMV2 HC2 gc gC gD b6 bl ⊢
      clear hw2 wc
      go_cut [5, 6] from 43 to 52 (fun s4 s5 wx => s4 = .int .i64 (Wm.ackN e2.fl nr) ∧ s5 = .int .i64 (Wm.ackE e2.fl nr) ∧ Hid (Mv (Rn R) wa wx (fresh lab w.heap.size 0) { e2 with fl := Wm.ackT e2.fl nr }))
      case first =>
        go_region_with (go_at_call 140; refine (HC2.out _ (Below.refl _ _).drew).mono ?_; rintro r w3 ⟨rfl, hm⟩)
        all_goals
          have HEm : Hid (Mv (Rn R) wa w3 (fresh lab w.heap.size 0) { e2 with fl := Wm.ackT e2.fl nr }) := hm
          clear hm
          go_wp2_with fail
          go_meet
          case rel => exact ⟨rfl, rfl, HEm⟩
      case rest =>
        obtain ⟨rfl, rfl, HE3⟩ := hcut
        obtain ⟨w3, hw3⟩ : ∃ w3, w3 = wc := ⟨_, rfl⟩
        rw [← hw3] at HE3 ⊢
        clear hw3 wc HE2 HMV2 HC2 gc gC gD b6 bl
        have hE : Wm.ackE e2.fl nr = if Wm.ackB e2.fl nr then 0 else 2 := rfl
        rw [hE]
        have hX3 := HX2.out
        unfold Em.acked at hX3
        clear HX2
        have HOK3 : Hid (Em.FlOk (Wm.ackT e2.fl nr)) := HOK2.out.ack nr
        have HPE : Hid ((Wm.ackT e2.fl nr).pe = e2.fl.pe) := Em.ackT_pe _ _
        clear HOK2 hE
        generalize Wm.ackN e2.fl nr = an at hX3 ⊢
        generalize Wm.ackT e2.fl nr = σ3 at HE3 HOK3 HPE hX3
        cases hb : Wm.ackB e2.fl nr with
        | false =>
          rw [hb, if_neg (by decide)] at hX3
          have HX3 := (show Hid _ from hX3)
          rw [if_neg (by decide)]
          clear hb hX3
          go_wp2_with fail
          refine (HE3.out.call fun lab1 h1 => ranew_any R lab1 _ (Em.letter 74) _ h1 (by show e2.out.length ≤ _; omega)).mono ?_
          rintro r w4 ⟨rfl, hm⟩
          have HE4 : Hid (Mv (Rn R) wa w4 (fresh lab w.heap.size 0) (Em.anew { e2 with fl := σ3 } (Em.letter 74))) := hm
          clear hm HE3
          go_wp2
          refine bodyPost_ret (v := .tuple #[]) (results_none rfl _ _ _) rfl ?_
          exact ⟨rfl, by rw [HX3.out]; exact runbox HBW.out HE4.out⟩
        | true =>
          rw [hb, if_pos rfl] at hX3
          rw [if_pos rfl]
          clear hb
          have ha3 := rcells HE3.out
          have k0 := ha3.c1
          have l3 := ha3.lt
          clear ha3
          by_cases hs : e2.state = 7
          · rw [if_pos hs] at hX3
            have hs' : ({ e2 with fl := σ3 } : Em.St).state = 7 := hs
            rw [hs'] at k0
            clear hs hs'
            obtain ⟨F3, D3, H3, fc, fC, fD, ffl, -⟩ := rflow HE3.out
            have HV := ffl.fr.c3
            clear ffl
            have HPE' : Hid (σ3.pe = e2.fl.pe) := HPE
            rw [← HPE'.out] at hX3
            cases hp : σ3.pe with
            | true =>
              have hp' : ({ e2 with fl := σ3 } : Em.St).fl.pe = true := hp
              rw [hp'] at HV
              rw [hp, if_pos rfl] at hX3
              have HX3 := (show Hid _ from hX3)
              clear hX3
              clear hp hp' HPE HPE'
              have HE4 : Hid (Mv (Rn R) wa w3 (fresh lab w.heap.size 0) { e2 with fl := σ3 }) := HE3.out
              clear HE3
              go_wp2_with fail
              refine (HE4.out.call fun lab1 h1 => rgoOn_any R lab1 _ _ h1 (by show e2.out.length ≤ _; omega) HOK3.out).mono ?_
              rintro r w5 ⟨rfl, hm⟩
              have HE5 : Hid (Mv (Rn R) wa w5 (fresh lab w.heap.size 0) (Em.goOn { e2 with fl := σ3 })) := hm
              clear hm HE4 HV k0 l3 fc fC fD
              go_wp2
              go_end0
              exact ⟨rfl, by rw [HX3.out]; exact runbox HBW.out HE5.out⟩
            | false =>
              have hp' : ({ e2 with fl := σ3 } : Em.St).fl.pe = false := hp
              rw [hp'] at HV
              rw [hp, if_neg (by decide)] at hX3
              have HX3 := (show Hid _ from hX3)
              clear hX3
              clear hp hp' HPE HPE'
              have HE4 : Hid (Mv (Rn R) wa w3 (fresh lab w.heap.size 0) { e2 with fl := σ3 }) := HE3.out
              clear HE3
              go_wp2_with fail
              refine (HE4.out.call fun lab1 h1 => rcount_any R lab1 _ an _ h1 (by show e2.out.length ≤ _; omega)).mono ?_
              rintro r w5 ⟨rfl, hm⟩
              have HE5 : Hid (Mv (Rn R) wa w5 (fresh lab w.heap.size 0) (Em.count { e2 with fl := σ3 } an)) := hm
              clear hm HE4 HV k0 l3 fc fC fD
              go_wp2_with fail
              refine (HE5.out.call fun lab1 h1 => rgoOn_any R lab1 _ _ h1 (by have := Em.len_count { e2 with fl := σ3 } an; have h2 : ({ e2 with fl := σ3 } : Em.St).out.length = e2.out.length := rfl; omega) (by rw [(Em.count_keep _ _).fl]; exact HOK3.out)).mono ?_
              rintro r w6 ⟨rfl, hm⟩
              have HE6 : Hid (Mv (Rn R) wa w6 (fresh lab w.heap.size 0) (Em.goOn (Em.count { e2 with fl := σ3 } an))) := hm
              clear hm HE5
              go_wp2
              go_end0
              exact ⟨rfl, by rw [HX3.out]; exact runbox HBW.out HE6.out⟩
          · rw [if_neg hs] at hX3
            have HX3 := (show Hid _ from hX3)
            clear hX3
            have hs' : ({ e2 with fl := σ3 } : Em.St).state = e2.state := rfl
            rw [hs'] at k0
            have hne : (e2.state == 7) = false := by simp; exact hs
            have hne2 : (e2.state != 7) = true := by simp; exact hs
            clear hs hs' HPE
            go_wp2
            refine bodyPost_ret (v := .tuple #[]) (results_none rfl _ _ _) rfl ?_
            exact ⟨rfl, by rw [HX3.out]; exact runbox HBW.out HE3.out⟩
    | false =>
      go_upto_region 9 with fail
      clear p4 p7 pl
      have hcut : Mv (Rn R) wa w1 (fresh lab w.heap.size 0) (Em.inf e1 3 false info) := HE1.out
      obtain ⟨wc, hwc⟩ : ∃ wc, wc = w1 := ⟨_, rfl⟩
      rw [← hwc] at hcut
      rw [← hwc]
      clear hwc HE1
      rw [← HINF.out] at hcut
      clear HINF hl1 e1
      have HE2 : Hid (Mv (Rn R) wa wc (fresh lab w.heap.size 0) (Em.info1 e ⟨sapi, tei, c, k, false, ns, nr, info⟩)) := hcut
      clear hcut
      obtain ⟨e2, he2⟩ : ∃ e2, e2 = Em.info1 e ⟨sapi, tei, c, k, false, ns, nr, info⟩ := ⟨_, rfl⟩
      rw [← he2] at HE2 HI
      have HX2 : Hid (X = Em.acked e2 nr) := by rw [he2]; exact HX.out
      clear HX
      have hl2 : e2.out.length ≤ 200002 := by have := HI.out.2.2; omega
      have hok2 : Em.FlOk e2.fl := by rw [HI.out.1]; exact HOK.out.come _
      have HOK2 : Hid (Em.FlOk e2.fl) := hok2
      clear he2 HI HOK HLE hl hok2
      have hF2 := rfr HE2.out HFR.out (Nat.le_refl _)
      have b6 := hF2.c6
      have bl := hF2.lt
      clear hF2
      obtain ⟨F2, D2, H2, gc, gC, gD, gfl, gmv⟩ := rflow HE2.out
      have HMV2 : Hid (∀ w' σ', Mvr wc w' F2 D2 H2 σ' → Mv (Rn R) wa w' (fresh lab w.heap.size 0) { e2 with fl := σ' }) := gmv
      have HC2 : Hid (∀ W, Below wc.heap.size wc W → Calls Tryz.prog 140 #[.pointer (some ⟨F2, 0, none⟩), .int .i64 nr] W fun r w' => r = .returned (.tuple #[.int .i64 (Wm.ackN e2.fl nr), .int .i64 (Wm.ackE e2.fl nr)]) ∧ Mv (Rn R) wa w' (fresh lab w.heap.size 0) { e2 with fl := Wm.ackT e2.fl nr }) := by
        intro W hW
        exact (rfack_any F2 D2 H2 e2.fl nr W (rf_below gfl hW rfl) HOK2.out.ok r0 r1).mono fun r w' hx => ⟨hx.1, HMV2.out _ _ (mvr_ahead hW hx.2)⟩
      clear gfl gmv
      obtain ⟨w2, hw2⟩ : ∃ w2, w2 = wc := ⟨_, rfl⟩
      rw [← hw2] at HE2 HMV2 HC2 gc gC gD b6 bl ⊢
      clear hw2 wc
      go_cut [5, 6] from 43 to 52 (fun s4 s5 wx => s4 = .int .i64 (Wm.ackN e2.fl nr) ∧ s5 = .int .i64 (Wm.ackE e2.fl nr) ∧ Hid (Mv (Rn R) wa wx (fresh lab w.heap.size 0) { e2 with fl := Wm.ackT e2.fl nr }))
      case first =>
        go_region_with (go_at_call 140; refine (HC2.out _ (Below.refl _ _).drew).mono ?_; rintro r w3 ⟨rfl, hm⟩)
        all_goals
          have HEm : Hid (Mv (Rn R) wa w3 (fresh lab w.heap.size 0) { e2 with fl := Wm.ackT e2.fl nr }) := hm
          clear hm
          go_wp2_with fail
          go_meet
          case rel => exact ⟨rfl, rfl, HEm⟩
      case rest =>
        obtain ⟨rfl, rfl, HE3⟩ := hcut
        obtain ⟨w3, hw3⟩ : ∃ w3, w3 = wc := ⟨_, rfl⟩
        rw [← hw3] at HE3 ⊢
        clear hw3 wc HE2 HMV2 HC2 gc gC gD b6 bl
        have hE : Wm.ackE e2.fl nr = if Wm.ackB e2.fl nr then 0 else 2 := rfl
        rw [hE]
        have hX3 := HX2.out
        unfold Em.acked at hX3
        clear HX2
        have HOK3 : Hid (Em.FlOk (Wm.ackT e2.fl nr)) := HOK2.out.ack nr
        have HPE : Hid ((Wm.ackT e2.fl nr).pe = e2.fl.pe) := Em.ackT_pe _ _
        clear HOK2 hE
        generalize Wm.ackN e2.fl nr = an at hX3 ⊢
        generalize Wm.ackT e2.fl nr = σ3 at HE3 HOK3 HPE hX3
        cases hb : Wm.ackB e2.fl nr with
        | false =>
          rw [hb, if_neg (by decide)] at hX3
          have HX3 := (show Hid _ from hX3)
          rw [if_neg (by decide)]
          clear hb hX3
          go_wp2_with fail
          refine (HE3.out.call fun lab1 h1 => ranew_any R lab1 _ (Em.letter 74) _ h1 (by show e2.out.length ≤ _; omega)).mono ?_
          rintro r w4 ⟨rfl, hm⟩
          have HE4 : Hid (Mv (Rn R) wa w4 (fresh lab w.heap.size 0) (Em.anew { e2 with fl := σ3 } (Em.letter 74))) := hm
          clear hm HE3
          go_wp2
          refine bodyPost_ret (v := .tuple #[]) (results_none rfl _ _ _) rfl ?_
          exact ⟨rfl, by rw [HX3.out]; exact runbox HBW.out HE4.out⟩
        | true =>
          rw [hb, if_pos rfl] at hX3
          rw [if_pos rfl]
          clear hb
          have ha3 := rcells HE3.out
          have k0 := ha3.c1
          have l3 := ha3.lt
          clear ha3
          by_cases hs : e2.state = 7
          · rw [if_pos hs] at hX3
            have hs' : ({ e2 with fl := σ3 } : Em.St).state = 7 := hs
            rw [hs'] at k0
            clear hs hs'
            obtain ⟨F3, D3, H3, fc, fC, fD, ffl, -⟩ := rflow HE3.out
            have HV := ffl.fr.c3
            clear ffl
            have HPE' : Hid (σ3.pe = e2.fl.pe) := HPE
            rw [← HPE'.out] at hX3
            cases hp : σ3.pe with
            | true =>
              have hp' : ({ e2 with fl := σ3 } : Em.St).fl.pe = true := hp
              rw [hp'] at HV
              rw [hp, if_pos rfl] at hX3
              have HX3 := (show Hid _ from hX3)
              clear hX3
              clear hp hp' HPE HPE'
              have HE4 : Hid (Mv (Rn R) wa w3 (fresh lab w.heap.size 0) { e2 with fl := σ3 }) := HE3.out
              clear HE3
              go_wp2_with fail
              refine (HE4.out.call fun lab1 h1 => rgoOn_any R lab1 _ _ h1 (by show e2.out.length ≤ _; omega) HOK3.out).mono ?_
              rintro r w5 ⟨rfl, hm⟩
              have HE5 : Hid (Mv (Rn R) wa w5 (fresh lab w.heap.size 0) (Em.goOn { e2 with fl := σ3 })) := hm
              clear hm HE4 HV k0 l3 fc fC fD
              go_wp2
              go_end0
              exact ⟨rfl, by rw [HX3.out]; exact runbox HBW.out HE5.out⟩
            | false =>
              have hp' : ({ e2 with fl := σ3 } : Em.St).fl.pe = false := hp
              rw [hp'] at HV
              rw [hp, if_neg (by decide)] at hX3
              have HX3 := (show Hid _ from hX3)
              clear hX3
              clear hp hp' HPE HPE'
              have HE4 : Hid (Mv (Rn R) wa w3 (fresh lab w.heap.size 0) { e2 with fl := σ3 }) := HE3.out
              clear HE3
              go_wp2_with fail
              refine (HE4.out.call fun lab1 h1 => rcount_any R lab1 _ an _ h1 (by show e2.out.length ≤ _; omega)).mono ?_
              rintro r w5 ⟨rfl, hm⟩
              have HE5 : Hid (Mv (Rn R) wa w5 (fresh lab w.heap.size 0) (Em.count { e2 with fl := σ3 } an)) := hm
              clear hm HE4 HV k0 l3 fc fC fD
              go_wp2_with fail
              refine (HE5.out.call fun lab1 h1 => rgoOn_any R lab1 _ _ h1 (by have := Em.len_count { e2 with fl := σ3 } an; have h2 : ({ e2 with fl := σ3 } : Em.St).out.length = e2.out.length := rfl; omega) (by rw [(Em.count_keep _ _).fl]; exact HOK3.out)).mono ?_
              rintro r w6 ⟨rfl, hm⟩
              have HE6 : Hid (Mv (Rn R) wa w6 (fresh lab w.heap.size 0) (Em.goOn (Em.count { e2 with fl := σ3 } an))) := hm
              clear hm HE5
              go_wp2
              go_end0
              exact ⟨rfl, by rw [HX3.out]; exact runbox HBW.out HE6.out⟩
          · rw [if_neg hs] at hX3
            have HX3 := (show Hid _ from hX3)
            clear hX3
            have hs' : ({ e2 with fl := σ3 } : Em.St).state = e2.state := rfl
            rw [hs'] at k0
            have hne : (e2.state == 7) = false := by simp; exact hs
            have hne2 : (e2.state != 7) = true := by simp; exact hs
            clear hs hs' HPE
            go_wp2
            refine bodyPost_ret (v := .tuple #[]) (results_none rfl _ _ _) rfl ?_
            exact ⟨rfl, by rw [HX3.out]; exact runbox HBW.out HE3.out⟩
end Go.Proofs.YtidemohpngkedabGreatDoor
