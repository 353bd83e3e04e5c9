/-
  The walks of what an entity does when I frames, RR, RNR, REJ come over a link that is open.
  The walk of what an entity does when RR, RNR, REJ come; of all frames that come over a link that is open.
  The walks of what an entity does when a frame comes over a link that is open, and of all frames that come.
-/
import Derived.Test.YtidemohpngkedabGreatDoorEntStep
import Derived.Deep.CutBlock
namespace Go.Proofs.YtidemohpngkedabGreatDoor
open Go.RowKit
set_option linter.unusedVariables false
set_option maxRecDepth 100000
set_option linter.unusedSimpArgs false

section
variable {C : Nat} {w wa w1 : World} {lab : Nat → Nat} {e e1 : Em.St}
/-- a call's data in a block beside it -/
theorem En.box (h : En C w lab e) (hb : Below w.heap.size w wa) : Mv (En C) wa wa (fresh lab w.heap.size 0) e :=
  by
    have hh : En C wa (fresh lab w.heap.size 0) e := by
      have h1 : En C w (fresh lab w.heap.size 0) e := h.relab (fun k hk => fresh_old hk)
      exact h1.below hb
    exact hh.same (Below.refl _ _)
theorem Mv.unbox (hb : Below w.heap.size w wa) (h : Mv (En C) wa w1 (fresh lab w.heap.size 0) e1) : Mv (En C) w w1 lab e1 := by
  obtain ⟨lab1, h1, hk, hl⟩ := h
  refine ⟨lab1, h1, (Kept.of_below (T := fun k => lab k ≠ 0) hb (fun k hk h' => by omega)).trans hk (fun k hlt hx => by rw [fresh_old hlt] at hx; exact hx), fun k hlt => (hl k (Nat.lt_of_lt_of_le hlt hb.size)).trans (fresh_old hlt)⟩
theorem Mv.fr {B : Nat} {sapi tei : Int} {c : Bool} {k : Int} {pf : Bool} {ns nr : Int} {info : ByteArray} (h : Mv (En C) wa w1 (fresh lab w.heap.size 0) e1) (hF : FrC wa B sapi tei c k pf ns nr info) (hB : w.heap.size ≤ B) : FrC w1 B sapi tei c k pf ns nr info := by
  obtain ⟨lab1, h1, hk, hl⟩ := h
  exact hF.kept (hk.block B hF.lt (fun hx => hx (fresh_new hB))) hk.size
end

/-- behind the N(R) of an I frame -/
def Em.acked (e : Em.St) (nr : Int) : Em.St :=
  if Wm.ackB e.fl nr then
    (if e.state = 7 then Em.goOn (if e.fl.pe then { e with fl := Wm.ackT e.fl nr } else Em.count { e with fl := Wm.ackT e.fl nr } (Wm.ackN e.fl nr)) else { e with fl := Wm.ackT e.fl nr })
  else Em.anew { e with fl := Wm.ackT e.fl nr } (Em.letter 74)
theorem Em.ackT_pe (σ : Wm.St) (nr : Int) : (Wm.ackT σ nr).pe = σ.pe := by
  unfold Wm.ackT
  split <;> rfl
theorem Em.info_eq (e : Em.St) (f : Em.Fr) : Em.info e f = Em.acked (Em.info1 e f) f.nr := by
  unfold Em.info Em.acked
  simp only [Em.ackT_pe]
theorem Em.info1_fl (e : Em.St) (f : Em.Fr) : (Em.info1 e f).fl = Wm.comeT e.fl f.ns ∧ (Em.info1 e f).state = e.state ∧ (Em.info1 e f).out.length ≤ e.out.length + 2 := by
  unfold Em.info1
  simp only []
  split
  · exact ⟨rfl, rfl, by rw [Em.len_answer, Em.len_tell]; exact Nat.le_refl _⟩
  · split
    · exact ⟨rfl, rfl, by rw [Em.len_send]; show e.out.length + 1 ≤ _; omega⟩
    · split
      · exact ⟨rfl, rfl, by rw [Em.len_answer]; show e.out.length + 1 ≤ _; omega⟩
      · exact ⟨rfl, rfl, by show e.out.length ≤ _; omega⟩

theorem Em.comeN_ways (σ : Wm.St) (n : Int) : Wm.comeN σ n = 0 ∨ Wm.comeN σ n = 1 ∨ Wm.comeN σ n = 2 ∨ Wm.comeN σ n = 3 := by
  unfold Wm.comeN
  split
  · simp
  · split
    · simp
    · split <;> simp
/-- what an I frame does ahead of the N(R), by what the flow says of the N(S) -/
def Em.inf (e1 : Em.St) (g : Int) (pf : Bool) (info : ByteArray) : Em.St :=
  if g = 0 then Em.answer (Em.tell e1 5 info) false pf
  else if g = 1 then Em.send e1 (Em.bare false 3 pf)
  else if pf then Em.answer e1 false true
  else e1
theorem Em.inf_eq (e : Em.St) (f : Em.Fr) : Em.info1 e f = Em.inf { e with fl := Wm.comeT e.fl f.ns } (Wm.comeN e.fl f.ns) f.pf f.info := rfl

set_option maxHeartbeats 4000000 in
theorem comeInfo_any (C : Nat) (lab : Nat → Nat) (e : Em.St) (f : Em.Fr) (w : World) (h : En C w lab e) (hl : e.out.length ≤ 200000) (ok : Em.FlOk e.fl) (s0 : -9223372036854775808 ≤ f.ns) (s1 : f.ns ≤ 9223372036854775807) (r0 : -9223372036854775808 ≤ f.nr) (r1 : f.nr ≤ 9223372036854775807) :
    Calls Tryz.prog 130 #[.pointer (some ⟨C, 0, none⟩), frmV f] w fun r w' => r = .returned (.tuple #[]) ∧ Mv (En C) w w' lab (Em.info e f) := by
  rw [Em.info_eq]
  obtain ⟨X, hX⟩ : ∃ X, X = Em.acked (Em.info1 e f) f.nr := ⟨_, rfl⟩
  rw [← hX]
  have HX : Hid (X = Em.acked (Em.info1 e f) f.nr) := hX
  clear hX
  obtain ⟨i1, i2, i3⟩ := Em.info1_fl e f
  have HI : Hid ((Em.info1 e f).fl = Wm.comeT e.fl f.ns ∧ (Em.info1 e f).state = e.state ∧ (Em.info1 e f).out.length ≤ e.out.length + 2) := ⟨i1, i2, i3⟩
  have HOK : Hid (Em.FlOk e.fl) := ok
  have HLE : Hid (e.out.length ≤ 200000) := hl
  clear i1 i2 i3 ok
  obtain ⟨sapi, tei, c, k, pf, ns, nr, info⟩ := f
  have hb : Below w.heap.size w (w.alloc (.cells #[.int .i64 sapi, .int .i64 tei, .bool c, .int .i64 k, .bool pf, .int .i64 ns, .int .i64 nr, .string info] 49)) := (Below.refl _ _).alloc (Nat.le_refl _) _
  have hF := frc_new w sapi tei c k pf ns nr info 49
  have hE := h.box hb
  unfold frmV
  obtain ⟨wa, hwa⟩ : ∃ wa, wa = w.alloc (.cells #[.int .i64 sapi, .int .i64 tei, .bool c, .int .i64 k, .bool pf, .int .i64 ns, .int .i64 nr, .string info] 49) := ⟨_, rfl⟩
  rw [← hwa] at hb hF hE
  have HBW : Hid (Below w.heap.size w wa) := hb
  have HFR : Hid (FrC wa w.heap.size sapi tei c k pf ns nr info) := hF
  have HE0 : Hid (Mv (En C) wa wa (fresh lab w.heap.size 0) e) := hE
  clear h hE hF hb
  obtain ⟨D, G, fc, fC, fD, ffl, fmv⟩ := HE0.out.flow
  have HMV : Hid (∀ w' σ', Mvf wa w' D G σ' → Mv (En C) wa w' (fresh lab w.heap.size 0) { e with fl := σ' }) := fmv
  have HC : Hid (∀ W, Below wa.heap.size wa W → Calls Tryz.prog 147 #[.pointer (some ⟨D, 0, none⟩), .int .i64 ns] W fun r w' => r = .returned (.int .i64 (Wm.comeN e.fl ns)) ∧ Mv (En C) wa w' (fresh lab w.heap.size 0) { e with fl := Wm.comeT e.fl ns }) := by
    intro W hW
    exact (fcome_any D G e.fl ns W (ffl.below hW) HOK.out.ok s0 s1).mono fun r w' hx => ⟨hx.1, HMV.out _ _ (Mvf.ahead hW hx.2)⟩
  clear ffl fmv
  have b5 := HFR.out.c5
  have bl := HFR.out.lt
  go_enter Tryz.func130, Tryz.ntmps130
  go_wp2_with fail
  rw [← hwa]
  have HWA : Hid (wa = w.alloc (.cells #[.int .i64 sapi, .int .i64 tei, .bool c, .int .i64 k, .bool pf, .int .i64 ns, .int .i64 nr, .string info] 49)) := hwa
  clear hwa
  go_upto_region 1 with fail
  go_cut [12] from 6 to 11 (fun s12 wx => s12 = .int .i64 (Wm.comeN e.fl ns) ∧ Hid (Mv (En C) wa wx (fresh lab w.heap.size 0) { e with fl := Wm.comeT e.fl ns }))
  case first =>
    go_region_with (go_at_call 147; refine (HC.out _ (Below.refl _ _).drew).mono ?_; rintro r w1 ⟨rfl, hm⟩)
    all_goals
      have HEm : Hid (Mv (En C) wa w1 (fresh lab w.heap.size 0) { e with fl := Wm.comeT e.fl ns }) := hm
      clear hm
      go_wp2_with fail
      go_meet
      case rel => exact ⟨rfl, HEm⟩
  obtain ⟨rfl, HE1⟩ := hcut
  obtain ⟨w1, hw1⟩ : ∃ w1, w1 = wc := ⟨_, rfl⟩
  rw [← hw1] at HE1 ⊢
  clear hw1 wc
  go_upto_block 0 with fail
  have hF1 := Mv.fr HE1.out HFR.out (Nat.le_refl _)
  have p4 := hF1.c4
  have p7 := hF1.c7
  have pl := hF1.lt
  clear HMV HC HE0 b5 bl fc fC fD hF1
  have hinf := Em.inf_eq e ⟨sapi, tei, c, k, pf, ns, nr, info⟩
  simp only [] at hinf
  have HINF : Hid (Em.info1 e ⟨sapi, tei, c, k, pf, ns, nr, info⟩ = Em.inf { e with fl := Wm.comeT e.fl ns } (Wm.comeN e.fl ns) pf info) := hinf
  clear hinf
  obtain ⟨e1, he1⟩ : ∃ e1, e1 = ({ e with fl := Wm.comeT e.fl ns } : Em.St) := ⟨_, rfl⟩
  have hl1 : e1.out.length ≤ 200000 := by rw [he1]; exact hl
  rw [← he1] at HE1 HINF
  have hways := Em.comeN_ways e.fl ns
  obtain ⟨g, hg⟩ : ∃ g, g = Wm.comeN e.fl ns := ⟨_, rfl⟩
  rw [← hg] at HINF hways ⊢
  clear he1 hg
  go_cut [13] from 14 to 36 (fun _ wx => Hid (Mv (En C) wa wx (fresh lab w.heap.size 0) (Em.inf e1 g pf info)))
  case first =>
    rcases hways with rfl | rfl | rfl | rfl
    · go_wp2_with fail
      refine (HE1.out.call fun lab1 h1 => tell_any C lab1 _ ⟨5, Em.fr0, info, 0⟩ _ h1 (by omega)).mono ?_
      rintro r w2 ⟨rfl, hm⟩
      have HE2 : Hid (Mv (En C) wa w2 (fresh lab w.heap.size 0) (Em.tell e1 5 info)) := hm
      have hF1 := Mv.fr HE2.out HFR.out (Nat.le_refl _)
      have q4 := hF1.c4
      have ql := hF1.lt
      clear hm HE1 hF1 p4 p7 pl
      go_wp2_with fail
      refine (HE2.out.call fun lab1 h1 => answer_any C lab1 _ pf _ h1 (by rw [Em.len_tell]; omega)).mono ?_
      rintro r w3 ⟨rfl, hm⟩
      have HE3 : Hid (Mv (En C) wa w3 (fresh lab w.heap.size 0) (Em.answer (Em.tell e1 5 info) false pf)) := hm
      clear hm HE2 q4 ql
      go_wp2_with fail
      go_meet
      case rel => exact HE3
    · go_wp2_with fail
      refine (HE1.out.call fun lab1 h1 => respond_any C lab1 _ 3 pf _ h1 (by omega)).mono ?_
      rintro r w2 ⟨rfl, hm⟩
      have HE2 : Hid (Mv (En C) wa w2 (fresh lab w.heap.size 0) (Em.send e1 (Em.bare false 3 pf))) := hm
      clear hm HE1 p4 p7 pl
      go_wp2_with fail
      go_meet
      case rel => exact HE2
    all_goals
      cases pf with
      | true =>
        go_wp2_with fail
        refine (HE1.out.call fun lab1 h1 => answer_any C lab1 _ true _ h1 (by omega)).mono ?_
        rintro r w2 ⟨rfl, hm⟩
        have HE2 : Hid (Mv (En C) wa w2 (fresh lab w.heap.size 0) (Em.answer e1 false true)) := hm
        clear hm HE1 p4 p7 pl
        go_wp2_with fail
        go_meet
        case rel => exact HE2
      | false =>
        go_wp2_with fail
        go_meet
        case rel => exact HE1
  case rest =>
    rw [← HINF.out] at hcut
    clear HE1 HINF p4 p7 pl hl1 hways e1
    have HE2 : Hid (Mv (En C) wa wc (fresh lab w.heap.size 0) (Em.info1 e ⟨sapi, tei, c, k, pf, ns, nr, info⟩)) := hcut
    clear hcut
    obtain ⟨e2, he2⟩ : ∃ e2, e2 = Em.info1 e ⟨sapi, tei, c, k, pf, ns, nr, info⟩ := ⟨_, rfl⟩
    rw [← he2] at HE2 HI
    have HX2 : Hid (X = Em.acked e2 nr) := by rw [he2]; exact HX.out
    clear HX
    have hl2 : e2.out.length ≤ 200002 := by have := HI.out.2.2; omega
    have hok2 : Em.FlOk e2.fl := by rw [HI.out.1]; exact HOK.out.come _
    have HOK2 : Hid (Em.FlOk e2.fl) := hok2
    clear he2 HI HOK HLE hl hok2
    have hF2 := Mv.fr HE2.out HFR.out (Nat.le_refl _)
    have b6 := hF2.c6
    have bl := hF2.lt
    clear hF2
    obtain ⟨D2, G2, gc, gC, gD, gfl, gmv⟩ := HE2.out.flow
    have HMV2 : Hid (∀ w' σ', Mvf wc w' D2 G2 σ' → Mv (En C) wa w' (fresh lab w.heap.size 0) { e2 with fl := σ' }) := gmv
    have HC2 : Hid (∀ W, Below wc.heap.size wc W → Calls Tryz.prog 148 #[.pointer (some ⟨D2, 0, none⟩), .int .i64 nr] W fun r w' => r = .returned (.tuple #[.int .i64 (Wm.ackN e2.fl nr), .int .i64 (Wm.ackE e2.fl nr)]) ∧ Mv (En C) wa w' (fresh lab w.heap.size 0) { e2 with fl := Wm.ackT e2.fl nr }) := by
      intro W hW
      exact (fack_any D2 G2 e2.fl nr W (gfl.below hW) HOK2.out.ok r0 r1).mono fun r w' hx => ⟨hx.1, HMV2.out _ _ (Mvf.ahead hW hx.2)⟩
    clear gfl gmv
    obtain ⟨w2, hw2⟩ : ∃ w2, w2 = wc := ⟨_, rfl⟩
    rw [← hw2] at HE2 HMV2 HC2 gc gC gD b6 bl ⊢
    clear hw2 wc
    go_upto_region 11 with fail
    go_cut [4, 5] from 37 to 46 (fun s4 s5 wx => s4 = .int .i64 (Wm.ackN e2.fl nr) ∧ s5 = .int .i64 (Wm.ackE e2.fl nr) ∧ Hid (Mv (En C) wa wx (fresh lab w.heap.size 0) { e2 with fl := Wm.ackT e2.fl nr }))
    case first =>
      go_region_with (go_at_call 148; refine (HC2.out _ (Below.refl _ _).drew).mono ?_; rintro r w3 ⟨rfl, hm⟩)
      all_goals
        have HEm : Hid (Mv (En C) wa w3 (fresh lab w.heap.size 0) { e2 with fl := Wm.ackT e2.fl nr }) := hm
        clear hm
        go_wp2_with fail
        go_meet
        case rel => exact ⟨rfl, rfl, HEm⟩
    case rest =>
      obtain ⟨rfl, rfl, HE3⟩ := hcut
      obtain ⟨w3, hw3⟩ : ∃ w3, w3 = wc := ⟨_, rfl⟩
      rw [← hw3] at HE3 ⊢
      clear hw3 wc HE2 HMV2 HC2 gc gC gD b6 bl
      have hE : Wm.ackE e2.fl nr = if Wm.ackB e2.fl nr then 0 else 2 := rfl
      rw [hE]
      have hX3 := HX2.out
      unfold Em.acked at hX3
      clear HX2
      have HOK3 : Hid (Em.FlOk (Wm.ackT e2.fl nr)) := HOK2.out.ack nr
      have HPE : Hid ((Wm.ackT e2.fl nr).pe = e2.fl.pe) := Em.ackT_pe _ _
      clear HOK2 hE
      generalize Wm.ackN e2.fl nr = an at hX3 ⊢
      generalize Wm.ackT e2.fl nr = σ3 at HE3 HOK3 HPE hX3
      cases hb : Wm.ackB e2.fl nr with
      | false =>
        rw [hb, if_neg (by decide)] at hX3
        have HX3 := (show Hid _ from hX3)
        rw [if_neg (by decide)]
        clear hb hX3
        go_wp2_with fail
        refine (HE3.out.call fun lab1 h1 => callAnew_any C lab1 _ (Em.letter 74) _ h1 (by show e2.out.length ≤ _; omega)).mono ?_
        rintro r w4 ⟨rfl, hm⟩
        have HE4 : Hid (Mv (En C) wa w4 (fresh lab w.heap.size 0) (Em.anew { e2 with fl := σ3 } (Em.letter 74))) := hm
        clear hm HE3
        go_wp2
        go_end0
        exact ⟨rfl, by rw [HX3.out]; exact HE4.out.unbox HBW.out⟩
      | true =>
        rw [hb, if_pos rfl] at hX3
        rw [if_pos rfl]
        clear hb
        have ha3 := HE3.out.cells
        have k0 := ha3.c0
        have l3 := ha3.lt
        clear ha3
        by_cases hs : e2.state = 7
        · rw [if_pos hs] at hX3
          have hs' : ({ e2 with fl := σ3 } : Em.St).state = 7 := hs
          rw [hs'] at k0
          clear hs hs'
          obtain ⟨D3, G3, fc, fC, fD, ffl, -⟩ := HE3.out.flow
          have HV := fview_any D3 G3 _ _ ffl
          unfold vwV at HV
          clear ffl
          have HPE' : Hid (σ3.pe = e2.fl.pe) := HPE
          rw [← HPE'.out] at hX3
          cases hp : σ3.pe with
          | true =>
            have hp' : ({ e2 with fl := σ3 } : Em.St).fl.pe = true := hp
            rw [hp'] at HV
            rw [hp, if_pos rfl] at hX3
            have HX3 := (show Hid _ from hX3)
            clear hX3
            clear hp hp' HPE HPE'
            go_wp2_with fail
            refine HV.mono ?_
            rintro r w4 ⟨rfl, hb4⟩
            have hfv := vfield3 w4
            have HE4 : Hid (Mv (En C) wa w4 (fresh lab w.heap.size 0) { e2 with fl := σ3 }) := HE3.out.then hb4
            clear HV hb4 HE3 k0 l3 fc fC fD
            go_wp2_with fail
            refine (HE4.out.call fun lab1 h1 => goOn_any C lab1 _ _ h1 (by show e2.out.length ≤ _; omega) HOK3.out).mono ?_
            rintro r w5 ⟨rfl, hm⟩
            have HE5 : Hid (Mv (En C) wa w5 (fresh lab w.heap.size 0) (Em.goOn { e2 with fl := σ3 })) := hm
            clear hm HE4 hfv
            go_wp2
            go_end0
            exact ⟨rfl, by rw [HX3.out]; exact HE5.out.unbox HBW.out⟩
          | false =>
            have hp' : ({ e2 with fl := σ3 } : Em.St).fl.pe = false := hp
            rw [hp'] at HV
            rw [hp, if_neg (by decide)] at hX3
            have HX3 := (show Hid _ from hX3)
            clear hX3
            clear hp hp' HPE HPE'
            go_wp2_with fail
            refine HV.mono ?_
            rintro r w4 ⟨rfl, hb4⟩
            have hfv := vfield3 w4
            have HE4 : Hid (Mv (En C) wa w4 (fresh lab w.heap.size 0) { e2 with fl := σ3 }) := HE3.out.then hb4
            clear HV hb4 HE3 k0 l3 fc fC fD
            go_wp2_with fail
            refine (HE4.out.call fun lab1 h1 => count_any C lab1 _ an _ h1 (by show e2.out.length ≤ _; omega)).mono ?_
            rintro r w5 ⟨rfl, hm⟩
            have HE5 : Hid (Mv (En C) wa w5 (fresh lab w.heap.size 0) (Em.count { e2 with fl := σ3 } an)) := hm
            clear hm HE4 hfv
            go_wp2_with fail
            refine (HE5.out.call fun lab1 h1 => goOn_any C lab1 _ _ h1 (by have := Em.len_count { e2 with fl := σ3 } an; have h2 : ({ e2 with fl := σ3 } : Em.St).out.length = e2.out.length := rfl; omega) (by rw [(Em.count_keep _ _).fl]; exact HOK3.out)).mono ?_
            rintro r w6 ⟨rfl, hm⟩
            have HE6 : Hid (Mv (En C) wa w6 (fresh lab w.heap.size 0) (Em.goOn (Em.count { e2 with fl := σ3 } an))) := hm
            clear hm HE5
            go_wp2
            go_end0
            exact ⟨rfl, by rw [HX3.out]; exact HE6.out.unbox HBW.out⟩
        · rw [if_neg hs] at hX3
          have HX3 := (show Hid _ from hX3)
          clear hX3
          have hs' : ({ e2 with fl := σ3 } : Em.St).state = e2.state := rfl
          rw [hs'] at k0
          have hne : (e2.state == 7) = false := by simp; exact hs
          clear hs hs' HPE
          go_wp2
          go_end0
          exact ⟨rfl, by rw [HX3.out]; exact HE3.out.unbox HBW.out⟩
end Go.Proofs.YtidemohpngkedabGreatDoor

namespace Go.Proofs.YtidemohpngkedabGreatDoor
open Go.RowKit
set_option linter.unusedVariables false
set_option maxRecDepth 100000
set_option linter.unusedSimpArgs false

/-- behind the N(R) of RR, RNR, REJ -/
def Em.sup2 (e : Em.St) (c pf : Bool) (k n : Int) : Em.St := if e.state = 7 then Em.rep e k n else if (!c && pf) = true then Em.recov e k else e
theorem Em.super2_eq (e : Em.St) (f : Em.Fr) (n : Int) (hs : e.state = 7 ∨ e.state = 8) : Em.super2 e f n = Em.sup2 e f.c f.pf f.k n := by
  unfold Em.super2 Em.sup2
  rcases hs with hs | hs
  · rw [if_neg (show ¬ e.state = 8 by omega), if_pos hs]
    rfl
  · rw [if_pos hs, if_neg (show ¬ e.state = 7 by omega)]
    cases hc : f.c <;> cases hp : f.pf <;> rfl
def Em.supA (e : Em.St) (b : Bool) : Em.St := if b then Em.answer e false true else e
def Em.supB (e : Em.St) (b : Bool) : Em.St := if b then Em.tell e 7 (Em.letter 65) else e
theorem Em.supA_keep (e : Em.St) (b : Bool) : Em.Keep e (Em.supA e b) := by
  unfold Em.supA
  split
  · exact Em.answer_keep _ _ _
  · exact Em.Keep.refl _
theorem Em.supB_keep (e : Em.St) (b : Bool) : Em.Keep e (Em.supB e b) := by
  unfold Em.supB
  split
  · exact Em.tell_keep _ _ _
  · exact Em.Keep.refl _
theorem Em.len_supA (e : Em.St) (b : Bool) : (Em.supA e b).out.length ≤ e.out.length + 1 := by
  unfold Em.supA
  split
  · rw [Em.len_answer]; exact Nat.le_refl _
  · omega
theorem Em.len_supB (e : Em.St) (b : Bool) : (Em.supB e b).out.length ≤ e.out.length + 1 := by
  unfold Em.supB
  split
  · rw [Em.len_tell]; exact Nat.le_refl _
  · omega
def Em.supP (e : Em.St) (b : Bool) : Em.St := { e with fl := Wm.peerT e.fl b }
def Em.supK (e : Em.St) (nr : Int) : Em.St := { e with fl := Wm.ackT e.fl nr }
theorem Em.supervised_eq (e : Em.St) (f : Em.Fr) (hs : e.state = 7 ∨ e.state = 8) : Em.supervised e f =
    (let e3 := Em.supP (Em.supB (Em.supA e (f.c && f.pf)) (!f.c && f.pf && decide (e.state = 7))) (decide (f.k = 2))
     if Wm.ackB e3.fl f.nr then Em.sup2 (Em.supK e3 f.nr) f.c f.pf f.k (Wm.ackN e3.fl f.nr) else Em.anew (Em.supK e3 f.nr) (Em.letter 74)) := by
  have h1 : Em.super1 e f = Em.supP (Em.supB (Em.supA e (f.c && f.pf)) (!f.c && f.pf && decide (e.state = 7))) (decide (f.k = 2)) := rfl
  unfold Em.supervised
  rw [h1]
  simp only []
  generalize hz : Em.supP (Em.supB (Em.supA e (f.c && f.pf)) (!f.c && f.pf && decide (e.state = 7))) (decide (f.k = 2)) = e3
  have hs3 : e3.state = e.state := by
    rw [← hz]
    exact (((Em.supA_keep e _).trans (Em.supB_keep _ _)).state)
  split
  · exact Em.super2_eq _ f _ (by show e3.state = 7 ∨ e3.state = 8; rw [hs3]; exact hs)
  · rfl

set_option maxHeartbeats 4000000 in
theorem comeReport_any (C : Nat) (lab : Nat → Nat) (e : Em.St) (f : Em.Fr) (w : World) (h : En C w lab e) (hl : e.out.length ≤ 200000) (ok : Em.FlOk e.fl) (hs : e.state = 7 ∨ e.state = 8) (hk : f.k = 1 ∨ f.k = 2 ∨ f.k = 3) (r0 : -9223372036854775808 ≤ f.nr) (r1 : f.nr ≤ 9223372036854775807) :
    Calls Tryz.prog 131 #[.pointer (some ⟨C, 0, none⟩), frmV f] w fun r w' => r = .returned (.tuple #[]) ∧ Mv (En C) w w' lab (Em.supervised e f) := by
  rw [Em.supervised_eq e f hs]
  simp only []
  obtain ⟨sapi, tei, c, k, pf, ns, nr, info⟩ := f
  have hk' : k = 1 ∨ k = 2 ∨ k = 3 := hk
  have HKK : Hid (k = 1 ∨ k = 2 ∨ k = 3) := hk'
  have HS : Hid (e.state = 7 ∨ e.state = 8) := hs
  obtain ⟨X, hX⟩ : ∃ X, X = (if Wm.ackB (Em.supP (Em.supB (Em.supA e (c && pf)) (!c && pf && decide (e.state = 7))) (decide (k = 2))).fl nr then Em.sup2 (Em.supK (Em.supP (Em.supB (Em.supA e (c && pf)) (!c && pf && decide (e.state = 7))) (decide (k = 2))) nr) c pf k (Wm.ackN (Em.supP (Em.supB (Em.supA e (c && pf)) (!c && pf && decide (e.state = 7))) (decide (k = 2))).fl nr) else Em.anew (Em.supK (Em.supP (Em.supB (Em.supA e (c && pf)) (!c && pf && decide (e.state = 7))) (decide (k = 2))) nr) (Em.letter 74)) := ⟨_, rfl⟩
  rw [← hX]
  have HX : Hid (X = (if Wm.ackB (Em.supP (Em.supB (Em.supA e (c && pf)) (!c && pf && decide (e.state = 7))) (decide (k = 2))).fl nr then Em.sup2 (Em.supK (Em.supP (Em.supB (Em.supA e (c && pf)) (!c && pf && decide (e.state = 7))) (decide (k = 2))) nr) c pf k (Wm.ackN (Em.supP (Em.supB (Em.supA e (c && pf)) (!c && pf && decide (e.state = 7))) (decide (k = 2))).fl nr) else Em.anew (Em.supK (Em.supP (Em.supB (Em.supA e (c && pf)) (!c && pf && decide (e.state = 7))) (decide (k = 2))) nr) (Em.letter 74))) := hX
  clear hX hk hk' hs
  have HOK : Hid (Em.FlOk e.fl) := ok
  clear ok
  have hb : Below w.heap.size w (w.alloc (.cells #[.int .i64 sapi, .int .i64 tei, .bool c, .int .i64 k, .bool pf, .int .i64 ns, .int .i64 nr, .string info] 49)) := (Below.refl _ _).alloc (Nat.le_refl _) _
  have hF := frc_new w sapi tei c k pf ns nr info 49
  have hE := h.box hb
  unfold frmV
  obtain ⟨wa, hwa⟩ : ∃ wa, wa = w.alloc (.cells #[.int .i64 sapi, .int .i64 tei, .bool c, .int .i64 k, .bool pf, .int .i64 ns, .int .i64 nr, .string info] 49) := ⟨_, rfl⟩
  rw [← hwa] at hb hF hE
  have HBW : Hid (Below w.heap.size w wa) := hb
  have HFR : Hid (FrC wa w.heap.size sapi tei c k pf ns nr info) := hF
  have HE0 : Hid (Mv (En C) wa wa (fresh lab w.heap.size 0) e) := hE
  clear h hE hF hb
  have b2 := HFR.out.c2
  have b4 := HFR.out.c4
  have bl := HFR.out.lt
  go_enter Tryz.func131, Tryz.ntmps131
  go_upto_region 1 with fail
  rw [← hwa]
  clear hwa
  go_cut [4] from 7 to 13 (fun s wx => s = .bool (!c && pf) ∧ wx = wa)
  case first =>
    cases c with
    | true => go_wp2; go_meet; case rel => exact ⟨rfl, rfl⟩
    | false => go_wp2; go_meet; case rel => exact ⟨by simp, rfl⟩
  obtain ⟨rfl, hwc⟩ := hcut
  rw [hwc]
  clear hwc wc
  go_upto_region 2 with fail
  go_cut [19] from 14 to 18 (fun s wx => s = .bool (c && pf) ∧ wx = wa)
  case first =>
    cases c with
    | true => go_wp2; go_meet; case rel => exact ⟨by simp, rfl⟩
    | false => go_wp2; go_meet; case rel => exact ⟨rfl, rfl⟩
  obtain ⟨rfl, hwc⟩ := hcut
  rw [hwc]
  clear hwc wc b2 b4
  generalize (c && pf) = ba at HX ⊢
  obtain ⟨bf, hbf⟩ : ∃ bf, bf = (!c && pf) := ⟨_, rfl⟩
  rw [← hbf] at HX ⊢
  have HBF : Hid (bf = (!c && pf)) := hbf
  clear hbf
  go_upto_if 19 with fail
  go_cut [20] from 21 to 21 (fun _ wx => Hid (Mv (En C) wa wx (fresh lab w.heap.size 0) (Em.supA e ba)))
  case first =>
    cases ba with
    | true =>
      go_wp2_with fail
      refine (HE0.out.call fun lab1 h1 => answer_any C lab1 _ true _ h1 (by omega)).mono ?_
      rintro r w2 ⟨rfl, hm⟩
      have HE1 : Hid (Mv (En C) wa w2 (fresh lab w.heap.size 0) (Em.supA e true)) := hm
      clear hm HE0
      go_wp2_with fail
      go_meet
      case rel => exact HE1
    | false =>
      go_wp2_with fail
      go_meet
      case rel => exact HE0
  obtain ⟨e1, he1⟩ : ∃ e1, e1 = Em.supA e ba := ⟨_, rfl⟩
  rw [← he1] at hcut
  have HE1 : Hid (Mv (En C) wa wc (fresh lab w.heap.size 0) e1) := hcut
  have hk1 := Em.supA_keep e ba
  have hl1 := Em.len_supA e ba
  rw [← he1] at hk1 hl1
  have HK1 : Hid (e1.state = e.state ∧ e1.fl = e.fl) := ⟨hk1.state, hk1.fl⟩
  have HX1 : Hid (X = (if Wm.ackB (Em.supP (Em.supB e1 (bf && decide (e.state = 7))) (decide (k = 2))).fl nr then Em.sup2 (Em.supK (Em.supP (Em.supB e1 (bf && decide (e.state = 7))) (decide (k = 2))) nr) c pf k (Wm.ackN (Em.supP (Em.supB e1 (bf && decide (e.state = 7))) (decide (k = 2))).fl nr) else Em.anew (Em.supK (Em.supP (Em.supB e1 (bf && decide (e.state = 7))) (decide (k = 2))) nr) (Em.letter 74))) := by
    rw [he1]; exact HX.out
  obtain ⟨w1, hw1⟩ : ∃ w1, w1 = wc := ⟨_, rfl⟩
  rw [← hw1] at HE1 ⊢
  clear hcut he1 hk1 HX HE0 hw1 wc
  have ha1 := HE1.out.cells
  have k0 := ha1.c0
  rw [HK1.out.1] at k0
  have l1 := ha1.lt
  clear ha1
  go_upto_region 4 with fail
  go_cut [29] from 22 to 28 (fun s wx => s = .bool (bf && decide (e.state = 7)) ∧ wx = w1)
  case first =>
    rcases HS.out with hs | hs
    · rw [hs] at k0
      have HD : Hid (decide (e.state = 7) = true) := decide_eq_true hs
      clear hs
      cases bf with
      | true => go_wp2; go_meet; case rel => exact ⟨by rw [HD.out]; rfl, rfl⟩
      | false => go_wp2; go_meet; case rel => exact ⟨rfl, rfl⟩
    · rw [hs] at k0
      have HD : Hid (decide (e.state = 7) = false) := decide_eq_false (by omega)
      clear hs
      cases bf with
      | true => go_wp2; go_meet; case rel => exact ⟨by rw [HD.out]; rfl, rfl⟩
      | false => go_wp2; go_meet; case rel => exact ⟨rfl, rfl⟩
  obtain ⟨rfl, hwc⟩ := hcut
  rw [hwc]
  clear hwc wc k0 l1
  generalize (bf && decide (e.state = 7)) = bb at HX1 ⊢
  go_upto_if 29 with fail
  go_cut [30] from 31 to 31 (fun _ wx => Hid (Mv (En C) wa wx (fresh lab w.heap.size 0) (Em.supB e1 bb)))
  case first =>
    cases bb with
    | true =>
      go_wp2_with fail
      refine (HE1.out.call fun lab1 h1 => err_any C lab1 _ (Em.letter 65) _ h1 (by omega)).mono ?_
      rintro r w2 ⟨rfl, hm⟩
      have HE2 : Hid (Mv (En C) wa w2 (fresh lab w.heap.size 0) (Em.supB e1 true)) := hm
      clear hm HE1
      go_wp2_with fail
      go_meet
      case rel => exact HE2
    | false =>
      go_wp2_with fail
      go_meet
      case rel => exact HE1
  obtain ⟨e2, he2⟩ : ∃ e2, e2 = Em.supB e1 bb := ⟨_, rfl⟩
  rw [← he2] at hcut
  have HE2 : Hid (Mv (En C) wa wc (fresh lab w.heap.size 0) e2) := hcut
  have hk2 := Em.supB_keep e1 bb
  have hl2 := Em.len_supB e1 bb
  rw [← he2] at hk2 hl2
  have HK2 : Hid (e2.state = e.state ∧ e2.fl = e.fl) := ⟨hk2.state.trans HK1.out.1, hk2.fl.trans HK1.out.2⟩
  have HX2 : Hid (X = (if Wm.ackB (Em.supP e2 (decide (k = 2))).fl nr then Em.sup2 (Em.supK (Em.supP e2 (decide (k = 2))) nr) c pf k (Wm.ackN (Em.supP e2 (decide (k = 2))).fl nr) else Em.anew (Em.supK (Em.supP e2 (decide (k = 2))) nr) (Em.letter 74))) := by
    rw [he2]; exact HX1.out
  obtain ⟨w2, hw2⟩ : ∃ w2, w2 = wc := ⟨_, rfl⟩
  rw [← hw2] at HE2 ⊢
  clear hcut he2 hk2 HX1 HE1 HK1 hw2 wc
  -- SetPeer
  have b3 := (Mv.fr HE2.out HFR.out (Nat.le_refl _)).c3
  have bl2 := (Mv.fr HE2.out HFR.out (Nat.le_refl _)).lt
  obtain ⟨D, G, fc, fC, fD, ffl, fmv⟩ := HE2.out.flow
  have HMV : Hid (∀ w' σ', Mvf w2 w' D G σ' → Mv (En C) wa w' (fresh lab w.heap.size 0) { e2 with fl := σ' }) := fmv
  have hkd : (k == 2) = decide (k = 2) := rfl
  have HC : Hid (∀ W, Below w2.heap.size w2 W → Calls Tryz.prog 150 #[.pointer (some ⟨D, 0, none⟩), .bool (k == 2)] W fun r w' => r = .returned (.tuple #[]) ∧ Mv (En C) wa w' (fresh lab w.heap.size 0) (Em.supP e2 (decide (k = 2)))) := by
    intro W hW
    exact (fpeer_any D G e2.fl (k == 2) W (ffl.below hW)).mono fun r w' hx => ⟨hx.1, HMV.out _ _ (Mvf.ahead hW hx.2)⟩
  clear ffl fmv hkd bl
  go_upto_region 6 with fail
  go_cut [39] from 32 to 38 (fun _ wx => Hid (Mv (En C) wa wx (fresh lab w.heap.size 0) (Em.supP e2 (decide (k = 2)))))
  case first =>
    rcases HKK.out with rfl | rfl | rfl
    all_goals
      go_region_with (go_at_call 150; refine (HC.out _ (Below.refl _ _).drew).mono ?_; rintro r w3 ⟨rfl, hm⟩)
      all_goals
        have HEm := (show Hid _ from hm)
        clear hm
        go_wp2_with fail
        go_meet
        case rel => exact HEm
  obtain ⟨e3, he3⟩ : ∃ e3, e3 = Em.supP e2 (decide (k = 2)) := ⟨_, rfl⟩
  rw [← he3] at hcut
  have HE3 : Hid (Mv (En C) wa wc (fresh lab w.heap.size 0) e3) := hcut
  have hl3 : e3.out.length = e2.out.length := by rw [he3]; rfl
  have HK3 : Hid (e3.state = e.state ∧ Em.FlOk e3.fl) := by
    rw [he3]
    refine ⟨HK2.out.1, ?_⟩
    show Em.FlOk (Wm.peerT e2.fl _)
    rw [HK2.out.2]
    exact HOK.out.peer _
  have HX3 : Hid (X = (if Wm.ackB e3.fl nr then Em.sup2 (Em.supK e3 nr) c pf k (Wm.ackN e3.fl nr) else Em.anew (Em.supK e3 nr) (Em.letter 74))) := by
    rw [he3]; exact HX2.out
  obtain ⟨w3, hw3⟩ : ∃ w3, w3 = wc := ⟨_, rfl⟩
  rw [← hw3] at HE3 ⊢
  clear hcut he3 HX2 HE2 HK2 hw3 wc HC HMV fc fC fD b3 bl2 HOK
  -- Ack
  have b6 := (Mv.fr HE3.out HFR.out (Nat.le_refl _)).c6
  have bl3 := (Mv.fr HE3.out HFR.out (Nat.le_refl _)).lt
  obtain ⟨D, G, fc, fC, fD, ffl, fmv⟩ := HE3.out.flow
  have HMV : Hid (∀ w' σ', Mvf w3 w' D G σ' → Mv (En C) wa w' (fresh lab w.heap.size 0) { e3 with fl := σ' }) := fmv
  have HC : Hid (∀ W, Below w3.heap.size w3 W → Calls Tryz.prog 148 #[.pointer (some ⟨D, 0, none⟩), .int .i64 nr] W fun r w' => r = .returned (.tuple #[.int .i64 (Wm.ackN e3.fl nr), .int .i64 (Wm.ackE e3.fl nr)]) ∧ Mv (En C) wa w' (fresh lab w.heap.size 0) (Em.supK e3 nr)) := by
    intro W hW
    exact (fack_any D G e3.fl nr W (ffl.below hW) HK3.out.2.ok r0 r1).mono fun r w' hx => ⟨hx.1, HMV.out _ _ (Mvf.ahead hW hx.2)⟩
  clear ffl fmv
  go_upto_region 7 with fail
  go_cut [5, 6] from 40 to 49 (fun s5 s6 wx => s5 = .int .i64 (Wm.ackN e3.fl nr) ∧ s6 = .int .i64 (Wm.ackE e3.fl nr) ∧ Hid (Mv (En C) wa wx (fresh lab w.heap.size 0) (Em.supK e3 nr)))
  case first =>
    go_region_with (go_at_call 148; refine (HC.out _ (Below.refl _ _).drew).mono ?_; rintro r w4 ⟨rfl, hm⟩)
    all_goals
      have HEm := (show Hid _ from hm)
      clear hm
      go_wp2_with fail
      go_meet
      case rel => exact ⟨rfl, rfl, HEm⟩
  obtain ⟨rfl, rfl, HE4⟩ := hcut
  obtain ⟨w4, hw4⟩ : ∃ w4, w4 = wc := ⟨_, rfl⟩
  rw [← hw4] at HE4 ⊢
  clear hw4 wc HE3 HMV HC fc fC fD b6 bl3
  have hE : Wm.ackE e3.fl nr = if Wm.ackB e3.fl nr then 0 else 2 := rfl
  rw [hE]
  have hX3 := HX3.out
  clear HX3 hE
  generalize Wm.ackN e3.fl nr = an at hX3 ⊢
  obtain ⟨e4, he4⟩ : ∃ e4, e4 = Em.supK e3 nr := ⟨_, rfl⟩
  rw [← he4] at HE4 hX3
  have hl4 : e4.out.length = e3.out.length := by rw [he4]; rfl
  have HK4 : Hid (e4.state = e.state ∧ Em.FlOk e4.fl) := by
    rw [he4]
    exact ⟨HK3.out.1, HK3.out.2.ack nr⟩
  clear he4 HK3
  cases hb : Wm.ackB e3.fl nr with
  | false =>
    rw [hb, if_neg (by decide)] at hX3
    have HX4 := (show Hid _ from hX3)
    rw [if_neg (by decide)]
    clear hb hX3
    go_wp2_with fail
    refine (HE4.out.call fun lab1 h1 => callAnew_any C lab1 _ (Em.letter 74) _ h1 (by omega)).mono ?_
    rintro r w5 ⟨rfl, hm⟩
    have HE5 : Hid (Mv (En C) wa w5 (fresh lab w.heap.size 0) (Em.anew e4 (Em.letter 74))) := hm
    clear hm HE4
    go_wp2
    go_end0
    exact ⟨rfl, by rw [HX4.out]; exact HE5.out.unbox HBW.out⟩
  | true =>
    rw [hb, if_pos rfl] at hX3
    rw [if_pos rfl]
    clear hb
    unfold Em.sup2 at hX3
    have ha4 := HE4.out.cells
    have k0 := ha4.c0
    have l4 := ha4.lt
    clear ha4
    rw [HK4.out.1] at k0 hX3
    have b3 := (Mv.fr HE4.out HFR.out (Nat.le_refl _)).c3
    have bl4 := (Mv.fr HE4.out HFR.out (Nat.le_refl _)).lt
    rcases HS.out with hs | hs
    · rw [hs] at k0
      rw [if_pos hs] at hX3
      have HX4 := (show Hid _ from hX3)
      clear hs hX3
      go_wp2_with fail
      refine (HE4.out.call fun lab1 h1 => reported_any C lab1 _ k an _ h1 (by omega) HK4.out.2 HKK.out).mono ?_
      rintro r w5 ⟨rfl, hm⟩
      have HE5 : Hid (Mv (En C) wa w5 (fresh lab w.heap.size 0) (Em.rep e4 k an)) := hm
      clear hm HE4 k0 l4 b3 bl4
      go_wp2
      go_end0
      exact ⟨rfl, by rw [HX4.out]; exact HE5.out.unbox HBW.out⟩
    · rw [hs] at k0
      rw [if_neg (show ¬ e.state = 7 by omega)] at hX3
      clear hs
      rw [← HBF.out] at hX3
      cases bf with
      | true =>
        rw [if_pos rfl] at hX3
        have HX4 := (show Hid _ from hX3)
        clear hX3
        go_wp2_with fail
        refine (HE4.out.call fun lab1 h1 => recovered_any C lab1 _ k _ h1 (by omega) HK4.out.2).mono ?_
        rintro r w5 ⟨rfl, hm⟩
        have HE5 : Hid (Mv (En C) wa w5 (fresh lab w.heap.size 0) (Em.recov e4 k)) := hm
        clear hm HE4 k0 l4 b3 bl4
        go_wp2
        go_end0
        exact ⟨rfl, by rw [HX4.out]; exact HE5.out.unbox HBW.out⟩
      | false =>
        rw [if_neg (by decide)] at hX3
        have HX4 := (show Hid _ from hX3)
        clear hX3
        go_wp2
        go_end0
        exact ⟨rfl, by rw [HX4.out]; exact HE4.out.unbox HBW.out⟩
end Go.Proofs.YtidemohpngkedabGreatDoor

namespace Go.Proofs.YtidemohpngkedabGreatDoor
open Go.RowKit
set_option linter.unusedVariables false
set_option maxRecDepth 100000
set_option linter.unusedSimpArgs false

set_option maxHeartbeats 1000000 in
theorem comeLinked_any (C : Nat) (lab : Nat → Nat) (e : Em.St) (f : Em.Fr) (w : World) (h : En C w lab e) (hl : e.out.length ≤ 100000) (ok : Em.FlOk e.fl) (hs : e.state = 7 ∨ e.state = 8) (s0 : -9223372036854775808 ≤ f.ns) (s1 : f.ns ≤ 9223372036854775807) (r0 : -9223372036854775808 ≤ f.nr) (r1 : f.nr ≤ 9223372036854775807) (k0 : 0 ≤ f.k) (k9 : f.k ≤ 9) (k6 : f.k ≠ 6) :
    Calls Tryz.prog 91 #[.pointer (some ⟨C, 0, none⟩), frmV f] w fun r w' => r = .returned (.tuple #[]) ∧ Mv (En C) w w' lab (Em.inOpen e f) := by
  obtain ⟨sapi, tei, c, k, pf, ns, nr, info⟩ := f
  have HOK : Hid (Em.FlOk e.fl) := ok
  have HS : Hid (e.state = 7 ∨ e.state = 8) := hs
  clear ok hs
  simp only [] at s0 s1 r0 r1 k0 k9 k6
  have HB : Hid (∀ o, Mv (En C) w (w.alloc o) lab e) := fun o => h.same ((Below.refl _ _).alloc (Nat.le_refl _) o)
  clear h
  unfold frmV
  rcases (show k = 0 ∨ k = 1 ∨ k = 2 ∨ k = 3 ∨ k = 4 ∨ k = 7 ∨ k = 8 ∨ k = 5 ∨ k = 9 ∨ (¬ k = 0 ∧ ¬ k = 1 ∧ ¬ k = 2 ∧ ¬ k = 3 ∧ ¬ k = 4 ∧ ¬ k = 7 ∧ ¬ k = 8 ∧ ¬ k = 5 ∧ ¬ k = 9) by omega) with rfl | rfl | rfl | rfl | rfl | rfl | rfl | rfl | rfl | ⟨e0, e1, e2, e3, e4, e7, e8, e5, e9⟩
  · have hres : Em.inOpen e ⟨sapi, tei, c, 0, pf, ns, nr, info⟩ = Em.info e ⟨sapi, tei, c, 0, pf, ns, nr, info⟩ := by first | rfl | (unfold Em.inOpen; simp)
    rw [hres]
    clear hres
    have HE0 : Hid (Mv (En C) w (w.alloc (.cells #[.int .i64 sapi, .int .i64 tei, .bool c, .int .i64 0, .bool pf, .int .i64 ns, .int .i64 nr, .string info] 49)) lab e) := HB.out _
    clear HB
    go_enter Tryz.func91, Tryz.ntmps91
    go_wp2_with fail
    refine (HE0.out.call fun lab1 h1 => comeInfo_any C lab1 _ ⟨sapi, tei, c, 0, pf, ns, nr, info⟩ _ h1 (by omega) HOK.out s0 s1 r0 r1).mono ?_
    rintro r w1 ⟨rfl, hm⟩
    have HE1 : Hid (Mv (En C) w w1 lab (Em.info e ⟨sapi, tei, c, 0, pf, ns, nr, info⟩)) := hm
    clear HE0 hm
    go_wp2
    go_end0
    exact ⟨rfl, HE1.out⟩
  · have hres : Em.inOpen e ⟨sapi, tei, c, 1, pf, ns, nr, info⟩ = Em.supervised e ⟨sapi, tei, c, 1, pf, ns, nr, info⟩ := by first | rfl | (unfold Em.inOpen; simp)
    rw [hres]
    clear hres
    have HE0 : Hid (Mv (En C) w (w.alloc (.cells #[.int .i64 sapi, .int .i64 tei, .bool c, .int .i64 1, .bool pf, .int .i64 ns, .int .i64 nr, .string info] 49)) lab e) := HB.out _
    clear HB
    go_enter Tryz.func91, Tryz.ntmps91
    go_wp2_with fail
    refine (HE0.out.call fun lab1 h1 => comeReport_any C lab1 _ ⟨sapi, tei, c, 1, pf, ns, nr, info⟩ _ h1 (by omega) HOK.out HS.out (by simp) r0 r1).mono ?_
    rintro r w1 ⟨rfl, hm⟩
    have HE1 : Hid (Mv (En C) w w1 lab (Em.supervised e ⟨sapi, tei, c, 1, pf, ns, nr, info⟩)) := hm
    clear HE0 hm
    go_wp2
    go_end0
    exact ⟨rfl, HE1.out⟩
  · have hres : Em.inOpen e ⟨sapi, tei, c, 2, pf, ns, nr, info⟩ = Em.supervised e ⟨sapi, tei, c, 2, pf, ns, nr, info⟩ := by first | rfl | (unfold Em.inOpen; simp)
    rw [hres]
    clear hres
    have HE0 : Hid (Mv (En C) w (w.alloc (.cells #[.int .i64 sapi, .int .i64 tei, .bool c, .int .i64 2, .bool pf, .int .i64 ns, .int .i64 nr, .string info] 49)) lab e) := HB.out _
    clear HB
    go_enter Tryz.func91, Tryz.ntmps91
    go_wp2_with fail
    refine (HE0.out.call fun lab1 h1 => comeReport_any C lab1 _ ⟨sapi, tei, c, 2, pf, ns, nr, info⟩ _ h1 (by omega) HOK.out HS.out (by simp) r0 r1).mono ?_
    rintro r w1 ⟨rfl, hm⟩
    have HE1 : Hid (Mv (En C) w w1 lab (Em.supervised e ⟨sapi, tei, c, 2, pf, ns, nr, info⟩)) := hm
    clear HE0 hm
    go_wp2
    go_end0
    exact ⟨rfl, HE1.out⟩
  · have hres : Em.inOpen e ⟨sapi, tei, c, 3, pf, ns, nr, info⟩ = Em.supervised e ⟨sapi, tei, c, 3, pf, ns, nr, info⟩ := by first | rfl | (unfold Em.inOpen; simp)
    rw [hres]
    clear hres
    have HE0 : Hid (Mv (En C) w (w.alloc (.cells #[.int .i64 sapi, .int .i64 tei, .bool c, .int .i64 3, .bool pf, .int .i64 ns, .int .i64 nr, .string info] 49)) lab e) := HB.out _
    clear HB
    go_enter Tryz.func91, Tryz.ntmps91
    go_wp2_with fail
    refine (HE0.out.call fun lab1 h1 => comeReport_any C lab1 _ ⟨sapi, tei, c, 3, pf, ns, nr, info⟩ _ h1 (by omega) HOK.out HS.out (by simp) r0 r1).mono ?_
    rintro r w1 ⟨rfl, hm⟩
    have HE1 : Hid (Mv (En C) w w1 lab (Em.supervised e ⟨sapi, tei, c, 3, pf, ns, nr, info⟩)) := hm
    clear HE0 hm
    go_wp2
    go_end0
    exact ⟨rfl, HE1.out⟩
  · have hres : Em.inOpen e ⟨sapi, tei, c, 4, pf, ns, nr, info⟩ = Em.open' (Em.unsure (Em.tell (Em.send e (Em.bare false 8 pf)) 7 (Em.letter 70))) := by first | rfl | (unfold Em.inOpen; simp)
    rw [hres]
    clear hres
    have HE0 : Hid (Mv (En C) w (w.alloc (.cells #[.int .i64 sapi, .int .i64 tei, .bool c, .int .i64 4, .bool pf, .int .i64 ns, .int .i64 nr, .string info] 49)) lab e) := HB.out _
    clear HB
    go_enter Tryz.func91, Tryz.ntmps91
    go_wp2_with fail
    refine (HE0.out.call fun lab1 h1 => respond_any C lab1 _ 8 pf _ h1 (by omega)).mono ?_
    rintro r w1 ⟨rfl, hm⟩
    have HE1 : Hid (Mv (En C) w w1 lab (Em.send e (Em.bare false 8 pf))) := hm
    clear HE0 hm
    go_wp2_with fail
    refine (HE1.out.call fun lab1 h1 => err_any C lab1 _ (Em.letter 70) _ h1 (by rw [Em.len_send]; omega)).mono ?_
    rintro r w2 ⟨rfl, hm⟩
    have HE2 : Hid (Mv (En C) w w2 lab (Em.tell (Em.send e (Em.bare false 8 pf)) 7 (Em.letter 70))) := hm
    clear HE1 hm
    go_wp2_with fail
    refine (HE2.out.call fun lab1 h1 => giveUp_any C lab1 _  _ h1 (by rw [Em.len_tell, Em.len_send]; omega)).mono ?_
    rintro r w3 ⟨rfl, hm⟩
    have HE3 : Hid (Mv (En C) w w3 lab (Em.unsure (Em.tell (Em.send e (Em.bare false 8 pf)) 7 (Em.letter 70)))) := hm
    clear HE2 hm
    go_wp2_with fail
    refine (HE3.out.call fun lab1 h1 => open_any C lab1 _  _ h1 (by have := Em.len_unsure (Em.tell (Em.send e (Em.bare false 8 pf)) 7 (Em.letter 70)); rw [Em.len_tell, Em.len_send] at this; omega) (Em.unsure_fl HOK.out)).mono ?_
    rintro r w4 ⟨rfl, hm⟩
    have HE4 : Hid (Mv (En C) w w4 lab (Em.open' (Em.unsure (Em.tell (Em.send e (Em.bare false 8 pf)) 7 (Em.letter 70))))) := hm
    clear HE3 hm
    go_wp2
    go_end0
    exact ⟨rfl, HE4.out⟩
  · have hres : Em.inOpen e ⟨sapi, tei, c, 7, pf, ns, nr, info⟩ = Em.end' (Em.tell (Em.send e (Em.bare false 8 pf)) 3 ByteArray.empty) := by first | rfl | (unfold Em.inOpen; simp)
    rw [hres]
    clear hres
    have HE0 : Hid (Mv (En C) w (w.alloc (.cells #[.int .i64 sapi, .int .i64 tei, .bool c, .int .i64 7, .bool pf, .int .i64 ns, .int .i64 nr, .string info] 49)) lab e) := HB.out _
    clear HB
    go_enter Tryz.func91, Tryz.ntmps91
    go_wp2_with fail
    refine (HE0.out.call fun lab1 h1 => respond_any C lab1 _ 8 pf _ h1 (by omega)).mono ?_
    rintro r w1 ⟨rfl, hm⟩
    have HE1 : Hid (Mv (En C) w w1 lab (Em.send e (Em.bare false 8 pf))) := hm
    clear HE0 hm
    go_wp2_with fail
    refine (HE1.out.call fun lab1 h1 => tell_any C lab1 _ ⟨3, Em.fr0, ByteArray.empty, 0⟩ _ h1 (by rw [Em.len_send]; omega)).mono ?_
    rintro r w2 ⟨rfl, hm⟩
    have HE2 : Hid (Mv (En C) w w2 lab (Em.tell (Em.send e (Em.bare false 8 pf)) 3 ByteArray.empty)) := hm
    clear HE1 hm
    go_wp2_with fail
    refine (HE2.out.call fun lab1 h1 => end_any C lab1 _  _ h1 (by rw [Em.len_tell, Em.len_send]; omega)).mono ?_
    rintro r w3 ⟨rfl, hm⟩
    have HE3 : Hid (Mv (En C) w w3 lab (Em.end' (Em.tell (Em.send e (Em.bare false 8 pf)) 3 ByteArray.empty))) := hm
    clear HE2 hm
    go_wp2
    go_end0
    exact ⟨rfl, HE3.out⟩
  · have hres : Em.inOpen e ⟨sapi, tei, c, 8, pf, ns, nr, info⟩ = Em.strange e ⟨sapi, tei, c, 8, pf, ns, nr, info⟩ := by first | rfl | (unfold Em.inOpen; simp)
    rw [hres]
    clear hres
    have HE0 : Hid (Mv (En C) w (w.alloc (.cells #[.int .i64 sapi, .int .i64 tei, .bool c, .int .i64 8, .bool pf, .int .i64 ns, .int .i64 nr, .string info] 49)) lab e) := HB.out _
    clear HB
    go_enter Tryz.func91, Tryz.ntmps91
    go_wp2_with fail
    refine (HE0.out.call fun lab1 h1 => refuseUA_any C lab1 _ ⟨sapi, tei, c, 8, pf, ns, nr, info⟩ _ h1 (by omega)).mono ?_
    rintro r w1 ⟨rfl, hm⟩
    have HE1 : Hid (Mv (En C) w w1 lab (Em.strange e ⟨sapi, tei, c, 8, pf, ns, nr, info⟩)) := hm
    clear HE0 hm
    go_wp2
    go_end0
    exact ⟨rfl, HE1.out⟩
  · cases pf with
    | true =>
      have hres : Em.inOpen e ⟨sapi, tei, c, 5, true, ns, nr, info⟩ = Em.anew e (Em.letter 66) := by first | rfl | (unfold Em.inOpen; simp)
      rw [hres]
      clear hres
      have HE0 : Hid (Mv (En C) w (w.alloc (.cells #[.int .i64 sapi, .int .i64 tei, .bool c, .int .i64 5, .bool true, .int .i64 ns, .int .i64 nr, .string info] 49)) lab e) := HB.out _
      clear HB
      go_enter Tryz.func91, Tryz.ntmps91
      go_wp2_with fail
      refine (HE0.out.call fun lab1 h1 => callAnew_any C lab1 _ (Em.letter 66) _ h1 (by omega)).mono ?_
      rintro r w1 ⟨rfl, hm⟩
      have HE1 : Hid (Mv (En C) w w1 lab (Em.anew e (Em.letter 66))) := hm
      clear HE0 hm
      go_wp2
      go_end0
      exact ⟨rfl, HE1.out⟩
    | false =>
      have hres : Em.inOpen e ⟨sapi, tei, c, 5, false, ns, nr, info⟩ = Em.anew e (Em.letter 69) := by first | rfl | (unfold Em.inOpen; simp)
      rw [hres]
      clear hres
      have HE0 : Hid (Mv (En C) w (w.alloc (.cells #[.int .i64 sapi, .int .i64 tei, .bool c, .int .i64 5, .bool false, .int .i64 ns, .int .i64 nr, .string info] 49)) lab e) := HB.out _
      clear HB
      go_enter Tryz.func91, Tryz.ntmps91
      go_wp2_with fail
      refine (HE0.out.call fun lab1 h1 => callAnew_any C lab1 _ (Em.letter 69) _ h1 (by omega)).mono ?_
      rintro r w1 ⟨rfl, hm⟩
      have HE1 : Hid (Mv (En C) w w1 lab (Em.anew e (Em.letter 69))) := hm
      clear HE0 hm
      go_wp2
      go_end0
      exact ⟨rfl, HE1.out⟩
  · have hres : Em.inOpen e ⟨sapi, tei, c, 9, pf, ns, nr, info⟩ = Em.anew e (Em.letter 75) := by first | rfl | (unfold Em.inOpen; simp)
    rw [hres]
    clear hres
    have HE0 : Hid (Mv (En C) w (w.alloc (.cells #[.int .i64 sapi, .int .i64 tei, .bool c, .int .i64 9, .bool pf, .int .i64 ns, .int .i64 nr, .string info] 49)) lab e) := HB.out _
    clear HB
    go_enter Tryz.func91, Tryz.ntmps91
    go_wp2_with fail
    refine (HE0.out.call fun lab1 h1 => callAnew_any C lab1 _ (Em.letter 75) _ h1 (by omega)).mono ?_
    rintro r w1 ⟨rfl, hm⟩
    have HE1 : Hid (Mv (En C) w w1 lab (Em.anew e (Em.letter 75))) := hm
    clear HE0 hm
    go_wp2
    go_end0
    exact ⟨rfl, HE1.out⟩
  · exfalso; omega

/-- a frame that may be comes -/
def Em.come (e : Em.St) (f : Em.Fr) : Em.St :=
  if f.k = 6 then Em.tell e 6 f.info
  else if e.state = 4 then Em.inAssigned e f
  else if e.state = 5 then Em.inConnecting e f
  else if e.state = 6 then Em.inReleasing e f
  else Em.inOpen e f
set_option maxHeartbeats 2000000 in
theorem come_any (C : Nat) (lab : Nat → Nat) (e : Em.St) (f : Em.Fr) (w : World) (h : En C w lab e) (hl : e.out.length ≤ 50000) (ok : Em.FlOk e.fl) (h4 : 4 ≤ e.state) (h8 : e.state ≤ 8) (s0 : -9223372036854775808 ≤ f.ns) (s1 : f.ns ≤ 9223372036854775807) (r0 : -9223372036854775808 ≤ f.nr) (r1 : f.nr ≤ 9223372036854775807) (k0 : 0 ≤ f.k) (k9 : f.k ≤ 9) :
    Calls Tryz.prog 42 #[.pointer (some ⟨C, 0, none⟩), frmV f] w fun r w' => r = .returned (.tuple #[]) ∧ Mv (En C) w w' lab (Em.come e f) := by
  obtain ⟨sapi, tei, c, k, pf, ns, nr, info⟩ := f
  simp only [] at s0 s1 r0 r1 k0 k9
  have HOK : Hid (Em.FlOk e.fl) := ok
  have HB : Hid (∀ o, Mv (En C) w (w.alloc o) lab e) := fun o => h.same ((Below.refl _ _).alloc (Nat.le_refl _) o)
  have c0 := h.cs.c0
  have hlt := h.cs.lt
  clear h ok
  unfold frmV
  by_cases h6 : k = 6
  · subst h6
    have hres : Em.come e ⟨sapi, tei, c, 6, pf, ns, nr, info⟩ = Em.tell e 6 info := rfl
    rw [hres]
    clear hres
    have HE0 : Hid (Mv (En C) w (w.alloc (.cells #[.int .i64 sapi, .int .i64 tei, .bool c, .int .i64 6, .bool pf, .int .i64 ns, .int .i64 nr, .string info] 49)) lab e) := HB.out _
    clear HB
    go_enter Tryz.func42, Tryz.ntmps42
    go_wp2_with fail
    refine (HE0.out.call fun lab1 h1 => tell_any C lab1 _ ⟨6, Em.fr0, info, 0⟩ _ h1 (by omega)).mono ?_
    rintro r w1 ⟨rfl, hm⟩
    have HE1 : Hid (Mv (En C) w w1 lab (Em.tell e 6 info)) := hm
    clear HE0 hm
    go_wp2
    refine bodyPost_ret (v := .tuple #[]) (results_none rfl _ _ _) rfl ?_
    exact ⟨rfl, HE1.out⟩
  · have n6 : (k == 6) = false := by simp; exact h6
    have HE0 : Hid (Mv (En C) w (w.alloc (.cells #[.int .i64 sapi, .int .i64 tei, .bool c, .int .i64 k, .bool pf, .int .i64 ns, .int .i64 nr, .string info] 49)) lab e) := HB.out _
    clear HB
    have H6 : Hid (k ≠ 6) := h6
    obtain ⟨st, hst⟩ : ∃ st, e.state = st := ⟨_, rfl⟩
    rw [hst] at c0 h4 h8
    have HST : Hid (e.state = st) := hst
    clear hst h6
    rcases (show st = 4 ∨ st = 5 ∨ st = 6 ∨ (st = 7 ∨ st = 8) by omega) with rfl | rfl | rfl | hx
    · have hres : Em.come e ⟨sapi, tei, c, k, pf, ns, nr, info⟩ = Em.inAssigned e ⟨sapi, tei, c, k, pf, ns, nr, info⟩ := by unfold Em.come; rw [if_neg H6.out, if_pos HST.out]
      rw [hres]
      clear hres
      go_enter Tryz.func42, Tryz.ntmps42
      go_wp2_with fail
      refine (HE0.out.call fun lab1 h1 => comeAssigned_any C lab1 _ ⟨sapi, tei, c, k, pf, ns, nr, info⟩ _ h1 (by omega) HOK.out).mono ?_
      rintro r w1 ⟨rfl, hm⟩
      have HE1 : Hid (Mv (En C) w w1 lab (Em.inAssigned e ⟨sapi, tei, c, k, pf, ns, nr, info⟩)) := hm
      clear HE0 hm
      go_wp2
      go_end0
      exact ⟨rfl, HE1.out⟩
    · have hres : Em.come e ⟨sapi, tei, c, k, pf, ns, nr, info⟩ = Em.inConnecting e ⟨sapi, tei, c, k, pf, ns, nr, info⟩ := by unfold Em.come; rw [if_neg H6.out, if_neg (by rw [HST.out]; decide), if_pos HST.out]
      rw [hres]
      clear hres
      go_enter Tryz.func42, Tryz.ntmps42
      go_wp2_with fail
      refine (HE0.out.call fun lab1 h1 => comeConnecting_any C lab1 _ ⟨sapi, tei, c, k, pf, ns, nr, info⟩ _ h1 (by omega) HOK.out).mono ?_
      rintro r w1 ⟨rfl, hm⟩
      have HE1 : Hid (Mv (En C) w w1 lab (Em.inConnecting e ⟨sapi, tei, c, k, pf, ns, nr, info⟩)) := hm
      clear HE0 hm
      go_wp2
      go_end0
      exact ⟨rfl, HE1.out⟩
    · have hres : Em.come e ⟨sapi, tei, c, k, pf, ns, nr, info⟩ = Em.inReleasing e ⟨sapi, tei, c, k, pf, ns, nr, info⟩ := by unfold Em.come; rw [if_neg H6.out, if_neg (by rw [HST.out]; decide), if_neg (by rw [HST.out]; decide), if_pos HST.out]
      rw [hres]
      clear hres
      go_enter Tryz.func42, Tryz.ntmps42
      go_wp2_with fail
      refine (HE0.out.call fun lab1 h1 => comeReleasing_any C lab1 _ ⟨sapi, tei, c, k, pf, ns, nr, info⟩ _ h1 (by omega)).mono ?_
      rintro r w1 ⟨rfl, hm⟩
      have HE1 : Hid (Mv (En C) w w1 lab (Em.inReleasing e ⟨sapi, tei, c, k, pf, ns, nr, info⟩)) := hm
      clear HE0 hm
      go_wp2
      go_end0
      exact ⟨rfl, HE1.out⟩
    · have HX : Hid (st = 7 ∨ st = 8) := hx
      have hres : Em.come e ⟨sapi, tei, c, k, pf, ns, nr, info⟩ = Em.inOpen e ⟨sapi, tei, c, k, pf, ns, nr, info⟩ := by
        have hz := HST.out
        unfold Em.come
        rw [if_neg H6.out, if_neg (show ¬ e.state = 4 by omega), if_neg (show ¬ e.state = 5 by omega), if_neg (show ¬ e.state = 6 by omega)]
      rw [hres]
      clear hres
      rcases hx with rfl | rfl
      · go_enter Tryz.func42, Tryz.ntmps42
        go_wp2_with fail
        refine (HE0.out.call fun lab1 h1 => comeLinked_any C lab1 _ ⟨sapi, tei, c, k, pf, ns, nr, info⟩ _ h1 (by omega) HOK.out (by rw [HST.out]; simp) s0 s1 r0 r1 k0 k9 H6.out).mono ?_
        rintro r w1 ⟨rfl, hm⟩
        have HE1 : Hid (Mv (En C) w w1 lab (Em.inOpen e ⟨sapi, tei, c, k, pf, ns, nr, info⟩)) := hm
        clear HE0 hm
        go_wp2
        go_end0
        exact ⟨rfl, HE1.out⟩
      · go_enter Tryz.func42, Tryz.ntmps42
        go_wp2_with fail
        refine (HE0.out.call fun lab1 h1 => comeLinked_any C lab1 _ ⟨sapi, tei, c, k, pf, ns, nr, info⟩ _ h1 (by omega) HOK.out (by rw [HST.out]; simp) s0 s1 r0 r1 k0 k9 H6.out).mono ?_
        rintro r w1 ⟨rfl, hm⟩
        have HE1 : Hid (Mv (En C) w w1 lab (Em.inOpen e ⟨sapi, tei, c, k, pf, ns, nr, info⟩)) := hm
        clear HE0 hm
        go_wp2
        go_end0
        exact ⟨rfl, HE1.out⟩
end Go.Proofs.YtidemohpngkedabGreatDoor
