/-
  The walks of what an entity's user asks.
  The walks of Unit and of all that is asked; what a call hands out, and an entity between calls.
  What an entity tells leaves its units where they lie; the walks of sending units with that word.
  An entity between calls; what each call hands out: Ask, Assign, Remove, Frame, Timeout.
  The walks of an entity's Remove, Timeout, Assign, Frame.
  The walk of an entity's Timeout.
-/
import Derived.Test.YtidemohpngkedabGreatDoorEntLinked
import Derived.Test.YtidemohpngkedabGreatDoorEntPlain
import Derived.Deep.DeepCutAuto
namespace Go.Proofs.YtidemohpngkedabGreatDoor
open Go.RowKit
set_option linter.unusedVariables false
set_option maxRecDepth 100000
set_option linter.unusedSimpArgs false

theorem linked_any (C : Nat) (lab : Nat → Nat) (e : Em.St) (w : World) (h : En C w lab e) :
    Calls Tryz.prog 120 #[.pointer (some ⟨C, 0, none⟩)] w fun r w' => r = .returned (.bool (decide (e.state = 7 ∨ e.state = 8))) ∧ w = w' := by
  have c0 := h.cs.c0
  have hlt := h.cs.lt
  clear h
  have HK : Hid (decide (e.state = 7 ∨ e.state = 8) = (e.state == 7 || e.state == 8)) := by
    show _ = _
    rw [Bool.eq_iff_iff]
    simp
  generalize e.state = s at c0 HK
  rw [HK.out]
  by_cases h7 : s = 7
  · subst h7
    go_enter Tryz.func120, Tryz.ntmps120
    go_wp2
    go_ret
    exact ⟨rfl, rfl⟩
  · have n7 : (s == 7) = false := by simp; exact h7
    rw [n7]
    clear h7
    go_enter Tryz.func120, Tryz.ntmps120
    go_wp2
    go_ret
    exact ⟨by simp, rfl⟩

set_option maxHeartbeats 1000000 in
theorem establish_any (C : Nat) (lab : Nat → Nat) (e : Em.St) (w : World) (h : En C w lab e) (hl : e.out.length ≤ 100000) (s1 : 1 ≤ e.state) (s8 : e.state ≤ 8) :
    Calls Tryz.prog 76 #[.pointer (some ⟨C, 0, none⟩)] w fun r w' => r = .returned (.int .i64 ((Em.establish e).2)) ∧ Mv (En C) w w' lab ((Em.establish e).1) := by
  have HE0 : Hid (Mv (En C) w w lab e) := h.same (Below.refl _ _)
  have c0 := h.cs.c0
  have hlt := h.cs.lt
  clear h
  obtain ⟨st, hst⟩ : ∃ st, e.state = st := ⟨_, rfl⟩
  rw [hst] at c0 s1 s8
  have HST : Hid (e.state = st) := hst
  clear hst
  rcases (show st = 1 ∨ st = 2 ∨ st = 3 ∨ st = 4 ∨ st = 5 ∨ st = 6 ∨ st = 7 ∨ st = 8 by omega) with rfl | rfl | rfl | rfl | rfl | rfl | rfl | rfl
  · have hres : Em.establish e = ({ Em.tell e 8 ByteArray.empty with state := 3 }, 0) := by unfold Em.establish; rw [HST.out]; rfl
    rw [hres]
    clear hres
    go_enter Tryz.func76, Tryz.ntmps76
    go_wp2_with fail
    refine (HE0.out.call fun lab1 h1 => tell_any C lab1 _ ⟨8, Em.fr0, ByteArray.empty, 0⟩ _ h1 (by omega)).mono ?_
    rintro r w1 ⟨rfl, hm⟩
    have HE1 : Hid (Mv (En C) w w1 lab (Em.tell e 8 ByteArray.empty)) := hm
    clear HE0 hm
    have ha1 := HE1.out.cells
    have k10 := ha1.c0
    have l1 := ha1.lt
    have g1 := ha1.f 0 (by decide)
    clear ha1
    have HE2 : Hid (Mv (En C) w (w1.setCell ⟨C, 0, none⟩ (.int .i64 3)) lab ({ Em.tell e 8 ByteArray.empty with state := 3 })) := HE1.out.trans fun _ hx => hx.setState 3
    go_wp2
    go_ret
    exact ⟨rfl, HE2.out⟩
  · have hres : Em.establish e = ({ e with state := 3 }, 0) := by unfold Em.establish; rw [HST.out]; rfl
    rw [hres]
    clear hres
    have ha0 := HE0.out.cells
    have k00 := ha0.c0
    have l0 := ha0.lt
    have g0 := ha0.f 0 (by decide)
    clear ha0
    have HE1 : Hid (Mv (En C) w (w.setCell ⟨C, 0, none⟩ (.int .i64 3)) lab ({ e with state := 3 })) := HE0.out.trans fun _ hx => hx.setState 3
    go_enter Tryz.func76, Tryz.ntmps76
    go_wp2
    go_ret
    exact ⟨rfl, HE1.out⟩
  · have hres : Em.establish e = (e, 0) := by unfold Em.establish; rw [HST.out]; rfl
    rw [hres]
    clear hres
    go_enter Tryz.func76, Tryz.ntmps76
    go_wp2
    go_ret
    exact ⟨rfl, HE0.out⟩
  · have hres : Em.establish e = (Em.call { e with asked := true }, 0) := by unfold Em.establish; rw [HST.out]; rfl
    rw [hres]
    clear hres
    go_enter Tryz.func76, Tryz.ntmps76
    go_wp2_with fail
    refine (HE0.out.call fun lab1 h1 => callAsked_any C lab1 _  _ h1 (by omega)).mono ?_
    rintro r w1 ⟨rfl, hm⟩
    have HE1 : Hid (Mv (En C) w w1 lab (Em.call { e with asked := true })) := hm
    clear HE0 hm
    go_wp2
    go_ret
    exact ⟨rfl, HE1.out⟩
  · have hres : Em.establish e = ({ Em.clear e with asked := true }, 0) := by unfold Em.establish; rw [HST.out]; rfl
    rw [hres]
    clear hres
    obtain ⟨D, G, fc, fC, fD, ffl, fmv⟩ := HE0.out.flow
    have HFL : Hid (Fl (w) D G (e).fl) := ffl
    have HMV : Hid (∀ w' σ', Mvf (w) w' D G σ' → Mv (En C) w w' lab { (e) with fl := σ' }) := fmv
    clear ffl fmv
    go_enter Tryz.func76, Tryz.ntmps76
    go_wp2_with fail
    refine (fclear_any D G _  _ HFL.out).mono ?_
    rintro r w1 ⟨rfl, hm⟩
    have HE1 : Hid (Mv (En C) w w1 lab (Em.clear e)) := HMV.out _ _ hm
    clear HE0 hm HFL HMV fc fC fD
    have ha1 := HE1.out.cells
    have k15 := ha1.c5
    have l1 := ha1.lt
    have g1 := ha1.f 5 (by decide)
    clear ha1
    have HE2 : Hid (Mv (En C) w (w1.setCell ⟨C, 5, none⟩ (.bool true)) lab ({ Em.clear e with asked := true })) := HE1.out.trans fun _ hx => hx.setAsked true
    go_wp2
    go_ret
    exact ⟨rfl, HE2.out⟩
  · have hres : Em.establish e = (e, 12) := by unfold Em.establish; rw [HST.out]; rfl
    rw [hres]
    clear hres
    go_enter Tryz.func76, Tryz.ntmps76
    go_wp2
    go_ret
    exact ⟨rfl, HE0.out⟩
  · have hres : Em.establish e = (Em.call { Em.clear e with asked := true }, 0) := by unfold Em.establish; rw [HST.out]; rfl
    rw [hres]
    clear hres
    obtain ⟨D, G, fc, fC, fD, ffl, fmv⟩ := HE0.out.flow
    have HFL : Hid (Fl (w) D G (e).fl) := ffl
    have HMV : Hid (∀ w' σ', Mvf (w) w' D G σ' → Mv (En C) w w' lab { (e) with fl := σ' }) := fmv
    clear ffl fmv
    go_enter Tryz.func76, Tryz.ntmps76
    go_wp2_with fail
    refine (fclear_any D G _  _ HFL.out).mono ?_
    rintro r w1 ⟨rfl, hm⟩
    have HE1 : Hid (Mv (En C) w w1 lab (Em.clear e)) := HMV.out _ _ hm
    clear HE0 hm HFL HMV fc fC fD
    go_wp2_with fail
    refine (HE1.out.call fun lab1 h1 => callAsked_any C lab1 _  _ h1 (by show e.out.length ≤ _; omega)).mono ?_
    rintro r w2 ⟨rfl, hm⟩
    have HE2 : Hid (Mv (En C) w w2 lab (Em.call { Em.clear e with asked := true })) := hm
    clear HE1 hm
    go_wp2
    go_ret
    exact ⟨rfl, HE2.out⟩
  · have hres : Em.establish e = (Em.call { Em.clear e with asked := true }, 0) := by unfold Em.establish; rw [HST.out]; rfl
    rw [hres]
    clear hres
    obtain ⟨D, G, fc, fC, fD, ffl, fmv⟩ := HE0.out.flow
    have HFL : Hid (Fl (w) D G (e).fl) := ffl
    have HMV : Hid (∀ w' σ', Mvf (w) w' D G σ' → Mv (En C) w w' lab { (e) with fl := σ' }) := fmv
    clear ffl fmv
    go_enter Tryz.func76, Tryz.ntmps76
    go_wp2_with fail
    refine (fclear_any D G _  _ HFL.out).mono ?_
    rintro r w1 ⟨rfl, hm⟩
    have HE1 : Hid (Mv (En C) w w1 lab (Em.clear e)) := HMV.out _ _ hm
    clear HE0 hm HFL HMV fc fC fD
    go_wp2_with fail
    refine (HE1.out.call fun lab1 h1 => callAsked_any C lab1 _  _ h1 (by show e.out.length ≤ _; omega)).mono ?_
    rintro r w2 ⟨rfl, hm⟩
    have HE2 : Hid (Mv (En C) w w2 lab (Em.call { Em.clear e with asked := true })) := hm
    clear HE1 hm
    go_wp2
    go_ret
    exact ⟨rfl, HE2.out⟩

set_option maxHeartbeats 1000000 in
theorem release_any (C : Nat) (lab : Nat → Nat) (e : Em.St) (w : World) (h : En C w lab e) (hl : e.out.length ≤ 100000) (s1 : 1 ≤ e.state) (s8 : e.state ≤ 8) :
    Calls Tryz.prog 77 #[.pointer (some ⟨C, 0, none⟩)] w fun r w' => r = .returned (.int .i64 ((Em.release e).2)) ∧ Mv (En C) w w' lab ((Em.release e).1) := by
  have HE0 : Hid (Mv (En C) w w lab e) := h.same (Below.refl _ _)
  have c0 := h.cs.c0
  have hlt := h.cs.lt
  clear h
  obtain ⟨st, hst⟩ : ∃ st, e.state = st := ⟨_, rfl⟩
  rw [hst] at c0 s1 s8
  have HST : Hid (e.state = st) := hst
  clear hst
  rcases (show st = 1 ∨ st = 2 ∨ st = 3 ∨ st = 4 ∨ st = 5 ∨ st = 6 ∨ st = 7 ∨ st = 8 by omega) with rfl | rfl | rfl | rfl | rfl | rfl | rfl | rfl
  · have hres : Em.release e = (e, 12) := by unfold Em.release; rw [HST.out]; rfl
    rw [hres]
    clear hres
    go_enter Tryz.func77, Tryz.ntmps77
    go_wp2
    go_ret
    exact ⟨rfl, HE0.out⟩
  · have hres : Em.release e = (e, 12) := by unfold Em.release; rw [HST.out]; rfl
    rw [hres]
    clear hres
    go_enter Tryz.func77, Tryz.ntmps77
    go_wp2
    go_ret
    exact ⟨rfl, HE0.out⟩
  · have hres : Em.release e = (e, 12) := by unfold Em.release; rw [HST.out]; rfl
    rw [hres]
    clear hres
    go_enter Tryz.func77, Tryz.ntmps77
    go_wp2
    go_ret
    exact ⟨rfl, HE0.out⟩
  · have hres : Em.release e = (Em.tell e 4 ByteArray.empty, 0) := by unfold Em.release; rw [HST.out]; rfl
    rw [hres]
    clear hres
    go_enter Tryz.func77, Tryz.ntmps77
    go_wp2_with fail
    refine (HE0.out.call fun lab1 h1 => tell_any C lab1 _ ⟨4, Em.fr0, ByteArray.empty, 0⟩ _ h1 (by omega)).mono ?_
    rintro r w1 ⟨rfl, hm⟩
    have HE1 : Hid (Mv (En C) w w1 lab (Em.tell e 4 ByteArray.empty)) := hm
    clear HE0 hm
    go_wp2
    go_ret
    exact ⟨rfl, HE1.out⟩
  · have hres : Em.release e = (e, 12) := by unfold Em.release; rw [HST.out]; rfl
    rw [hres]
    clear hres
    go_enter Tryz.func77, Tryz.ntmps77
    go_wp2
    go_ret
    exact ⟨rfl, HE0.out⟩
  · have hres : Em.release e = (e, 12) := by unfold Em.release; rw [HST.out]; rfl
    rw [hres]
    clear hres
    go_enter Tryz.func77, Tryz.ntmps77
    go_wp2
    go_ret
    exact ⟨rfl, HE0.out⟩
  · have hres : Em.release e = ({ Em.start200 (Em.stop203 (Em.send { Em.clear e with tries := 0 } (Em.bare true 7 true))) with state := 6 }, 0) := by unfold Em.release; rw [HST.out]; rfl
    rw [hres]
    clear hres
    obtain ⟨D, G, fc, fC, fD, ffl, fmv⟩ := HE0.out.flow
    have HFL : Hid (Fl (w) D G (e).fl) := ffl
    have HMV : Hid (∀ w' σ', Mvf (w) w' D G σ' → Mv (En C) w w' lab { (e) with fl := σ' }) := fmv
    clear ffl fmv
    go_enter Tryz.func77, Tryz.ntmps77
    go_wp2_with fail
    refine (fclear_any D G _  _ HFL.out).mono ?_
    rintro r w1 ⟨rfl, hm⟩
    have HE1 : Hid (Mv (En C) w w1 lab (Em.clear e)) := HMV.out _ _ hm
    clear HE0 hm HFL HMV fc fC fD
    have ha1 := HE1.out.cells
    have k14 := ha1.c4
    have l1 := ha1.lt
    have g1 := ha1.f 4 (by decide)
    clear ha1
    have HE2 : Hid (Mv (En C) w (w1.setCell ⟨C, 4, none⟩ (.int .i64 0)) lab ({ Em.clear e with tries := 0 })) := HE1.out.trans fun _ hx => hx.setTries 0
    go_wp2_with fail
    refine (HE2.out.call fun lab1 h1 => command_any C lab1 _ 7 _ h1 (by show e.out.length ≤ _; omega)).mono ?_
    rintro r w3 ⟨rfl, hm⟩
    have HE3 : Hid (Mv (En C) w w3 lab (Em.send { Em.clear e with tries := 0 } (Em.bare true 7 true))) := hm
    clear HE2 hm
    go_wp2_with fail
    refine (HE3.out.call fun lab1 h1 => await_any C lab1 _  _ h1 (by rw [Em.len_send]; show e.out.length + 1 ≤ _; omega)).mono ?_
    rintro r w4 ⟨rfl, hm⟩
    have HE4 : Hid (Mv (En C) w w4 lab (Em.start200 (Em.stop203 (Em.send { Em.clear e with tries := 0 } (Em.bare true 7 true))))) := hm
    clear HE3 hm
    have ha4 := HE4.out.cells
    have k40 := ha4.c0
    have l4 := ha4.lt
    have g4 := ha4.f 0 (by decide)
    clear ha4
    have HE5 : Hid (Mv (En C) w (w4.setCell ⟨C, 0, none⟩ (.int .i64 6)) lab ({ Em.start200 (Em.stop203 (Em.send { Em.clear e with tries := 0 } (Em.bare true 7 true))) with state := 6 })) := HE4.out.trans fun _ hx => hx.setState 6
    go_wp2
    go_ret
    exact ⟨rfl, HE5.out⟩
  · have hres : Em.release e = ({ Em.start200 (Em.stop203 (Em.send { Em.clear e with tries := 0 } (Em.bare true 7 true))) with state := 6 }, 0) := by unfold Em.release; rw [HST.out]; rfl
    rw [hres]
    clear hres
    obtain ⟨D, G, fc, fC, fD, ffl, fmv⟩ := HE0.out.flow
    have HFL : Hid (Fl (w) D G (e).fl) := ffl
    have HMV : Hid (∀ w' σ', Mvf (w) w' D G σ' → Mv (En C) w w' lab { (e) with fl := σ' }) := fmv
    clear ffl fmv
    go_enter Tryz.func77, Tryz.ntmps77
    go_wp2_with fail
    refine (fclear_any D G _  _ HFL.out).mono ?_
    rintro r w1 ⟨rfl, hm⟩
    have HE1 : Hid (Mv (En C) w w1 lab (Em.clear e)) := HMV.out _ _ hm
    clear HE0 hm HFL HMV fc fC fD
    have ha1 := HE1.out.cells
    have k14 := ha1.c4
    have l1 := ha1.lt
    have g1 := ha1.f 4 (by decide)
    clear ha1
    have HE2 : Hid (Mv (En C) w (w1.setCell ⟨C, 4, none⟩ (.int .i64 0)) lab ({ Em.clear e with tries := 0 })) := HE1.out.trans fun _ hx => hx.setTries 0
    go_wp2_with fail
    refine (HE2.out.call fun lab1 h1 => command_any C lab1 _ 7 _ h1 (by show e.out.length ≤ _; omega)).mono ?_
    rintro r w3 ⟨rfl, hm⟩
    have HE3 : Hid (Mv (En C) w w3 lab (Em.send { Em.clear e with tries := 0 } (Em.bare true 7 true))) := hm
    clear HE2 hm
    go_wp2_with fail
    refine (HE3.out.call fun lab1 h1 => await_any C lab1 _  _ h1 (by rw [Em.len_send]; show e.out.length + 1 ≤ _; omega)).mono ?_
    rintro r w4 ⟨rfl, hm⟩
    have HE4 : Hid (Mv (En C) w w4 lab (Em.start200 (Em.stop203 (Em.send { Em.clear e with tries := 0 } (Em.bare true 7 true))))) := hm
    clear HE3 hm
    have ha4 := HE4.out.cells
    have k40 := ha4.c0
    have l4 := ha4.lt
    have g4 := ha4.f 0 (by decide)
    clear ha4
    have HE5 : Hid (Mv (En C) w (w4.setCell ⟨C, 0, none⟩ (.int .i64 6)) lab ({ Em.start200 (Em.stop203 (Em.send { Em.clear e with tries := 0 } (Em.bare true 7 true))) with state := 6 })) := HE4.out.trans fun _ hx => hx.setState 6
    go_wp2
    go_ret
    exact ⟨rfl, HE5.out⟩

theorem Em.ownT_same (e : Em.St) (b : Bool) (h : e.fl.ow = b) : ({ e with fl := Wm.ownT e.fl b } : Em.St) = e := by
  subst h
  rfl
set_option maxHeartbeats 1000000 in
theorem setOwn_any (C : Nat) (lab : Nat → Nat) (e : Em.St) (b : Bool) (w : World) (h : En C w lab e) (hl : e.out.length ≤ 100000) :
    Calls Tryz.prog 80 #[.pointer (some ⟨C, 0, none⟩), .bool b] w fun r w' => r = .returned (.int .i64 ((Em.busy e b).2)) ∧ Mv (En C) w w' lab ((Em.busy e b).1) := by
  have HLK := linked_any C lab e w h
  have HE0 : Hid (Mv (En C) w w lab e) := h.same (Below.refl _ _)
  clear h
  unfold Em.busy
  by_cases hs : e.state = 7 ∨ e.state = 8
  · rw [if_pos hs]
    rw [decide_eq_true hs] at HLK
    clear hs
    obtain ⟨D, G, fc, fC, fD, ffl, fmv⟩ := HE0.out.flow
    have HMV : Hid (∀ w' σ', Mvf w w' D G σ' → Mv (En C) w w' lab { e with fl := σ' }) := fmv
    have HO := fown_any D G e.fl b w ffl
    clear ffl fmv
    by_cases hb : e.fl.ow = b
    · have HX : Hid (({ e with fl := Wm.ownT e.fl b } : Em.St) = e) := Em.ownT_same e b hb
      have hne : (e.fl.ow != b) = false := by rw [hb]; simp
      rw [hne] at HO
      rw [if_pos hb]
      clear hb hne
      go_enter Tryz.func80, Tryz.ntmps80
      go_wp2_with fail
      refine HLK.mono ?_
      rintro r w1 ⟨rfl, rfl⟩
      clear HLK
      go_wp2_with fail
      refine HO.mono ?_
      rintro r w2 ⟨rfl, hm⟩
      have HE1 : Hid (Mv (En C) w w2 lab e) := by
        have := HMV.out _ _ hm
        rw [HX.out] at this
        exact this
      clear HO hm HMV HE0
      go_wp2
      go_ret
      exact ⟨rfl, HE1.out⟩
    · have hne : (e.fl.ow != b) = true := by simp; exact hb
      rw [hne] at HO
      rw [if_neg hb]
      clear hb hne
      go_enter Tryz.func80, Tryz.ntmps80
      go_wp2_with fail
      refine HLK.mono ?_
      rintro r w1 ⟨rfl, rfl⟩
      clear HLK
      go_wp2_with fail
      refine HO.mono ?_
      rintro r w2 ⟨rfl, hm⟩
      have HE1 : Hid (Mv (En C) w w2 lab { e with fl := Wm.ownT e.fl b }) := HMV.out _ _ hm
      clear HO hm HMV HE0
      go_wp2_with fail
      refine (HE1.out.call fun lab1 h1 => answer_any C lab1 _ false _ h1 (by show e.out.length ≤ _; omega)).mono ?_
      rintro r w3 ⟨rfl, hm⟩
      have HE2 : Hid (Mv (En C) w w3 lab (Em.answer { e with fl := Wm.ownT e.fl b } false false)) := hm
      clear hm HE1
      go_wp2
      go_ret
      exact ⟨rfl, HE2.out⟩
  · rw [if_neg hs]
    rw [decide_eq_false hs] at HLK
    clear hs
    go_enter Tryz.func80, Tryz.ntmps80
    go_wp2_with fail
    refine HLK.mono ?_
    rintro r w1 ⟨rfl, rfl⟩
    clear HLK
    go_wp2
    go_ret
    exact ⟨rfl, HE0.out⟩

theorem Em.push_bad {mo : Int} {L : List ByteArray} {s : ByteArray} (h : Qm.pushN mo L s ≠ 0) : Qm.pushL mo L s = L := by
  unfold Qm.pushN at h
  unfold Qm.pushL
  split
  · rfl
  · rename_i h1
    rw [if_neg h1] at h
    split
    · rfl
    · rename_i h2
      rw [if_neg h2] at h
      exact absurd rfl h
theorem Em.pushT_bad (e : Em.St) (s : ByteArray) (h : Qm.pushN e.fl.mo e.fl.L s ≠ 0) : ({ e with fl := Wm.pushT e.fl s } : Em.St) = e := by
  have : Wm.pushT e.fl s = e.fl := by unfold Wm.pushT; rw [Em.push_bad h]
  rw [this]
/-- Data, where payloads may be taken -/
def Em.dataT (e : Em.St) (s : ByteArray) : Em.St × Int := (if Qm.pushN e.fl.mo e.fl.L s = 0 then Em.goOn { e with fl := Wm.pushT e.fl s } else e, Qm.pushN e.fl.mo e.fl.L s)

set_option maxHeartbeats 2000000 in
theorem data_any (C : Nat) (lab : Nat → Nat) (e : Em.St) (s : ByteArray) (w : World) (h : En C w lab e) (hl : e.out.length ≤ 100000) (ok : Em.FlOk e.fl) (hz : s.size ≤ 9223372036854775807) (s1 : 1 ≤ e.state) (s8 : e.state ≤ 8) :
    Calls Tryz.prog 78 #[.pointer (some ⟨C, 0, none⟩), .string s] w fun r w' => r = .returned (.int .i64 ((Em.data e s).2)) ∧ Mv (En C) w w' lab ((Em.data e s).1) := by
  have HLK := linked_any C lab e w h
  have HE0 : Hid (Mv (En C) w w lab e) := h.same (Below.refl _ _)
  have c0 := h.cs.c0
  have c5 := h.cs.c5
  have hlt := h.cs.lt
  clear h
  have HOK : Hid (Em.FlOk e.fl) := ok
  clear ok
  obtain ⟨st, hst⟩ : ∃ st, e.state = st := ⟨_, rfl⟩
  have HST : Hid (e.state = st) := hst
  rw [hst] at c0 s1 s8 HLK
  clear hst
  by_cases hmay : (st = 7 ∨ st = 8) ∨ (st = 5 ∧ e.asked = false)
  · have hres : Em.data e s = Em.dataT e s := by
      have hz := HST.out
      have hm : Em.mayData e = true := by
        unfold Em.mayData
        rw [hz]
        rcases hmay with h | ⟨h, h2⟩
        · simp [h]
        · simp [h2]
          omega
      unfold Em.data
      rw [if_pos hm]
      rfl
    rw [hres]
    clear hres
    unfold Em.dataT
    obtain ⟨D, G, fc, fC, fD, ffl, fmv⟩ := HE0.out.flow
    have HMV : Hid (∀ w' σ', Mvf w w' D G σ' → Mv (En C) w w' lab { e with fl := σ' }) := fmv
    have HP := fpush_any D G e.fl s w ffl hz
    clear ffl fmv
    have HPB : Hid (∀ h : Qm.pushN e.fl.mo e.fl.L s ≠ 0, ({ e with fl := Wm.pushT e.fl s } : Em.St) = e) := Em.pushT_bad e s
    have HGO : Hid (∀ h : Qm.pushN e.fl.mo e.fl.L s = 0, True) := fun _ => trivial
    generalize Qm.pushN e.fl.mo e.fl.L s = pn at HP HPB ⊢
    clear HGO
    have hways : (st = 7 ∧ True) ∨ (st = 8 ∧ True) ∨ (st = 5 ∧ e.asked = false) := by
      rcases hmay with (h | h) | h
      · exact Or.inl ⟨h, trivial⟩
      · exact Or.inr (Or.inl ⟨h, trivial⟩)
      · exact Or.inr (Or.inr h)
    clear hmay
    by_cases hp : pn = 0
    · subst hp
      rw [if_pos rfl]
      clear HPB
      rcases hways with ⟨rfl, ha⟩ | ⟨rfl, ha⟩ | ⟨rfl, ha⟩
      all_goals
        try rw [ha] at c5
        clear ha
        go_enter Tryz.func78, Tryz.ntmps78
        go_wp2_with fail
        refine HLK.mono ?_
        rintro r w1 ⟨rfl, rfl⟩
        clear HLK
        go_wp2_with fail
        refine HP.mono ?_
        rintro r w2 ⟨rfl, hm⟩
        have HE1 : Hid (Mv (En C) w w2 lab { e with fl := Wm.pushT e.fl s }) := HMV.out _ _ hm
        clear HP hm HMV HE0 c0 c5 hlt fc fC fD
        go_wp2_with fail
        refine (HE1.out.call fun lab1 h1 => goOn_any C lab1 _ _ h1 (by show e.out.length ≤ _; omega) (HOK.out.push s)).mono ?_
        rintro r w3 ⟨rfl, hm⟩
        have HE2 : Hid (Mv (En C) w w3 lab (Em.goOn { e with fl := Wm.pushT e.fl s })) := hm
        clear hm HE1
        go_wp2
        go_ret
        exact ⟨rfl, HE2.out⟩
    · rw [if_neg hp]
      have HPE := (show Hid _ from HPB.out hp)
      have hne : (pn == 0) = false := by simp; exact hp
      clear hp HPB
      rcases hways with ⟨rfl, ha⟩ | ⟨rfl, ha⟩ | ⟨rfl, ha⟩
      all_goals
        try rw [ha] at c5
        clear ha
        go_enter Tryz.func78, Tryz.ntmps78
        go_wp2_with fail
        refine HLK.mono ?_
        rintro r w1 ⟨rfl, rfl⟩
        clear HLK
        go_wp2_with fail
        refine HP.mono ?_
        rintro r w2 ⟨rfl, hm⟩
        have HE1 : Hid (Mv (En C) w w2 lab e) := by
          have := HMV.out _ _ hm
          rw [HPE.out] at this
          exact this
        clear HP hm HMV HE0 c0 c5 hlt fc fC fD
        go_wp2
        go_ret
        exact ⟨rfl, HE1.out⟩
  · have hres : Em.data e s = (e, 12) := by
      have hz := HST.out
      have hm : ¬ Em.mayData e = true := by
        unfold Em.mayData
        rw [hz]
        simp
        refine ⟨by omega, fun h => ?_⟩
        cases ha : e.asked with
        | true => rfl
        | false => exact absurd (Or.inr ⟨h, ha⟩) hmay
      unfold Em.data
      rw [if_neg hm]
    rw [hres]
    clear hres
    have n7 : (st == 7) = false := by simp; omega
    have n78 : decide (st = 7 ∨ st = 8) = false := decide_eq_false (by omega)
    rw [n78] at HLK
    by_cases h5 : st = 5
    · subst h5
      have ha : e.asked = true := by
        cases ha : e.asked with
        | true => rfl
        | false => exact absurd (Or.inr ⟨rfl, ha⟩) hmay
      rw [ha] at c5
      clear ha hmay
      go_enter Tryz.func78, Tryz.ntmps78
      go_wp2_with fail
      refine HLK.mono ?_
      rintro r w1 ⟨rfl, rfl⟩
      clear HLK
      go_wp2
      go_ret
      exact ⟨rfl, HE0.out⟩
    · have n5 : (st == 5) = false := by simp; exact h5
      have m5 : (st != 5) = true := by simp; exact h5
      have d5 : decide (st = 5) = false := decide_eq_false h5
      have p5 : ¬ st = 5 := h5
      clear h5 hmay
      go_enter Tryz.func78, Tryz.ntmps78
      go_wp2_with fail
      refine HLK.mono ?_
      rintro r w1 ⟨rfl, rfl⟩
      clear HLK
      go_wp2
      go_ret
      exact ⟨rfl, HE0.out⟩
end Go.Proofs.YtidemohpngkedabGreatDoor

namespace Go.Proofs.YtidemohpngkedabGreatDoor
open Go.RowKit
set_option linter.unusedVariables false
set_option maxRecDepth 100000
set_option linter.unusedSimpArgs false

theorem En.unitsPut {C : Nat} {w wq : World} {lab : Nat → Nat} {e : Em.St} {U U' : Option Nat} {a' : Option Addr} {cap' : Nat} {L' : List ByteArray} (h : En C w lab e) (hlb : ∀ B, U = some B → lab B = 4) (hk : Kept w wq (fun k => U = some k)) (hS : SRow wq a' cap' U' L') (hU : ∀ B, U' = some B → U = some B ∨ w.heap.size ≤ B) :
    Mv (En C) w (wq.setCell ⟨C, 6, none⟩ (.slice a' L'.length cap')) lab { e with units := L' } := by
  have hlC := h.lC
  have hC : ¬ U = some C := fun hx => by have := hlb C hx; omega
  have hx : ∀ l, l ≠ 4 → ∀ k, k < w.heap.size → lab k = l → ¬ U = some k ∧ fresh lab w.heap.size 4 k = l := fun l hl k hlt he => ⟨fun hx => hl (by rw [← he]; exact hlb k hx), by rw [fresh_old hlt]; exact he⟩
  have hl' : fresh lab w.heap.size 4 C = 1 := by rw [fresh_old h.cs.lt]; exact hlC
  have hul : ∀ B, U' = some B → fresh lab w.heap.size 4 B = 4 := by
    intro B hB
    rcases hU B hB with h' | h'
    · rcases Nat.lt_or_ge B w.heap.size with hlt | hge
      · rw [fresh_old hlt]; exact hlb B h'
      · exact fresh_new hge
    · exact fresh_new h'
  have hcs := h.cs.kept hk hC
  refine ⟨fresh lab w.heap.size 4, ⟨(hcs.other 6 _ (by decide) (by decide) (by decide) (by decide) (by decide)).as rfl rfl rfl rfl rfl, hl', (h.fl.kept h.cs.lt hk hC (hx 2 (by decide))).oth hl' 6 (by decide) _, (h.tm.kept h.cs.lt hk hC (hx 3 (by decide))).oth hl' 6 (by decide) _, ?_, (h.to.kept h.cs.lt hk hC (hx 5 (by decide))).oth hl' 6 (by decide) _⟩, ?_, fun k hlt => fresh_old hlt⟩
  · obtain ⟨a, cap, U0, h1, _, _⟩ := h.un
    refine ⟨a', cap', U', ?_, hS.kept (kept_cell wq C 6 _) (fun B hB hx => by subst hx; have := hul _ hB; omega), hul⟩
    exact World.cell?_setCell_same' wq ⟨C, 6, none⟩ _ (by rw [hk.cell (p := ⟨C, 6, none⟩) h.cs.lt hC, h1]; rfl)
  · exact ((hk.mono (T' := fun k => lab k ≠ 0) (fun k _ hx => by rw [hlb k hx]; decide)).trans (kept_cell wq C 6 _) (fun k _ hx => by show lab k ≠ 0; rw [hx, hlC]; decide))

set_option maxHeartbeats 2000000 in
theorem unit_any (C : Nat) (lab : Nat → Nat) (e : Em.St) (s : ByteArray) (w : World) (h : En C w lab e) (hl : e.out.length ≤ 100000) (ok : Em.Ok e) :
    Calls Tryz.prog 79 #[.pointer (some ⟨C, 0, none⟩), .string s] w fun r w' => r = .returned (.int .i64 (Em.units e s).2) ∧ Mv (En C) w w' lab (Em.units e s).1 := by
  have HE0 : Hid (Mv (En C) w w lab e) := h.same (Below.refl _ _)
  by_cases h4 : 4 ≤ e.state
  · have hT := hasTEI_any C lab e w h (by have := (ok.hi h4).1; omega)
    have htt : decide (0 ≤ e.tei) = true := decide_eq_true (ok.hi h4).1
    rw [htt] at hT
    have hres : Em.units e s = (Em.unit e s, 0) := by unfold Em.units; rw [if_pos h4]
    rw [hres]
    clear h ok h4 htt hres
    go_enter Tryz.func79, Tryz.ntmps79
    go_wp2_with fail
    refine hT.mono ?_
    rintro r w1 ⟨rfl, rfl⟩
    clear hT
    go_wp2_with fail
    refine (HE0.out.call fun lab1 h1 => sendUnit_any C lab1 _ s _ h1 (by omega)).mono ?_
    rintro r w2 ⟨rfl, hm⟩
    have HE1 : Hid (Mv (En C) w w2 lab (Em.unit e s)) := hm
    clear hm HE0
    go_wp2
    go_ret
    exact ⟨rfl, HE1.out⟩
  · have hlo := ok.lo (by omega)
    have hT := hasTEI_any C lab e w h (by omega)
    have htt : decide (0 ≤ e.tei) = false := decide_eq_false (by omega)
    rw [htt] at hT
    have HS0 : Hid (1 ≤ e.state ∧ e.state ≤ 3) := ⟨ok.s0, by omega⟩
    have hul := ok.ul
    have c0 := h.cs.c0
    have f6 := h.cs.f 6 (by decide)
    have hlt := h.cs.lt
    obtain ⟨a, cap, U, h6, hS, hlb⟩ := h.un
    have HEn : Hid (En C w lab e) := h
    have HS : Hid (SRow w a cap U e.units) := hS
    have HLB : Hid (∀ B, U = some B → lab B = 4) := hlb
    clear h hS hlb ok hlo htt
    by_cases hfull : e.units.length = 256
    · have hres : Em.units e s = (e, 10) := by unfold Em.units; rw [if_neg h4, if_pos hfull]
      rw [hres]
      clear hres h4 c0
      rw [hfull] at h6
      clear hfull hul
      go_enter Tryz.func79, Tryz.ntmps79
      go_wp2_with fail
      refine hT.mono ?_
      rintro r w1 ⟨rfl, rfl⟩
      clear hT
      go_wp2
      go_ret
      exact ⟨rfl, HE0.out⟩
    · have hlen : e.units.length < 256 := by omega
      have hres : Em.units e s = (if e.state = 1 then Em.tell { e with units := e.units ++ [s], state := 2 } 8 ByteArray.empty else { e with units := e.units ++ [s] }, 0) := by
        unfold Em.units
        rw [if_neg h4, if_neg hfull]
        split <;> rfl
      rw [hres]
      obtain ⟨X, hX⟩ : ∃ X, X = (if e.state = 1 then Em.tell { e with units := e.units ++ [s], state := 2 } 8 ByteArray.empty else { e with units := e.units ++ [s] }) := ⟨_, rfl⟩
      rw [← hX]
      have HX : Hid (X = (if e.state = 1 then Em.tell { e with units := e.units ++ [s], state := 2 } 8 ByteArray.empty else { e with units := e.units ++ [s] })) := hX
      clear hX
      clear hres h4 hfull hul
      obtain ⟨W1, hW1⟩ : ∃ W1, W1 = w.alloc (.cells #[.string s] 9) := ⟨_, rfl⟩
      have hb1 : Below w.heap.size w W1 := by rw [hW1]; exact (Below.refl _ _).alloc (Nat.le_refl _) _
      have hS1 : Hid (SRow W1 a cap U e.units) := HS.out.kept (T := fun _ => False) (Kept.of_below hb1 (fun k hk h' => by omega)) (fun _ _ x => x)
      have hnc : Hid (W1.cell? ⟨w.heap.size, 0, none⟩ = some (.string s)) := by rw [hW1]; show _ = _; simp
      have HB1 : Hid (Below w.heap.size w W1) := hb1
      have HL : Hid (e.units.length < 256) := hlen
      clear hb1
      go_enter Tryz.func79, Tryz.ntmps79
      go_wp2_with fail
      refine hT.mono ?_
      rintro r w1 ⟨rfl, rfl⟩
      clear hT
      have hge : ¬ ((e.units.length : Int) ≥ 256) := by omega
      go_wp2_with (at_builtin; rw [← hW1]; refine append_srow rfl _ _ rfl a cap U e.units s w.heap.size 1 rfl hS1.out rfl hnc.out (by have := HL.out; omega) ?_)
      intro a' cap' U' w' hS' hK' hG'
      try rw [← hW1] at hK'
      try rw [← hW1] at hG'
      have hz : W1.heap.size = w.heap.size + 1 := by rw [hW1]; simp
      have hk : Kept w w' (fun k => U = some k) := (Kept.of_below (T := fun k => U = some k) HB1.out (fun k hk h' => by omega)).trans hK' (fun k _ h => h)
      have hC : ¬ U = some C := fun hx => by have := HLB.out C hx; have := HEn.out.lC; omega
      have v6 : w'.cell? ⟨C, 6, none⟩ = some (.slice a e.units.length cap) := (hk.cell (p := ⟨C, 6, none⟩) hlt hC).trans h6
      have vf : w'.frozen? ⟨C, 6, none⟩ = false := (hk.frozen (p := ⟨C, 6, none⟩) hlt hC).trans f6
      have vlt : C < w'.heap.size := Nat.lt_of_lt_of_le hlt hk.size
      have HE1 : Hid (Mv (En C) w (w'.setCell ⟨C, 6, none⟩ (.slice a' (e.units.length + 1) cap')) lab { e with units := e.units ++ [s] }) := by
        have := HEn.out.unitsPut HLB.out hk hS' (fun B hB => (hG' B hB).imp id (fun h => by omega))
        have el : (e.units ++ [s]).length = e.units.length + 1 := by simp
        rw [el] at this
        exact this
      clear hS' hK' hG' hk hz hW1 hS1 hnc HB1 HS HLB h6 f6 c0 hlt hge hC HE0 hlen
      have ha := HE1.out.cells
      have k0 := ha.c0
      have g0 := ha.f 0 (by decide)
      have kst : ({ e with units := e.units ++ [s] } : Em.St).state = e.state := rfl
      rw [kst] at k0
      clear ha kst
      by_cases h1 : e.state = 1
      · rw [h1] at k0
        have H1 : Hid (e.state = 1) := h1
        clear h1
        go_wp2_with fail
        refine (HE1.out.call fun lab1 h1 => tell_any C lab1 _ ⟨8, Em.fr0, ByteArray.empty, 0⟩ _ h1 (by show e.out.length ≤ _; omega)).mono ?_
        rintro r w3 ⟨rfl, hm⟩
        have HE2 : Hid (Mv (En C) w w3 lab (Em.tell { e with units := e.units ++ [s] } 8 ByteArray.empty)) := hm
        clear hm HE1 k0 g0 v6 vf vlt
        have ha := HE2.out.cells
        have k0 := ha.c0
        have g0 := ha.f 0 (by decide)
        have l0 := ha.lt
        clear ha
        have HE3 : Hid (Mv (En C) w (w3.setCell ⟨C, 0, none⟩ (.int .i64 2)) lab (Em.tell { e with units := e.units ++ [s], state := 2 } 8 ByteArray.empty)) := HE2.out.trans fun _ hx => hx.setState 2
        go_wp2
        go_ret
        exact ⟨rfl, by rw [HX.out, if_pos H1.out]; exact HE3.out⟩
      · have H1 : Hid (¬ e.state = 1) := h1
        have n1 : (e.state == 1) = false := by simp; exact h1
        clear h1
        go_wp2
        go_ret
        exact ⟨rfl, by rw [HX.out, if_neg H1.out]; exact HE1.out⟩

/-- all that may be asked -/
def Em.askIn (e : Em.St) (a : Int) (s : ByteArray) : Em.St × Int :=
  if a < 0 ∨ 5 < a then (e, 2)
  else if (a = 2 ∨ a = 3) ∧ 260 < s.size then (e, 5)
  else if a = 0 then Em.establish e
  else if a = 1 then Em.release e
  else if a = 2 then Em.data e s
  else if a = 3 then Em.units e s
  else Em.busy e (decide (a = 4))
theorem Em.ask_in (e : Em.St) (a : Int) (s : ByteArray) (h : e.out = []) : Em.ask e a s = Em.askIn e a s := by
  obtain ⟨m, st, tei, tr, asked, t2, t3, us, fl, out⟩ := e
  have h' : out = [] := h
  subst h'
  rfl

set_option maxHeartbeats 2000000 in
theorem ask_any (C : Nat) (lab : Nat → Nat) (e : Em.St) (a : Int) (s : ByteArray) (w : World) (h : En C w lab e) (hl : e.out.length ≤ 50000) (ok : Em.Ok e) (hz : s.size ≤ 9223372036854775807) :
    Calls Tryz.prog 35 #[.pointer (some ⟨C, 0, none⟩), .int .i64 a, .string s] w fun r w' => r = .returned (.int .i64 (Em.askIn e a s).2) ∧ Mv (En C) w w' lab (Em.askIn e a s).1 := by
  have HE0 : Hid (Mv (En C) w w lab e) := h.same (Below.refl _ _)
  rcases (show a = 0 ∨ a = 1 ∨ a = 2 ∨ a = 3 ∨ a = 4 ∨ a = 5 ∨ (a < 0 ∨ 5 < a) by omega) with rfl | rfl | rfl | rfl | rfl | rfl | hbad
  · have hres : Em.askIn e 0 s = Em.establish e := rfl
    rw [hres]
    have HT := establish_any C lab e w h (by omega) ok.s0 ok.s1
    clear hres h ok hl
    generalize Em.establish e = X at HT ⊢
    go_enter Tryz.func35, Tryz.ntmps35
    go_wp2_with fail
    refine HT.mono ?_
    rintro r w1 ⟨rfl, hm⟩
    have HE1 : Hid (Mv (En C) w w1 lab X.1) := hm
    clear hm HT
    go_wp2
    go_ret
    exact ⟨rfl, HE1.out⟩
  · have hres : Em.askIn e 1 s = Em.release e := rfl
    rw [hres]
    have HT := release_any C lab e w h (by omega) ok.s0 ok.s1
    clear hres h ok hl
    generalize Em.release e = X at HT ⊢
    go_enter Tryz.func35, Tryz.ntmps35
    go_wp2_with fail
    refine HT.mono ?_
    rintro r w1 ⟨rfl, hm⟩
    have HE1 : Hid (Mv (En C) w w1 lab X.1) := hm
    clear hm HT
    go_wp2
    go_ret
    exact ⟨rfl, HE1.out⟩
  · by_cases hs : 260 < s.size
    · have hres : Em.askIn e 2 s = (e, 5) := by unfold Em.askIn; rw [if_neg (by decide), if_pos ⟨Or.inl rfl, hs⟩]
      rw [hres]
      clear hres h ok hl
      go_enter Tryz.func35, Tryz.ntmps35
      go_wp2
      go_ret
      exact ⟨rfl, HE0.out⟩
    · have hres : Em.askIn e 2 s = Em.data e s := by unfold Em.askIn; rw [if_neg (by decide), if_neg (fun hx => hs hx.2)]; rfl
      rw [hres]
      have HT := data_any C lab e s w h (by omega) ok.fl hz ok.s0 ok.s1
      have hs' : ¬ ((s.size : Int) > 260) := by omega
      clear hres h ok hl hs
      generalize Em.data e s = X at HT ⊢
      go_enter Tryz.func35, Tryz.ntmps35
      go_wp2_with fail
      refine HT.mono ?_
      rintro r w1 ⟨rfl, hm⟩
      have HE1 : Hid (Mv (En C) w w1 lab X.1) := hm
      clear hm HT
      go_wp2
      go_ret
      exact ⟨rfl, HE1.out⟩
  · by_cases hs : 260 < s.size
    · have hres : Em.askIn e 3 s = (e, 5) := by unfold Em.askIn; rw [if_neg (by decide), if_pos ⟨Or.inr rfl, hs⟩]
      rw [hres]
      clear hres h ok hl
      go_enter Tryz.func35, Tryz.ntmps35
      go_wp2
      go_ret
      exact ⟨rfl, HE0.out⟩
    · have hres : Em.askIn e 3 s = Em.units e s := by unfold Em.askIn; rw [if_neg (by decide), if_neg (fun hx => hs hx.2)]; rfl
      rw [hres]
      have HT := unit_any C lab e s w h (by omega) ok
      have hs' : ¬ ((s.size : Int) > 260) := by omega
      clear hres h ok hl hs
      generalize Em.units e s = X at HT ⊢
      go_enter Tryz.func35, Tryz.ntmps35
      go_wp2_with fail
      refine HT.mono ?_
      rintro r w1 ⟨rfl, hm⟩
      have HE1 : Hid (Mv (En C) w w1 lab X.1) := hm
      clear hm HT
      go_wp2
      go_ret
      exact ⟨rfl, HE1.out⟩
  · have hres : Em.askIn e 4 s = Em.busy e true := rfl
    rw [hres]
    have HT := setOwn_any C lab e true w h (by omega)
    clear hres h ok hl
    generalize Em.busy e true = X at HT ⊢
    go_enter Tryz.func35, Tryz.ntmps35
    go_wp2_with fail
    refine HT.mono ?_
    rintro r w1 ⟨rfl, hm⟩
    have HE1 : Hid (Mv (En C) w w1 lab X.1) := hm
    clear hm HT
    go_wp2
    go_ret
    exact ⟨rfl, HE1.out⟩
  · have hres : Em.askIn e 5 s = Em.busy e false := rfl
    rw [hres]
    have HT := setOwn_any C lab e false w h (by omega)
    clear hres h ok hl
    generalize Em.busy e false = X at HT ⊢
    go_enter Tryz.func35, Tryz.ntmps35
    go_wp2_with fail
    refine HT.mono ?_
    rintro r w1 ⟨rfl, hm⟩
    have HE1 : Hid (Mv (En C) w w1 lab X.1) := hm
    clear hm HT
    go_wp2
    go_ret
    exact ⟨rfl, HE1.out⟩
  · have hres : Em.askIn e a s = (e, 2) := by unfold Em.askIn; rw [if_pos hbad]
    rw [hres]
    have n0 : (a == 0) = false := by simp; omega
    have n1 : (a == 1) = false := by simp; omega
    have n2 : (a == 2) = false := by simp; omega
    have n3 : (a == 3) = false := by simp; omega
    have n4 : (a == 4) = false := by simp; omega
    have n5 : (a == 5) = false := by simp; omega
    clear hres h ok hl hbad
    go_enter Tryz.func35, Tryz.ntmps35
    go_wp2
    go_ret
    exact ⟨rfl, HE0.out⟩
end Go.Proofs.YtidemohpngkedabGreatDoor

namespace Go.Proofs.YtidemohpngkedabGreatDoor
open Go.RowKit
set_option linter.unusedVariables false
set_option maxRecDepth 100000
set_option linter.unusedSimpArgs false

/-- an entity, and what its cell of units holds -/
def En6 (c : Option Value) (C : Nat) (w : World) (lab : Nat → Nat) (e : Em.St) : Prop := En C w lab e ∧ w.cell? ⟨C, 6, none⟩ = c
theorem En6.same {c : Option Value} {C : Nat} {w w' : World} {lab : Nat → Nat} {e : Em.St} (h : En6 c C w lab e) (hb : Below w.heap.size w w') : Mv (En6 c C) w w' lab e :=
  ⟨lab, ⟨h.1.below hb, (hb.cell (p := ⟨C, 6, none⟩) h.1.cs.lt).trans h.2⟩, Kept.of_below hb (fun k hk h' => by omega), fun _ _ => rfl⟩
/-- the append, and what stands behind it -/
theorem told6_step {c : Option Value} {C : Nat} {lab : Nat → Nat} {e : Em.St} {x : Em.Eff} {w W w1 : World} {a : Option Addr} {cap g cap1 : Nat} (h6 : En6 c C w lab e) (h8 : w.cell? ⟨C, 8, none⟩ = some (.slice a e.out.length cap)) (hlb : ∀ B, (Value.slice a e.out.length cap).ownBlock = some B → lab B = 5)
    (hb : Below w.heap.size w W) (hgrow : W.grownBy w1 (Value.slice a e.out.length cap).ownBlock) (hown1 : w1.ownsRow 0 57 11 (.slice (some ⟨g, 0, none⟩) (e.out.length + 1) cap1) (e.out.length + 1) (effsL e.out ++ effL x))
    (hat : (Value.slice a e.out.length cap).ownBlock = some g ∨ g = w.heap.size + 2) (hgl : g < w1.heap.size) :
    w1.cell? ⟨C, 8, none⟩ = some (.slice a e.out.length cap) ∧ w1.frozen? ⟨C, 8, none⟩ = false ∧ Mv (En6 c C) w (w1.setCell ⟨C, 8, none⟩ (.slice (some ⟨g, 0, none⟩) (e.out.length + 1) cap1)) lab (Em.add e x) := by
  have h := h6.1
  have hk : Kept w w1 (fun k => (Value.slice a e.out.length cap).ownBlock = some k) := (Kept.of_below (T := fun k => (Value.slice a e.out.length cap).ownBlock = some k) hb (fun k hk h' => by omega)).trans (Kept.of_grown (T := fun k => (Value.slice a e.out.length cap).ownBlock = some k) hgrow (fun k e => e)) (fun k _ h => h)
  have hC : ¬ (Value.slice a e.out.length cap).ownBlock = some C := fun hx => by have := hlb C hx; have := h.lC; omega
  refine ⟨(hk.cell (p := ⟨C, 8, none⟩) h.cs.lt hC).trans h8, (hk.frozen (p := ⟨C, 8, none⟩) h.cs.lt hC).trans (h.cs.f 8 (by decide)), ?_⟩
  obtain ⟨lab', r1, r2, r3⟩ := h.told x h8 hlb hk hown1 (by rcases hat with h' | h'; exact Or.inl h'; exact Or.inr (by omega)) hgl
  exact ⟨lab', ⟨r1, (cell_oth w1 C (by decide) _).trans ((hk.cell (p := ⟨C, 6, none⟩) h.cs.lt hC).trans h6.2)⟩, r2, r3⟩

set_option maxRecDepth 100000 in
set_option maxHeartbeats 1000000 in
theorem tell6_any (c : Option Value) (C : Nat) (lab : Nat → Nat) (e : Em.St) (x : Em.Eff) (w : World) (h6 : En6 c C w lab e) (hl : e.out.length ≤ 1000000) :
    Calls Tryz.prog 65 #[.pointer (some ⟨C, 0, none⟩), effV x] w fun r w' => r = .returned (.tuple #[]) ∧ Mv (En6 c C) w w' lab (Em.add e x) := by
  have h := h6.1
  obtain ⟨a, cap, h8, ho, hlb⟩ := h.to
  have f8 := h.cs.f 8 (by decide)
  have hlt := h.cs.lt
  obtain ⟨i0, hi, hz0, hz1, hz2⟩ := info_parts eff_info
  have HE : Hid (En6 c C w lab e) := h6
  have HL : Hid (∀ B, (Value.slice a e.out.length cap).ownBlock = some B → lab B = 5) := hlb
  clear h h6 hlb
  unfold effV
  go_enter Tryz.func65, Tryz.ntmps65
  go_wp2_with fail
  go_region_law ((refine step_append_lies _ (by rfl) _ _ _ (by rfl) 0 57 i0 (effV ⟨0, Em.fr0, ByteArray.empty, 0⟩) 11 104 Tryz.underlying39 hi hz0 hz1 hz2 (by rfl) (by decide) (.slice a e.out.length cap) e.out.length (effsL e.out) (by rfl) (by first | exact ((ho.alloc _).drew).alloc _ | exact ((ho.alloc _).alloc _).drew) ⟨w.heap.size + 1, 0, none⟩ 1 1 (effL x) (by rfl) (by rfl) (eff_cells w x _ _ 57 (heap_two w _ _)) (effL_one x) (by decide) (by unfold maxLen; omega) (by omega) (by simp) (w.heap.size + 2) (by simp) ?_; intro g cap1 w1 hown1 hgrow hat hgl; obtain ⟨d8, g8, hm⟩ := told6_step HE.out h8 HL.out (below_two w _ _) hgrow hown1 hat hgl))
  all_goals
    go_end0
    exact ⟨rfl, hm⟩
set_option maxHeartbeats 1000000 in
theorem send6_any (c6 : Option Value) (C : Nat) (lab : Nat → Nat) (e : Em.St) (f : Em.Fr) (w : World) (h : En6 c6 C w lab e) (hl : e.out.length ≤ 900000) (hk : Em.numbered f.k = false) :
    Calls Tryz.prog 103 #[.pointer (some ⟨C, 0, none⟩), frmV f] w fun r w' => r = .returned (.tuple #[]) ∧ Mv (En6 c6 C) w w' lab (Em.send e { f with sapi := 0 }) := by
  have c1 := h.1.cs.c1
  have hlt := h.1.cs.lt
  have hE : ∀ b, Em.numbered f.k = b → Em.send e { f with sapi := 0 } = Em.add e ⟨0, { f with sapi := 0, tei := e.tei, nr := if b then e.fl.vr else f.nr }, ByteArray.empty, 0⟩ := by
    intro b hb
    subst hb
    rfl
  have HE : Hid (En6 c6 C w lab e) := h
  clear h
  unfold frmV
  rw [hE false hk]
  have hN := fun W => enum_any f.k W
  rw [hk] at hN
  go_enter Tryz.func103, Tryz.ntmps103
  go_wp2_with fail
  refine (hN _).mono ?_
  rintro r w1 ⟨rfl, rfl⟩
  clear hN
  go_wp2_with fail
  refine ((HE.out.same ((Below.refl _ _).alloc (Nat.le_refl _) _)).call fun lab1 h1 => tell6_any c6 C lab1 _ ⟨0, { f with sapi := 0, tei := e.tei, nr := if false = true then e.fl.vr else f.nr }, ByteArray.empty, 0⟩ _ h1 (by omega)).mono ?_
  rintro r w2 ⟨rfl, hm⟩
  have HF : Hid (Mv (En6 c6 C) w w2 lab (Em.add e ⟨0, { f with sapi := 0, tei := e.tei, nr := if false = true then e.fl.vr else f.nr }, ByteArray.empty, 0⟩)) := hm
  clear HE hm
  go_wp2
  go_end0
  exact ⟨rfl, HF.out⟩

set_option maxHeartbeats 1000000 in
theorem sendUnit6_any (c6 : Option Value) (C : Nat) (lab : Nat → Nat) (e : Em.St) (s : ByteArray) (w : World) (h : En6 c6 C w lab e) (hl : e.out.length ≤ 800000) :
    Calls Tryz.prog 48 #[.pointer (some ⟨C, 0, none⟩), .string s] w fun r w' => r = .returned (.tuple #[]) ∧ Mv (En6 c6 C) w w' lab (Em.unit e s) := by
  have HT := send6_any c6 C lab e ⟨0, 0, true, 6, false, 0, 0, s⟩ w h (by omega) rfl
  clear h
  go_enter Tryz.func48, Tryz.ntmps48
  go_wp2_with fail
  refine HT.mono ?_
  rintro r w1 ⟨rfl, hm⟩
  have HE1 : Hid (Mv (En6 c6 C) w w1 lab (Em.unit e s)) := hm
  clear hm HT
  go_wp2
  go_end0
  exact ⟨rfl, HE1.out⟩
end Go.Proofs.YtidemohpngkedabGreatDoor

namespace Go.Proofs.YtidemohpngkedabGreatDoor
open Go.RowKit
set_option linter.unusedVariables false
set_option maxRecDepth 100000
set_option linter.unusedSimpArgs false

/-- between calls -/
structure Ent (C : Nat) (w : World) (lab : Nat → Nat) (e : Em.St) : Prop where
  en : En C w lab e
  out : e.out = []
  n5 : ∀ k, k < w.heap.size → lab k ≠ 5
  ok : Em.Ok e
  tm : Em.Tm e
/-- what a call hands out, and leaves -/
def Told (C : Nat) (w w' : World) (lab : Nat → Nat) (v : Value) (e1 : Em.St) : Prop :=
  ∃ a cap lab', v = .slice a e1.out.length cap ∧ w'.ownsRow w.heap.size 57 11 v e1.out.length (effsL e1.out) ∧ Ent C w' lab' { e1 with out := [] } ∧ Kept w w' (fun k => lab k ≠ 0) ∧ (∀ k, k < w.heap.size → lab' k = lab k) ∧ ∀ B, v.ownBlock = some B → lab' B = 0
section
variable {C : Nat} {w w' w1 : World} {lab : Nat → Nat} {e e1 : Em.St}
theorem Ent.below (h : Ent C w lab e) (hb : Below w.heap.size w w') : Ent C w' (fresh lab w.heap.size 0) e :=
  ⟨(h.en.relab (fun k hk => fresh_old hk)).below hb, h.out, fun k hk => by
    rcases Nat.lt_or_ge k w.heap.size with h' | h'
    · rw [fresh_old h']; exact h.n5 k h'
    · rw [fresh_new h']; decide, h.ok, h.tm⟩
theorem owns_up {base b2 : Nat} {ty : TypeId} {sz : Nat} {v : Value} {n : Nat} {xs : List Value} (h : w.ownsRow base ty sz v n xs) (hb : ∀ B, v.ownBlock = some B → b2 ≤ B) : w.ownsRow b2 ty sz v n xs := by
  refine ⟨h.1, ?_⟩
  rcases h.2 with h' | ⟨g, cap, cur, rfl, _, r⟩
  · exact Or.inl h'
  · exact Or.inr ⟨g, cap, cur, rfl, hb g rfl, r⟩
/-- nothing is handed out -/
theorem Ent.nothing (h : Ent C w lab e) (hb : Below w.heap.size w w') : Told C w w' lab (.slice none 0 0) e := by
  have he : ({ e with out := [] } : Em.St) = e := by
    obtain ⟨m, st, tei, tr, asked, t2, t3, us, fl, out⟩ := e
    have h' : out = [] := h.out
    subst h'
    rfl
  refine ⟨none, 0, fresh lab w.heap.size 0, by rw [h.out]; rfl, ?_, by rw [he]; exact h.below hb, Kept.of_below hb (fun k hk h' => by omega), fun k hk => fresh_old hk, fun B hB => by cases hB⟩
  rw [h.out]
  exact World.ownsRow_nil _ _ _ _
theorem En.no5 (h : En C w lab e) (h8 : w.cell? ⟨C, 8, none⟩ = some (.slice none 0 0)) (ho : e.out = []) : En C w (fun k => if lab k = 5 then 0 else lab k) e := by
  have hx : ∀ l, l ≠ 5 → ∀ k, k < w.heap.size → lab k = l → ¬ (fun _ => False) k ∧ (fun k => if lab k = 5 then 0 else lab k) k = l := fun l hl k hlt he => ⟨fun x => x, by show (if lab k = 5 then 0 else lab k) = l; rw [if_neg (by omega)]; exact he⟩
  have hC : (fun k => if lab k = 5 then 0 else lab k) C = 1 := by show (if lab C = 5 then 0 else lab C) = 1; rw [h.lC]; rfl
  refine ⟨h.cs, hC, h.fl.kept (T := fun _ => False) h.cs.lt (Kept.refl w _) (fun x => x) (hx 2 (by decide)), h.tm.kept (T := fun _ => False) h.cs.lt (Kept.refl w _) (fun x => x) (hx 3 (by decide)), h.un.kept (T := fun _ => False) h.cs.lt (Kept.refl w _) (fun x => x) (hx 4 (by decide)), ?_⟩
  rw [ho]
  exact ⟨none, 0, h8, World.ownsRow_nil _ _ _ _, fun B hB => by cases hB⟩
end

/-- all that it told is handed out -/
theorem told_any (C : Nat) (lab : Nat → Nat) (e0 e1 : Em.St) (w w1 : World) (h : Ent C w lab e0) (hm : Mv (En C) w w1 lab e1) (ok : Em.Ok e1) (tm : Em.Tm e1) :
    Calls Tryz.prog 36 #[.pointer (some ⟨C, 0, none⟩)] w1 fun r w' => ∃ v, r = .returned v ∧ Told C w w' lab v e1 := by
  obtain ⟨lab1, h1, hk, hl⟩ := hm
  refine (allTold_any C lab1 e1 w1 h1).mono ?_
  rintro r w' ⟨a, cap, rfl, ho, hlb, rfl⟩
  have hE : En C (w1.setCell ⟨C, 8, none⟩ (.slice none 0 0)) lab1 { e1 with out := [] } := by
    obtain ⟨a, cap, h1', h2, h3⟩ := h1.to
    exact ⟨(h1.cs.other 8 _ (by decide) (by decide) (by decide) (by decide) (by decide)).as rfl rfl rfl rfl rfl, h1.lC, h1.oth2 8 (by decide) _, h1.oth7 8 (by decide) _, h1.oth6 8 (by decide) _, ⟨none, 0, cell_same' h1 h1' _, World.ownsRow_nil _ _ _ _, fun B hB => by cases hB⟩⟩
  have h8 : (w1.setCell ⟨C, 8, none⟩ (.slice none 0 0)).cell? ⟨C, 8, none⟩ = some (.slice none 0 0) := by
    obtain ⟨a, cap, h1', h2, h3⟩ := h1.to
    exact cell_same' h1 h1' _
  have hBs : ∀ B, (Value.slice a e1.out.length cap).ownBlock = some B → w.heap.size ≤ B := by
    intro B hB
    rcases Nat.lt_or_ge B w.heap.size with hlt | hge
    · exact absurd ((hl B hlt).symm.trans (hlb B hB)) (h.n5 B hlt)
    · exact hge
  refine ⟨_, rfl, a, cap, fun k => if lab1 k = 5 then 0 else lab1 k, rfl, ?_, ⟨hE.no5 h8 rfl, rfl, fun k _ => ?_, ok.fresh [], tm.fresh []⟩, hk.trans (kept_cell w1 C 8 _) (fun k hlt hx => by show lab k ≠ 0; rw [← hl k hlt, hx, h1.lC]; decide), fun k hlt => ?_, fun B hB => ?_⟩
  · exact owns_up ((kept_cell w1 C 8 _).owns ho (fun B hB hx => by have := hlb B hB; rw [hx, h1.lC] at this; omega)) hBs
  · show (if lab1 k = 5 then 0 else lab1 k) ≠ 5
    split
    · decide
    · rename_i hx; exact hx
  · show (if lab1 k = 5 then 0 else lab1 k) = lab k
    rw [hl k hlt, if_neg (h.n5 k hlt)]
  · show (if lab1 B = 5 then 0 else lab1 B) = 0
    rw [if_pos (hlb B hB)]

set_option maxHeartbeats 1000000 in
theorem eask_any (C : Nat) (lab : Nat → Nat) (e : Em.St) (a : Int) (s : ByteArray) (w : World) (h : Ent C w lab e) (hz : s.size ≤ 9223372036854775807) :
    Calls Tryz.prog 15 #[.pointer (some ⟨C, 0, none⟩), .int .i64 a, .string s] w fun r w' => ∃ v, r = .returned (.tuple #[v, .int .i64 (Em.ask e a s).2]) ∧ Told C w w' lab v (Em.ask e a s).1 := by
  have HM := made_any C lab e w h.en h.ok.s0
  have HA := ask_any C lab e a s w h.en (by rw [h.out]; exact Nat.zero_le _) h.ok hz
  have hok := Em.ask_ok h.ok a s
  have htm := Em.ask_tm h.tm a s
  rw [Em.ask_in e a s h.out] at hok htm ⊢
  generalize Em.askIn e a s = X at HA hok htm ⊢
  have HT : Hid (∀ w1, Mv (En C) w w1 lab X.1 → Calls Tryz.prog 36 #[.pointer (some ⟨C, 0, none⟩)] w1 fun r w' => ∃ v, r = .returned v ∧ Told C w w' lab v X.1) := fun w1 hm => told_any C lab e X.1 w w1 h hm hok htm
  clear h hok htm
  go_enter Tryz.func15, Tryz.ntmps15
  go_wp2_with fail
  refine HM.mono ?_
  rintro r w1 ⟨rfl, rfl⟩
  clear HM
  go_wp2_with fail
  refine HA.mono ?_
  rintro r w1 ⟨rfl, hm⟩
  have HT' := HT.out _ hm
  clear HA hm HT
  go_wp2_with fail
  refine HT'.mono ?_
  rintro r w2 ⟨v, rfl, ht⟩
  have HTT : Hid (Told C w w2 lab v X.1) := ht
  clear HT' ht
  go_wp2
  go_ret2
  exact ⟨v, rfl, HTT.out⟩

set_option maxHeartbeats 1000000 in
theorem eask_nil (a : Int) (s : ByteArray) (w : World) :
    Calls Tryz.prog 15 #[.pointer none, .int .i64 a, .string s] w fun r w' => r = .returned (.tuple #[.slice none 0 0, .int .i64 1]) ∧ w = w' := by
  have HM := made_nil w
  go_enter Tryz.func15, Tryz.ntmps15
  go_wp2_with fail
  refine HM.mono ?_
  rintro r w1 ⟨rfl, rfl⟩
  clear HM
  go_wp2
  go_ret2
  exact ⟨rfl, rfl⟩
end Go.Proofs.YtidemohpngkedabGreatDoor

namespace Go.Proofs.YtidemohpngkedabGreatDoor
open Go.RowKit
set_option linter.unusedVariables false
set_option maxRecDepth 100000
set_option linter.unusedSimpArgs false

theorem Em.out_nil {e : Em.St} (h : e.out = []) : ({ e with out := [] } : Em.St) = e := by
  obtain ⟨m, st, tei, tr, asked, t2, t3, us, fl, out⟩ := e
  have h' : out = [] := h
  subst h'
  rfl
/-- Remove, but for what is handed out -/
def Em.noU (e : Em.St) : Em.St := { e with units := [] }
def Em.rem3 (e : Em.St) : Em.St := Em.stop203 (Em.stop200 (Em.noU (Em.clear e)))
def Em.rem4 (e : Em.St) (was : Int) : Em.St := if was = 3 ∨ was = 5 ∨ was = 7 ∨ was = 8 then Em.tell e 3 ByteArray.empty else if was = 6 then Em.tell e 4 ByteArray.empty else e
theorem Em.stop200_units (e : Em.St) (u : List ByteArray) : Em.stop200 { e with units := u } = { Em.stop200 e with units := u } := by
  unfold Em.stop200
  show (if e.t200 = true then _ else _) = _
  split <;> rfl
theorem Em.stop203_units (e : Em.St) (u : List ByteArray) : Em.stop203 { e with units := u } = { Em.stop203 e with units := u } := by
  unfold Em.stop203
  show (if e.t203 = true then _ else _) = _
  split <;> rfl
def Em.removeIn (e : Em.St) : Em.St × Int :=
  if e.state = 1 then (e, 11)
  else
    let e1 := Em.end' e
    let e2 := if e.state = 3 ∨ e.state = 5 ∨ e.state = 7 ∨ e.state = 8 then Em.tell e1 3 ByteArray.empty else if e.state = 6 then Em.tell e1 4 ByteArray.empty else e1
    ({ e2 with units := [], tei := -1, state := 1 }, 0)
theorem Em.remove_in (e : Em.St) (h : e.out = []) : Em.remove e = Em.removeIn e := by
  obtain ⟨m, st, tei, tr, asked, t2, t3, us, fl, out⟩ := e
  have h' : out = [] := h
  subst h'
  rfl
theorem Em.remove_eq (e : Em.St) (ho : e.out = []) (hs : ¬ e.state = 1) : Em.remove e = ({ Em.rem4 (Em.rem3 e) e.state with tei := -1, state := 1 }, 0) := by
  have h3 : Em.rem3 e = { Em.stop203 (Em.stop200 (Em.clear e)) with units := [] } := by
    unfold Em.rem3 Em.noU
    rw [Em.stop200_units, Em.stop203_units]
  rw [Em.remove_in e ho]
  unfold Em.removeIn
  rw [if_neg hs, h3]
  unfold Em.rem4
  by_cases h : e.state = 3 ∨ e.state = 5 ∨ e.state = 7 ∨ e.state = 8
  · simp only [if_pos h]
    rfl
  · simp only [if_neg h]
    by_cases h6 : e.state = 6
    · simp only [if_pos h6]
      rfl
    · simp only [if_neg h6]
      rfl
theorem Em.remove_one (e : Em.St) (ho : e.out = []) (hs : e.state = 1) : Em.remove e = (e, 11) := by
  rw [Em.remove_in e ho]
  unfold Em.removeIn
  rw [if_pos hs]

set_option maxHeartbeats 2000000 in
theorem eremove_any (C : Nat) (lab : Nat → Nat) (e : Em.St) (w : World) (h : Ent C w lab e) :
    Calls Tryz.prog 30 #[.pointer (some ⟨C, 0, none⟩)] w fun r w' => ∃ v, r = .returned (.tuple #[v, .int .i64 (Em.remove e).2]) ∧ Told C w w' lab v (Em.remove e).1 := by
  have HM := made_any C lab e w h.en h.ok.s0
  have c0 := h.en.cs.c0
  have hlt := h.en.cs.lt
  by_cases h1 : e.state = 1
  · rw [Em.remove_one e h.out h1]
    have HN : Hid (Told C w w lab (.slice none 0 0) e) := h.nothing (Below.refl _ _)
    rw [h1] at c0
    clear h h1
    go_enter Tryz.func30, Tryz.ntmps30
    go_wp2_with fail
    refine HM.mono ?_
    rintro r w1 ⟨rfl, rfl⟩
    clear HM
    go_wp2
    go_ret2
    exact ⟨_, rfl, HN.out⟩
  · have hok := Em.remove_ok h.ok
    have htm := Em.remove_tm h.tm
    rw [Em.remove_eq e h.out h1] at hok htm ⊢
    have HO : Hid (e.out.length = 0) := by show _ = _; rw [h.out]; rfl
    have HE0 : Hid (Mv (En C) w w lab e) := h.en.same (Below.refl _ _)
    have HT : Hid (∀ w1, Mv (En C) w w1 lab { Em.rem4 (Em.rem3 e) e.state with tei := -1, state := 1 } → Calls Tryz.prog 36 #[.pointer (some ⟨C, 0, none⟩)] w1 fun r w' => ∃ v, r = .returned v ∧ Told C w w' lab v { Em.rem4 (Em.rem3 e) e.state with tei := -1, state := 1 }) := fun w1 hm => told_any C lab e _ w w1 h hm hok htm
    have hs8 := h.ok.s1
    have hs0 := h.ok.s0
    clear h hok htm
    have HL3 : Hid ((Em.rem3 e).out.length ≤ 2) := by
      show _ ≤ _
      unfold Em.rem3
      have a1 := Em.len_stop203 (Em.stop200 (Em.noU (Em.clear e)))
      have a2 := Em.len_stop200 (Em.noU (Em.clear e))
      have a3 : (Em.noU (Em.clear e)).out.length = 0 := HO.out
      omega
    have hk3 : (Em.rem3 e).state = e.state := ((Em.stop200_keep (Em.noU (Em.clear e))).trans (Em.stop203_keep _)).state
    have HK3 : Hid ((Em.rem3 e).state = e.state) := hk3
    have n1 : (e.state == 1) = false := by simp; exact h1
    have H1 : Hid (¬ e.state = 1) := h1
    clear h1 hk3
    obtain ⟨st, hst⟩ : ∃ st, e.state = st := ⟨_, rfl⟩
    have HST : Hid (e.state = st) := hst
    rw [hst] at c0 n1 hs8 hs0 HT ⊢
    clear hst
    go_enter Tryz.func30, Tryz.ntmps30
    go_wp2_with fail
    refine HM.mono ?_
    rintro r w1 ⟨rfl, rfl⟩
    clear HM
    obtain ⟨D, G, fc, fC, fD, ffl, fmv⟩ := HE0.out.flow
    have HFL : Hid (Fl (w) D G (e).fl) := ffl
    have HMV : Hid (∀ w' σ', Mvf (w) w' D G σ' → Mv (En C) w w' lab { (e) with fl := σ' }) := fmv
    clear ffl fmv
    go_wp2_with fail
    refine (fclear_any D G _  _ HFL.out).mono ?_
    rintro r w1 ⟨rfl, hm⟩
    have HE1 : Hid (Mv (En C) w w1 lab (Em.clear e)) := HMV.out _ _ hm
    clear HE0 hm HFL HMV fc fC fD
    have f6 := HE1.out.cells.f 6 (by decide)
    have l6 := HE1.out.cells.lt
    obtain ⟨ua, ucap, u6⟩ : ∃ ua ucap, w1.cell? ⟨C, 6, none⟩ = some (.slice ua e.units.length ucap) := by
      obtain ⟨lab1, h1, _⟩ := HE1.out
      obtain ⟨a, cap, U, hx, _⟩ := h1.un
      exact ⟨a, cap, hx⟩
    have HE2 : Hid (Mv (En C) w (w1.setCell ⟨C, 6, none⟩ (.slice none 0 0)) lab (Em.noU (Em.clear e))) := HE1.out.trans fun _ hx => hx.noUnits
    go_wp2_with fail
    refine (HE2.out.call fun lab1 h1 => stop_any C lab1 _ 200 _ h1 (by have := HO.out; show e.out.length ≤ _; omega) (Or.inl rfl)).mono ?_
    rintro r w3 ⟨rfl, hm⟩
    have HE3 : Hid (Mv (En C) w w3 lab (Em.stopT (Em.noU (Em.clear e)) 200)) := hm
    clear HE2 hm
    rw [Em.stopT_200] at HE3
    go_wp2_with fail
    refine (HE3.out.call fun lab1 h1 => stop_any C lab1 _ 203 _ h1 (by have := HO.out; have a2 := Em.len_stop200 (Em.noU (Em.clear e)); have a3 : (Em.noU (Em.clear e)).out.length = e.out.length := rfl; omega) (Or.inr rfl)).mono ?_
    rintro r w4 ⟨rfl, hm⟩
    have HE4 : Hid (Mv (En C) w w4 lab (Em.stopT (Em.stop200 (Em.noU (Em.clear e))) 203)) := hm
    clear HE3 hm
    rw [Em.stopT_203] at HE4
    have HE5 : Hid (Mv (En C) w w4 lab (Em.rem3 e)) := HE4.out
    clear HE4 f6 l6 u6 c0 n1
    have k0 := HE5.out.cells.c0
    rw [HK3.out, HST.out] at k0
    have l0 := HE5.out.cells.lt
    have HF : Hid (∀ w5, Mv (En C) w w5 lab (Em.rem4 (Em.rem3 e) st) → Mv (En C) w ((w5.setCell ⟨C, 1, none⟩ (.int .i64 (-1))).setCell ⟨C, 0, none⟩ (.int .i64 1)) lab { Em.rem4 (Em.rem3 e) st with tei := -1, state := 1 }) := fun w5 hm => (hm.trans fun _ hx => hx.setTei (-1)).trans fun _ hx => hx.setState 1
    have hways : (st = 3 ∨ st = 5 ∨ st = 7 ∨ st = 8) ∨ st = 6 ∨ (st = 2 ∨ st = 4) := by
      have : st ≠ 1 := fun hx => H1.out (by have := HST.out; omega)
      omega
    rcases hways with hx | rfl | hx
    · have H4 : Hid (Em.rem4 (Em.rem3 e) st = Em.tell (Em.rem3 e) 3 ByteArray.empty) := by
        show _ = _
        unfold Em.rem4
        rw [if_pos hx]
      rcases hx with rfl | rfl | rfl | rfl
      all_goals
        go_wp2_with fail
        refine (HE5.out.call fun lab1 h1 => tell_any C lab1 _ ⟨3, Em.fr0, ByteArray.empty, 0⟩ _ h1 (by have := HL3.out; omega)).mono ?_
        rintro r w5 ⟨rfl, hm⟩
        have HE6 : Hid (Mv (En C) w w5 lab (Em.tell (Em.rem3 e) 3 ByteArray.empty)) := hm
        clear hm HE5 k0 l0
        have g0 := HE6.out.cells.f 0 (by decide)
        have g1 := HE6.out.cells.f 1 (by decide)
        have k0 := HE6.out.cells.c0
        have k1 := HE6.out.cells.c1
        have l0 := HE6.out.cells.lt
        have hT := HT.out _ (HF.out w5 (by rw [H4.out]; exact HE6.out))
        clear HE6 HF HT
        go_wp2_with fail
        refine hT.mono ?_
        rintro r w6 ⟨v, rfl, ht⟩
        have HTT := (show Hid _ from ht)
        clear hT ht g0 g1 k0 k1 l0
        go_wp2
        go_ret2
        exact ⟨v, rfl, HTT.out⟩
    · have H4 : Hid (Em.rem4 (Em.rem3 e) 6 = Em.tell (Em.rem3 e) 4 ByteArray.empty) := rfl
      go_wp2_with fail
      refine (HE5.out.call fun lab1 h1 => tell_any C lab1 _ ⟨4, Em.fr0, ByteArray.empty, 0⟩ _ h1 (by have := HL3.out; omega)).mono ?_
      rintro r w5 ⟨rfl, hm⟩
      have HE6 : Hid (Mv (En C) w w5 lab (Em.tell (Em.rem3 e) 4 ByteArray.empty)) := hm
      clear hm HE5 k0 l0
      have g0 := HE6.out.cells.f 0 (by decide)
      have g1 := HE6.out.cells.f 1 (by decide)
      have k0 := HE6.out.cells.c0
      have k1 := HE6.out.cells.c1
      have l0 := HE6.out.cells.lt
      have hT := HT.out _ (HF.out w5 (by rw [H4.out]; exact HE6.out))
      clear HE6 HF HT
      go_wp2_with fail
      refine hT.mono ?_
      rintro r w6 ⟨v, rfl, ht⟩
      have HTT := (show Hid _ from ht)
      clear hT ht g0 g1 k0 k1 l0
      go_wp2
      go_ret2
      exact ⟨v, rfl, HTT.out⟩
    · have H4 : Hid (Em.rem4 (Em.rem3 e) st = Em.rem3 e) := by
        show _ = _
        unfold Em.rem4
        rw [if_neg (by omega), if_neg (by omega)]
      rcases hx with rfl | rfl
      all_goals
        have g0 := HE5.out.cells.f 0 (by decide)
        have g1 := HE5.out.cells.f 1 (by decide)
        have k1 := HE5.out.cells.c1
        have hT := HT.out _ (HF.out w4 (by rw [H4.out]; exact HE5.out))
        clear HE5 HF HT
        go_wp2_with fail
        refine hT.mono ?_
        rintro r w6 ⟨v, rfl, ht⟩
        have HTT := (show Hid _ from ht)
        clear hT ht g0 g1 k0 k1 l0
        go_wp2
        go_ret2
        exact ⟨v, rfl, HTT.out⟩
end Go.Proofs.YtidemohpngkedabGreatDoor

namespace Go.Proofs.YtidemohpngkedabGreatDoor
open Go.RowKit
set_option linter.unusedVariables false
set_option maxRecDepth 100000
set_option linter.unusedSimpArgs false

/-- a timer that ran is over -/
def Em.over (e1 : Em.St) : Em.St :=
  if e1.state = 5 then Em.again e1 4 (Em.letter 71) 3
  else if e1.state = 6 then Em.again e1 7 (Em.letter 72) 4
  else if e1.state = 7 then Em.asks e1
  else if e1.state = 8 then Em.askAgain e1
  else e1
def Em.off (e : Em.St) (t : Int) : Em.St := { e with t200 := Em.upA e.t200 t false, t203 := Em.upB e.t203 t false }
theorem Em.timeout_no (e : Em.St) (t : Int) (ho : e.out = []) (hr : Em.runs e.t200 e.t203 t = false) : Em.timeout e t = e := by
  obtain ⟨m, st, tei, tr, asked, t2, t3, us, fl, out⟩ := e
  have h' : out = [] := ho
  subst h'
  unfold Em.runs at hr
  simp at hr
  unfold Em.timeout
  simp only []
  by_cases h3 : t = 203
  · rw [if_pos h3]
    have := hr.2 h3
    subst this
    rfl
  · rw [if_neg h3]
    by_cases h2 : t = 200
    · have := hr.1 h2
      subst this
      rw [if_neg (fun hx => by cases hx.2)]
    · rw [if_neg (fun hx => h2 hx.1)]
theorem Em.timeout_yes (e : Em.St) (t : Int) (ho : e.out = []) (tm : Em.Tm e) (ok : Em.Ok e) (hr : Em.runs e.t200 e.t203 t = true) : Em.timeout e t = Em.over (Em.off e t) ∧ (e.state = 5 ∨ e.state = 6 ∨ e.state = 7 ∨ e.state = 8) := by
  have ta := tm.a
  have tb := tm.b
  have tc := tm.c
  have s0 := ok.s0
  have s1 := ok.s1
  clear tm ok
  obtain ⟨m, st, tei, tr, asked, t2, t3, us, fl, out⟩ := e
  have h' : out = [] := ho
  subst h'
  simp only [] at ta tb tc s0 s1 hr ⊢
  rcases Em.runs_key hr with rfl | rfl
  · rw [Em.runs_200] at hr
    subst hr
    have hs : ¬ st ≤ 4 := fun hx => by cases (ta hx).1
    refine ⟨?_, by omega⟩
    rcases (show st = 5 ∨ st = 6 ∨ st = 7 ∨ st = 8 by omega) with rfl | rfl | rfl | rfl <;> rfl
  · rw [Em.runs_203] at hr
    subst hr
    have h7 : st = 7 := by
      have hs : ¬ st ≤ 4 := fun hx => by cases (ta hx).2
      have h2 : ¬ (st = 5 ∨ st = 6 ∨ st = 8) := fun hx => by cases (tb hx).2
      omega
    subst h7
    exact ⟨rfl, by omega⟩

set_option maxHeartbeats 2000000 in
theorem etime_any (C : Nat) (lab : Nat → Nat) (e : Em.St) (t : Int) (w : World) (h : Ent C w lab e) (t0 : -9223372036854775808 ≤ t) (t1 : t ≤ 9223372036854775807) :
    Calls Tryz.prog 16 #[.pointer (some ⟨C, 0, none⟩), .int .i64 t] w fun r w' => ∃ v, r = .returned v ∧ Told C w w' lab v (Em.timeout e t) := by
  have HM := made_any C lab e w h.en h.ok.s0
  have HR := runs_any C lab e t w h.en t0 t1
  cases hr : Em.runs e.t200 e.t203 t with
  | false =>
    rw [hr] at HR
    rw [Em.timeout_no e t h.out hr]
    have HN : Hid (∀ w', Below w.heap.size w w' → Told C w w' lab (.slice none 0 0) e) := fun w' hb => h.nothing hb
    clear h hr
    go_enter Tryz.func16, Tryz.ntmps16
    go_wp2_with fail
    refine HM.mono ?_
    rintro r w1 ⟨rfl, rfl⟩
    clear HM
    go_wp2_with fail
    refine HR.mono ?_
    rintro r w1 ⟨rfl, hb⟩
    have HB := (show Hid _ from HN.out _ hb)
    clear HR hb HN
    go_wp2
    go_ret
    exact ⟨_, rfl, HB.out⟩
  | true =>
    rw [hr] at HR
    have hkey := Em.runs_key hr
    obtain ⟨hov, hst4⟩ := Em.timeout_yes e t h.out h.tm h.ok hr
    have hok := Em.timeout_ok h.ok t
    have htm := Em.timeout_tm h.tm h.ok t
    rw [hov] at hok htm ⊢
    have HKEY : Hid (t = 200 ∨ t = 203) := hkey
    have HO : Hid (e.out.length = 0) := by show _ = _; rw [h.out]; rfl
    have r0 := h.ok.r0
    have r1 : e.tries ≤ 32 := by have := h.ok.r1; have := h.ok.m1; omega
    have HT : Hid (∀ w1, Mv (En C) w w1 lab (Em.over (Em.off e t)) → Calls Tryz.prog 36 #[.pointer (some ⟨C, 0, none⟩)] w1 fun r w' => ∃ v, r = .returned v ∧ Told C w w' lab v (Em.over (Em.off e t))) := fun w1 hm => told_any C lab e _ w w1 h hm hok htm
    have HEn : Hid (En C w lab e) := h.en
    clear h hr hkey hov hok htm
    go_enter Tryz.func16, Tryz.ntmps16
    go_wp2_with fail
    refine HM.mono ?_
    rintro r w1 ⟨rfl, rfl⟩
    clear HM
    go_wp2_with fail
    refine HR.mono ?_
    rintro r w1 ⟨rfl, hb⟩
    have h1 := HEn.out.below hb
    obtain ⟨M, c7, hM, htm, hmv⟩ := h1.timer
    have hlt := h1.cs.lt
    have hdr := fun ty => htm.drop HKEY.out ty
    have HH : Hid (Below w.heap.size w w1) := hb
    have HMV : Hid (∀ w' a b, TmIs w' M a b → Kept w1 w' (fun k => k = M) → Mv (En C) w1 w' lab { e with t200 := a, t203 := b }) := hmv
    clear HR hb h1 htm hmv
    obtain ⟨w2, hrun, hT, hK⟩ := hdr 0
    have HE0 : Hid (Mv (En C) w w2 lab (Em.off e t)) := Mv.ahead HH.out (HMV.out w2 _ _ hT hK)
    clear hdr hT hK HMV HH
    have k0 := HE0.out.cells.c0
    have l0 := HE0.out.cells.lt
    have ks : (Em.off e t).state = e.state := rfl
    rw [ks] at k0
    clear ks
    obtain ⟨st, hst⟩ : ∃ st, e.state = st := ⟨_, rfl⟩
    have HST : Hid (e.state = st) := hst
    rw [hst] at k0 hst4
    clear hst
    have hl0 : (Em.off e t).out.length = 0 := HO.out
    have hr0 : 0 ≤ (Em.off e t).tries := r0
    have hr1 : (Em.off e t).tries ≤ 32 := r1
    have HSO : Hid ((Em.off e t).state = st) := HST.out
    obtain ⟨e1, he1⟩ : ∃ e1, e1 = Em.off e t := ⟨_, rfl⟩
    rw [← he1] at HE0 HT hl0 hr0 hr1 HSO
    have HEQ : Hid (e1 = Em.off e t) := he1
    clear he1
    rcases hst4 with rfl | rfl | rfl | rfl
    · have hov : Em.over e1 = Em.again e1 4 (Em.letter 71) 3 := by unfold Em.over; rw [HSO.out]; rfl
      have HOV := (show Hid _ from hov)
      clear hov
      go_wp2_with fail
      refine (HE0.out.call fun lab1 h1 => tryAgain_any C lab1 _ 4 (Em.letter 71) 3 _ h1 (by omega) hr0 hr1).mono ?_
      rintro r w1 ⟨rfl, hm⟩
      have HE1 : Hid (Mv (En C) w w1 lab (Em.again e1 4 (Em.letter 71) 3)) := hm
      clear HE0 hm
      have hT := HT.out _ (show Mv (En C) w w1 lab (Em.over e1) from by rw [HOV.out]; exact HE1.out)
      clear HE1 HT
      go_wp2_with fail
      refine hT.mono ?_
      rintro r w9 ⟨v, rfl, ht⟩
      have HTT := (show Hid _ from ht)
      clear hT ht
      go_wp2
      go_ret
      exact ⟨v, rfl, by rw [← HEQ.out]; exact HTT.out⟩
    · have hov : Em.over e1 = Em.again e1 7 (Em.letter 72) 4 := by unfold Em.over; rw [HSO.out]; rfl
      have HOV := (show Hid _ from hov)
      clear hov
      go_wp2_with fail
      refine (HE0.out.call fun lab1 h1 => tryAgain_any C lab1 _ 7 (Em.letter 72) 4 _ h1 (by omega) hr0 hr1).mono ?_
      rintro r w1 ⟨rfl, hm⟩
      have HE1 : Hid (Mv (En C) w w1 lab (Em.again e1 7 (Em.letter 72) 4)) := hm
      clear HE0 hm
      have hT := HT.out _ (show Mv (En C) w w1 lab (Em.over e1) from by rw [HOV.out]; exact HE1.out)
      clear HE1 HT
      go_wp2_with fail
      refine hT.mono ?_
      rintro r w9 ⟨v, rfl, ht⟩
      have HTT := (show Hid _ from ht)
      clear hT ht
      go_wp2
      go_ret
      exact ⟨v, rfl, by rw [← HEQ.out]; exact HTT.out⟩
    · have hov : Em.over e1 = Em.asks e1 := by unfold Em.over; rw [HSO.out]; rfl
      have HOV := (show Hid _ from hov)
      clear hov
      have ha0 := HE0.out.cells
      have k04 := ha0.c4
      have l0 := ha0.lt
      have g0 := ha0.f 4 (by decide)
      clear ha0
      have HE1 : Hid (Mv (En C) w (w2.setCell ⟨C, 4, none⟩ (.int .i64 0)) lab ({ e1 with tries := 0 })) := HE0.out.trans fun _ hx => hx.setTries 0
      go_wp2_with fail
      refine (HE1.out.call fun lab1 h1 => inquire_any C lab1 _  _ h1 (by show e1.out.length ≤ _; omega)).mono ?_
      rintro r w2 ⟨rfl, hm⟩
      have HE2 : Hid (Mv (En C) w w2 lab (Em.inquire { e1 with tries := 0 })) := hm
      clear HE1 hm
      have ha2 := HE2.out.cells
      have k20 := ha2.c0
      have l2 := ha2.lt
      have g2 := ha2.f 0 (by decide)
      clear ha2
      have HE3 : Hid (Mv (En C) w (w2.setCell ⟨C, 0, none⟩ (.int .i64 8)) lab (Em.asks e1)) := HE2.out.trans fun _ hx => hx.setState 8
      have hT := HT.out _ (show Mv (En C) w (w2.setCell ⟨C, 0, none⟩ (.int .i64 8)) lab (Em.over e1) from by rw [HOV.out]; exact HE3.out)
      clear HE3 HT
      go_wp2_with fail
      refine hT.mono ?_
      rintro r w9 ⟨v, rfl, ht⟩
      have HTT := (show Hid _ from ht)
      clear hT ht
      go_wp2
      go_ret
      exact ⟨v, rfl, by rw [← HEQ.out]; exact HTT.out⟩
    · have hov : Em.over e1 = Em.askAgain e1 := by unfold Em.over; rw [HSO.out]; rfl
      have HOV := (show Hid _ from hov)
      clear hov
      go_wp2_with fail
      refine (HE0.out.call fun lab1 h1 => inquireAgain_any C lab1 _  _ h1 (by omega) hr0 hr1).mono ?_
      rintro r w1 ⟨rfl, hm⟩
      have HE1 : Hid (Mv (En C) w w1 lab (Em.askAgain e1)) := hm
      clear HE0 hm
      have hT := HT.out _ (show Mv (En C) w w1 lab (Em.over e1) from by rw [HOV.out]; exact HE1.out)
      clear HE1 HT
      go_wp2_with fail
      refine hT.mono ?_
      rintro r w9 ⟨v, rfl, ht⟩
      have HTT := (show Hid _ from ht)
      clear hT ht
      go_wp2
      go_ret
      exact ⟨v, rfl, by rw [← HEQ.out]; exact HTT.out⟩
end Go.Proofs.YtidemohpngkedabGreatDoor
