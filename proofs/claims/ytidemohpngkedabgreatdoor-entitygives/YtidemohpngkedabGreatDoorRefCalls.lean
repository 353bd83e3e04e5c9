/-
  The walks of the document's establish, release, data.
  The walks of the document's units, Ask, Remove.
  The walks of the document's New, Assign.
  The walk of the document's Assign.
-/
import Derived.Test.YtidemohpngkedabGreatDoorRefMoves
import Derived.Test.YtidemohpngkedabGreatDoorFlowSets
import Derived.Test.YtidemohpngkedabGreatDoorEntAsks
import Derived.Test.YtidemohpngkedabGreatDoorEntFrame
namespace Go.Proofs.YtidemohpngkedabGreatDoor
open Go.RowKit
set_option linter.unusedVariables false
set_option maxRecDepth 100000
set_option linter.unusedSimpArgs false

set_option maxHeartbeats 2000000 in
theorem restablish_any (R : Nat) (lab : Nat → Nat) (e : Em.St) (w : World) (h : Rn R w lab e) (hl : e.out.length ≤ 100000) (ok : Em.Ok e) :
    Calls Tryz.prog 53 #[.pointer (some ⟨R, 0, none⟩)] w fun r w' => r = .returned (.int .i64 (Em.establish e).2) ∧ Mv (Rn R) w w' lab (Em.establish e).1 := by
  have s0 := ok.s0
  have s1 := ok.s1
  have hfo := ok.fl
  have HE0 : Hid (Mv (Rn R) w w lab e) := h.same (Below.refl _ _)
  have c1 := h.cs.c1
  have c4 := h.cs.c4
  have g1 := h.cs.f 1 (by decide)
  have hlt := h.cs.lt
  clear h ok
  obtain ⟨most, st, tei, tr, asked, t2, t3, us, fl, out⟩ := e
  replace c1 : w.cell? ⟨R, 1, none⟩ = some (.int .i64 st) := c1
  replace c4 : w.cell? ⟨R, 4, none⟩ = some (.bool asked) := c4
  replace s0 : 1 ≤ st := s0
  replace s1 : st ≤ 8 := s1
  replace hl : out.length ≤ 100000 := hl
  replace hfo : Em.FlOk fl := hfo
  rcases (show st = 1 ∨ st = 2 ∨ st = 3 ∨ st = 4 ∨ st = 5 ∨ st = 6 ∨ st = 7 ∨ st = 8 by omega) with rfl | rfl | rfl | rfl | rfl | rfl | rfl | rfl
  · skip
    have hres : Em.establish (⟨most, 1, tei, tr, asked, t2, t3, us, fl, out⟩ : Em.St) = (Em.tell (⟨most, 3, tei, tr, asked, t2, t3, us, fl, out⟩ : Em.St) 8 ByteArray.empty, 0) := by first | rfl | (unfold Em.establish; simp)
    rw [hres]
    clear hres s0 s1
    replace HE0 : Hid (Mv (Rn R) w w lab (⟨most, 1, tei, tr, asked, t2, t3, us, fl, out⟩ : Em.St)) := HE0
    have HE1 : Hid (Mv (Rn R) w (w.setCell ⟨R, 1, none⟩ (.int .i64 3)) lab ((⟨most, 3, tei, tr, asked, t2, t3, us, fl, out⟩ : Em.St))) := HE0.out.trans fun _ hx => hx.setState 3
    go_enter Tryz.func53, Tryz.ntmps53
    go_wp2_with fail
    refine (HE1.out.call fun lab1 h1 => rtell_any R lab1 _ 8 ByteArray.empty _ h1 (by show out.length ≤ _; omega)).mono ?_
    rintro r w2 ⟨rfl, hm⟩
    have HE2 : Hid (Mv (Rn R) w w2 lab (Em.tell (⟨most, 3, tei, tr, asked, t2, t3, us, fl, out⟩ : Em.St) 8 ByteArray.empty)) := hm
    clear HE1 hm
    go_wp2
    go_ret
    exact ⟨rfl, HE2.out⟩
  · skip
    have hres : Em.establish (⟨most, 2, tei, tr, asked, t2, t3, us, fl, out⟩ : Em.St) = ((⟨most, 3, tei, tr, asked, t2, t3, us, fl, out⟩ : Em.St), 0) := by first | rfl | (unfold Em.establish; simp)
    rw [hres]
    clear hres s0 s1
    replace HE0 : Hid (Mv (Rn R) w w lab (⟨most, 2, tei, tr, asked, t2, t3, us, fl, out⟩ : Em.St)) := HE0
    have HE1 : Hid (Mv (Rn R) w (w.setCell ⟨R, 1, none⟩ (.int .i64 3)) lab ((⟨most, 3, tei, tr, asked, t2, t3, us, fl, out⟩ : Em.St))) := HE0.out.trans fun _ hx => hx.setState 3
    go_enter Tryz.func53, Tryz.ntmps53
    go_wp2
    go_ret
    exact ⟨rfl, HE1.out⟩
  · skip
    have hres : Em.establish (⟨most, 3, tei, tr, asked, t2, t3, us, fl, out⟩ : Em.St) = ((⟨most, 3, tei, tr, asked, t2, t3, us, fl, out⟩ : Em.St), 0) := by first | rfl | (unfold Em.establish; simp)
    rw [hres]
    clear hres s0 s1
    replace HE0 : Hid (Mv (Rn R) w w lab (⟨most, 3, tei, tr, asked, t2, t3, us, fl, out⟩ : Em.St)) := HE0
    go_enter Tryz.func53, Tryz.ntmps53
    go_wp2
    go_ret
    exact ⟨rfl, HE0.out⟩
  · skip
    have g4 := (rcells HE0.out).f 4 (by decide)
    have hres : Em.establish (⟨most, 4, tei, tr, asked, t2, t3, us, fl, out⟩ : Em.St) = (Em.call (⟨most, 4, tei, tr, true, t2, t3, us, fl, out⟩ : Em.St), 0) := by first | rfl | (unfold Em.establish; simp)
    rw [hres]
    clear hres s0 s1
    replace HE0 : Hid (Mv (Rn R) w w lab (⟨most, 4, tei, tr, asked, t2, t3, us, fl, out⟩ : Em.St)) := HE0
    have HE1 : Hid (Mv (Rn R) w (w.setCell ⟨R, 4, none⟩ (.bool true)) lab ((⟨most, 4, tei, tr, true, t2, t3, us, fl, out⟩ : Em.St))) := HE0.out.trans fun _ hx => hx.setAsked true
    go_enter Tryz.func53, Tryz.ntmps53
    go_wp2_with fail
    refine (HE1.out.call fun lab1 h1 => rcall_any R lab1 _ _ h1 (by show out.length ≤ _; omega)).mono ?_
    rintro r w2 ⟨rfl, hm⟩
    have HE2 : Hid (Mv (Rn R) w w2 lab (Em.call (⟨most, 4, tei, tr, true, t2, t3, us, fl, out⟩ : Em.St))) := hm
    clear HE1 hm
    go_wp2
    go_ret
    exact ⟨rfl, HE2.out⟩
  · skip
    have hres : Em.establish (⟨most, 5, tei, tr, asked, t2, t3, us, fl, out⟩ : Em.St) = ((⟨most, 5, tei, tr, true, t2, t3, us, (Wm.clearT fl), out⟩ : Em.St), 0) := by first | rfl | (unfold Em.establish; simp)
    rw [hres]
    clear hres s0 s1
    replace HE0 : Hid (Mv (Rn R) w w lab (⟨most, 5, tei, tr, asked, t2, t3, us, fl, out⟩ : Em.St)) := HE0
    obtain ⟨F, D, H, fc, fR, fF, ffl, fmv⟩ := rflow HE0.out
    have HFL : Hid (Rf (w) F D H ((⟨most, 5, tei, tr, asked, t2, t3, us, fl, out⟩ : Em.St)).fl) := ffl
    have HMV : Hid (∀ w' σ', Mvr (w) w' F D H σ' → Mv (Rn R) w w' lab { ((⟨most, 5, tei, tr, asked, t2, t3, us, fl, out⟩ : Em.St)) with fl := σ' }) := fmv
    clear ffl fmv
    go_enter Tryz.func53, Tryz.ntmps53
    go_wp2_with fail
    refine (rfclear_any F D H _ _ HFL.out).mono ?_
    rintro r w1 ⟨rfl, hm⟩
    have HE1 : Hid (Mv (Rn R) w w1 lab ((⟨most, 5, tei, tr, asked, t2, t3, us, (Wm.clearT fl), out⟩ : Em.St))) := HMV.out _ _ hm
    clear HE0 hm HFL HMV fc fR fF
    have ha1 := rcells HE1.out
    have k14 := ha1.c4
    have l1 := ha1.lt
    have g1 := ha1.f 4 (by decide)
    clear ha1
    have HE2 : Hid (Mv (Rn R) w (w1.setCell ⟨R, 4, none⟩ (.bool true)) lab ((⟨most, 5, tei, tr, true, t2, t3, us, (Wm.clearT fl), out⟩ : Em.St))) := HE1.out.trans fun _ hx => hx.setAsked true
    go_wp2
    go_ret
    exact ⟨rfl, HE2.out⟩
  · skip
    have hres : Em.establish (⟨most, 6, tei, tr, asked, t2, t3, us, fl, out⟩ : Em.St) = ((⟨most, 6, tei, tr, asked, t2, t3, us, fl, out⟩ : Em.St), 12) := by first | rfl | (unfold Em.establish; simp)
    rw [hres]
    clear hres s0 s1
    replace HE0 : Hid (Mv (Rn R) w w lab (⟨most, 6, tei, tr, asked, t2, t3, us, fl, out⟩ : Em.St)) := HE0
    go_enter Tryz.func53, Tryz.ntmps53
    go_wp2
    go_ret
    exact ⟨rfl, HE0.out⟩
  · skip
    have hres : Em.establish (⟨most, 7, tei, tr, asked, t2, t3, us, fl, out⟩ : Em.St) = (Em.call (⟨most, 7, tei, tr, true, t2, t3, us, (Wm.clearT fl), out⟩ : Em.St), 0) := by first | rfl | (unfold Em.establish; simp)
    rw [hres]
    clear hres s0 s1
    replace HE0 : Hid (Mv (Rn R) w w lab (⟨most, 7, tei, tr, asked, t2, t3, us, fl, out⟩ : Em.St)) := HE0
    obtain ⟨F, D, H, fc, fR, fF, ffl, fmv⟩ := rflow HE0.out
    have HFL : Hid (Rf (w) F D H ((⟨most, 7, tei, tr, asked, t2, t3, us, fl, out⟩ : Em.St)).fl) := ffl
    have HMV : Hid (∀ w' σ', Mvr (w) w' F D H σ' → Mv (Rn R) w w' lab { ((⟨most, 7, tei, tr, asked, t2, t3, us, fl, out⟩ : Em.St)) with fl := σ' }) := fmv
    clear ffl fmv
    go_enter Tryz.func53, Tryz.ntmps53
    go_wp2_with fail
    refine (rfclear_any F D H _ _ HFL.out).mono ?_
    rintro r w1 ⟨rfl, hm⟩
    have HE1 : Hid (Mv (Rn R) w w1 lab ((⟨most, 7, tei, tr, asked, t2, t3, us, (Wm.clearT fl), out⟩ : Em.St))) := HMV.out _ _ hm
    clear HE0 hm HFL HMV fc fR fF
    have ha1 := rcells HE1.out
    have k14 := ha1.c4
    have l1 := ha1.lt
    have g1 := ha1.f 4 (by decide)
    clear ha1
    have HE2 : Hid (Mv (Rn R) w (w1.setCell ⟨R, 4, none⟩ (.bool true)) lab ((⟨most, 7, tei, tr, true, t2, t3, us, (Wm.clearT fl), out⟩ : Em.St))) := HE1.out.trans fun _ hx => hx.setAsked true
    go_wp2_with fail
    refine (HE2.out.call fun lab1 h1 => rcall_any R lab1 _ _ h1 (by show out.length ≤ _; omega)).mono ?_
    rintro r w3 ⟨rfl, hm⟩
    have HE3 : Hid (Mv (Rn R) w w3 lab (Em.call (⟨most, 7, tei, tr, true, t2, t3, us, (Wm.clearT fl), out⟩ : Em.St))) := hm
    clear HE2 hm
    go_wp2
    go_ret
    exact ⟨rfl, HE3.out⟩
  · skip
    have hres : Em.establish (⟨most, 8, tei, tr, asked, t2, t3, us, fl, out⟩ : Em.St) = (Em.call (⟨most, 8, tei, tr, true, t2, t3, us, (Wm.clearT fl), out⟩ : Em.St), 0) := by first | rfl | (unfold Em.establish; simp)
    rw [hres]
    clear hres s0 s1
    replace HE0 : Hid (Mv (Rn R) w w lab (⟨most, 8, tei, tr, asked, t2, t3, us, fl, out⟩ : Em.St)) := HE0
    obtain ⟨F, D, H, fc, fR, fF, ffl, fmv⟩ := rflow HE0.out
    have HFL : Hid (Rf (w) F D H ((⟨most, 8, tei, tr, asked, t2, t3, us, fl, out⟩ : Em.St)).fl) := ffl
    have HMV : Hid (∀ w' σ', Mvr (w) w' F D H σ' → Mv (Rn R) w w' lab { ((⟨most, 8, tei, tr, asked, t2, t3, us, fl, out⟩ : Em.St)) with fl := σ' }) := fmv
    clear ffl fmv
    go_enter Tryz.func53, Tryz.ntmps53
    go_wp2_with fail
    refine (rfclear_any F D H _ _ HFL.out).mono ?_
    rintro r w1 ⟨rfl, hm⟩
    have HE1 : Hid (Mv (Rn R) w w1 lab ((⟨most, 8, tei, tr, asked, t2, t3, us, (Wm.clearT fl), out⟩ : Em.St))) := HMV.out _ _ hm
    clear HE0 hm HFL HMV fc fR fF
    have ha1 := rcells HE1.out
    have k14 := ha1.c4
    have l1 := ha1.lt
    have g1 := ha1.f 4 (by decide)
    clear ha1
    have HE2 : Hid (Mv (Rn R) w (w1.setCell ⟨R, 4, none⟩ (.bool true)) lab ((⟨most, 8, tei, tr, true, t2, t3, us, (Wm.clearT fl), out⟩ : Em.St))) := HE1.out.trans fun _ hx => hx.setAsked true
    go_wp2_with fail
    refine (HE2.out.call fun lab1 h1 => rcall_any R lab1 _ _ h1 (by show out.length ≤ _; omega)).mono ?_
    rintro r w3 ⟨rfl, hm⟩
    have HE3 : Hid (Mv (Rn R) w w3 lab (Em.call (⟨most, 8, tei, tr, true, t2, t3, us, (Wm.clearT fl), out⟩ : Em.St))) := hm
    clear HE2 hm
    go_wp2
    go_ret
    exact ⟨rfl, HE3.out⟩

set_option maxHeartbeats 2000000 in
theorem rrelease_any (R : Nat) (lab : Nat → Nat) (e : Em.St) (w : World) (h : Rn R w lab e) (hl : e.out.length ≤ 100000) (ok : Em.Ok e) :
    Calls Tryz.prog 54 #[.pointer (some ⟨R, 0, none⟩)] w fun r w' => r = .returned (.int .i64 (Em.release e).2) ∧ Mv (Rn R) w w' lab (Em.release e).1 := by
  have s0 := ok.s0
  have s1 := ok.s1
  have hfo := ok.fl
  have HE0 : Hid (Mv (Rn R) w w lab e) := h.same (Below.refl _ _)
  have c1 := h.cs.c1
  have c4 := h.cs.c4
  have g1 := h.cs.f 1 (by decide)
  have hlt := h.cs.lt
  clear h ok
  obtain ⟨most, st, tei, tr, asked, t2, t3, us, fl, out⟩ := e
  replace c1 : w.cell? ⟨R, 1, none⟩ = some (.int .i64 st) := c1
  replace c4 : w.cell? ⟨R, 4, none⟩ = some (.bool asked) := c4
  replace s0 : 1 ≤ st := s0
  replace s1 : st ≤ 8 := s1
  replace hl : out.length ≤ 100000 := hl
  replace hfo : Em.FlOk fl := hfo
  rcases (show st = 1 ∨ st = 2 ∨ st = 3 ∨ st = 4 ∨ st = 5 ∨ st = 6 ∨ st = 7 ∨ st = 8 by omega) with rfl | rfl | rfl | rfl | rfl | rfl | rfl | rfl
  · skip
    have hres : Em.release (⟨most, 1, tei, tr, asked, t2, t3, us, fl, out⟩ : Em.St) = ((⟨most, 1, tei, tr, asked, t2, t3, us, fl, out⟩ : Em.St), 12) := by first | rfl | (unfold Em.release; simp)
    rw [hres]
    clear hres s0 s1
    replace HE0 : Hid (Mv (Rn R) w w lab (⟨most, 1, tei, tr, asked, t2, t3, us, fl, out⟩ : Em.St)) := HE0
    go_enter Tryz.func54, Tryz.ntmps54
    go_wp2
    go_ret
    exact ⟨rfl, HE0.out⟩
  · skip
    have hres : Em.release (⟨most, 2, tei, tr, asked, t2, t3, us, fl, out⟩ : Em.St) = ((⟨most, 2, tei, tr, asked, t2, t3, us, fl, out⟩ : Em.St), 12) := by first | rfl | (unfold Em.release; simp)
    rw [hres]
    clear hres s0 s1
    replace HE0 : Hid (Mv (Rn R) w w lab (⟨most, 2, tei, tr, asked, t2, t3, us, fl, out⟩ : Em.St)) := HE0
    go_enter Tryz.func54, Tryz.ntmps54
    go_wp2
    go_ret
    exact ⟨rfl, HE0.out⟩
  · skip
    have hres : Em.release (⟨most, 3, tei, tr, asked, t2, t3, us, fl, out⟩ : Em.St) = ((⟨most, 3, tei, tr, asked, t2, t3, us, fl, out⟩ : Em.St), 12) := by first | rfl | (unfold Em.release; simp)
    rw [hres]
    clear hres s0 s1
    replace HE0 : Hid (Mv (Rn R) w w lab (⟨most, 3, tei, tr, asked, t2, t3, us, fl, out⟩ : Em.St)) := HE0
    go_enter Tryz.func54, Tryz.ntmps54
    go_wp2
    go_ret
    exact ⟨rfl, HE0.out⟩
  · skip
    have hres : Em.release (⟨most, 4, tei, tr, asked, t2, t3, us, fl, out⟩ : Em.St) = (Em.tell (⟨most, 4, tei, tr, asked, t2, t3, us, fl, out⟩ : Em.St) 4 ByteArray.empty, 0) := by first | rfl | (unfold Em.release; simp)
    rw [hres]
    clear hres s0 s1
    replace HE0 : Hid (Mv (Rn R) w w lab (⟨most, 4, tei, tr, asked, t2, t3, us, fl, out⟩ : Em.St)) := HE0
    go_enter Tryz.func54, Tryz.ntmps54
    go_wp2_with fail
    refine (HE0.out.call fun lab1 h1 => rtell_any R lab1 _ 4 ByteArray.empty _ h1 (by show out.length ≤ _; omega)).mono ?_
    rintro r w1 ⟨rfl, hm⟩
    have HE1 : Hid (Mv (Rn R) w w1 lab (Em.tell (⟨most, 4, tei, tr, asked, t2, t3, us, fl, out⟩ : Em.St) 4 ByteArray.empty)) := hm
    clear HE0 hm
    go_wp2
    go_ret
    exact ⟨rfl, HE1.out⟩
  · skip
    have hres : Em.release (⟨most, 5, tei, tr, asked, t2, t3, us, fl, out⟩ : Em.St) = ((⟨most, 5, tei, tr, asked, t2, t3, us, fl, out⟩ : Em.St), 12) := by first | rfl | (unfold Em.release; simp)
    rw [hres]
    clear hres s0 s1
    replace HE0 : Hid (Mv (Rn R) w w lab (⟨most, 5, tei, tr, asked, t2, t3, us, fl, out⟩ : Em.St)) := HE0
    go_enter Tryz.func54, Tryz.ntmps54
    go_wp2
    go_ret
    exact ⟨rfl, HE0.out⟩
  · skip
    have hres : Em.release (⟨most, 6, tei, tr, asked, t2, t3, us, fl, out⟩ : Em.St) = ((⟨most, 6, tei, tr, asked, t2, t3, us, fl, out⟩ : Em.St), 12) := by first | rfl | (unfold Em.release; simp)
    rw [hres]
    clear hres s0 s1
    replace HE0 : Hid (Mv (Rn R) w w lab (⟨most, 6, tei, tr, asked, t2, t3, us, fl, out⟩ : Em.St)) := HE0
    go_enter Tryz.func54, Tryz.ntmps54
    go_wp2
    go_ret
    exact ⟨rfl, HE0.out⟩
  · skip
    have hres : Em.release (⟨most, 7, tei, tr, asked, t2, t3, us, fl, out⟩ : Em.St) = ({ Em.start200 (Em.stop203 (Em.send (⟨most, 7, tei, 0, asked, t2, t3, us, (Wm.clearT fl), out⟩ : Em.St) (Em.bare true 7 true))) with state := 6 }, 0) := by first | rfl | (unfold Em.release; simp)
    rw [hres]
    clear hres s0 s1
    replace HE0 : Hid (Mv (Rn R) w w lab (⟨most, 7, tei, tr, asked, t2, t3, us, fl, out⟩ : Em.St)) := HE0
    obtain ⟨F, D, H, fc, fR, fF, ffl, fmv⟩ := rflow HE0.out
    have HFL : Hid (Rf (w) F D H ((⟨most, 7, tei, tr, asked, t2, t3, us, fl, out⟩ : Em.St)).fl) := ffl
    have HMV : Hid (∀ w' σ', Mvr (w) w' F D H σ' → Mv (Rn R) w w' lab { ((⟨most, 7, tei, tr, asked, t2, t3, us, fl, out⟩ : Em.St)) with fl := σ' }) := fmv
    clear ffl fmv
    go_enter Tryz.func54, Tryz.ntmps54
    go_wp2_with fail
    refine (rfclear_any F D H _ _ HFL.out).mono ?_
    rintro r w1 ⟨rfl, hm⟩
    have HE1 : Hid (Mv (Rn R) w w1 lab ((⟨most, 7, tei, tr, asked, t2, t3, us, (Wm.clearT fl), out⟩ : Em.St))) := HMV.out _ _ hm
    clear HE0 hm HFL HMV fc fR fF
    have ha1 := rcells HE1.out
    have k13 := ha1.c3
    have l1 := ha1.lt
    have g1 := ha1.f 3 (by decide)
    clear ha1
    have HE2 : Hid (Mv (Rn R) w (w1.setCell ⟨R, 3, none⟩ (.int .i64 0)) lab ((⟨most, 7, tei, 0, asked, t2, t3, us, (Wm.clearT fl), out⟩ : Em.St))) := HE1.out.trans fun _ hx => hx.setTries 0
    go_wp2_with fail
    refine (HE2.out.call fun lab1 h1 => rsend_any R lab1 _ (Em.bare true 7 true) _ h1 (by show out.length ≤ _; omega)).mono ?_
    rintro r w3 ⟨rfl, hm⟩
    have HE3 : Hid (Mv (Rn R) w w3 lab (Em.send (⟨most, 7, tei, 0, asked, t2, t3, us, (Wm.clearT fl), out⟩ : Em.St) (Em.bare true 7 true))) := hm
    clear HE2 hm
    have hl1 : (Em.send (⟨most, 7, tei, 0, asked, t2, t3, us, (Wm.clearT fl), out⟩ : Em.St) (Em.bare true 7 true)).out.length = out.length + 1 := Em.len_send _ _
    go_wp2_with fail
    refine (HE3.out.call fun lab1 h1 => rstop203_any R lab1 _ _ h1 (by omega)).mono ?_
    rintro r w4 ⟨rfl, hm⟩
    have HE4 : Hid (Mv (Rn R) w w4 lab (Em.stop203 (Em.send (⟨most, 7, tei, 0, asked, t2, t3, us, (Wm.clearT fl), out⟩ : Em.St) (Em.bare true 7 true)))) := hm
    clear HE3 hm
    have hl2 := Em.len_stop203 (Em.send (⟨most, 7, tei, 0, asked, t2, t3, us, (Wm.clearT fl), out⟩ : Em.St) (Em.bare true 7 true))
    go_wp2_with fail
    refine (HE4.out.call fun lab1 h1 => rstart200_any R lab1 _ _ h1 (by omega)).mono ?_
    rintro r w5 ⟨rfl, hm⟩
    have HE5 : Hid (Mv (Rn R) w w5 lab (Em.start200 (Em.stop203 (Em.send (⟨most, 7, tei, 0, asked, t2, t3, us, (Wm.clearT fl), out⟩ : Em.St) (Em.bare true 7 true))))) := hm
    clear HE4 hm
    have ha5 := rcells HE5.out
    have k51 := ha5.c1
    have l5 := ha5.lt
    have g5 := ha5.f 1 (by decide)
    clear ha5
    have HE6 : Hid (Mv (Rn R) w (w5.setCell ⟨R, 1, none⟩ (.int .i64 6)) lab ({ Em.start200 (Em.stop203 (Em.send (⟨most, 7, tei, 0, asked, t2, t3, us, (Wm.clearT fl), out⟩ : Em.St) (Em.bare true 7 true))) with state := 6 })) := HE5.out.trans fun _ hx => hx.setState 6
    go_wp2
    go_ret
    exact ⟨rfl, HE6.out⟩
  · skip
    have hres : Em.release (⟨most, 8, tei, tr, asked, t2, t3, us, fl, out⟩ : Em.St) = ({ Em.start200 (Em.stop203 (Em.send (⟨most, 8, tei, 0, asked, t2, t3, us, (Wm.clearT fl), out⟩ : Em.St) (Em.bare true 7 true))) with state := 6 }, 0) := by first | rfl | (unfold Em.release; simp)
    rw [hres]
    clear hres s0 s1
    replace HE0 : Hid (Mv (Rn R) w w lab (⟨most, 8, tei, tr, asked, t2, t3, us, fl, out⟩ : Em.St)) := HE0
    obtain ⟨F, D, H, fc, fR, fF, ffl, fmv⟩ := rflow HE0.out
    have HFL : Hid (Rf (w) F D H ((⟨most, 8, tei, tr, asked, t2, t3, us, fl, out⟩ : Em.St)).fl) := ffl
    have HMV : Hid (∀ w' σ', Mvr (w) w' F D H σ' → Mv (Rn R) w w' lab { ((⟨most, 8, tei, tr, asked, t2, t3, us, fl, out⟩ : Em.St)) with fl := σ' }) := fmv
    clear ffl fmv
    go_enter Tryz.func54, Tryz.ntmps54
    go_wp2_with fail
    refine (rfclear_any F D H _ _ HFL.out).mono ?_
    rintro r w1 ⟨rfl, hm⟩
    have HE1 : Hid (Mv (Rn R) w w1 lab ((⟨most, 8, tei, tr, asked, t2, t3, us, (Wm.clearT fl), out⟩ : Em.St))) := HMV.out _ _ hm
    clear HE0 hm HFL HMV fc fR fF
    have ha1 := rcells HE1.out
    have k13 := ha1.c3
    have l1 := ha1.lt
    have g1 := ha1.f 3 (by decide)
    clear ha1
    have HE2 : Hid (Mv (Rn R) w (w1.setCell ⟨R, 3, none⟩ (.int .i64 0)) lab ((⟨most, 8, tei, 0, asked, t2, t3, us, (Wm.clearT fl), out⟩ : Em.St))) := HE1.out.trans fun _ hx => hx.setTries 0
    go_wp2_with fail
    refine (HE2.out.call fun lab1 h1 => rsend_any R lab1 _ (Em.bare true 7 true) _ h1 (by show out.length ≤ _; omega)).mono ?_
    rintro r w3 ⟨rfl, hm⟩
    have HE3 : Hid (Mv (Rn R) w w3 lab (Em.send (⟨most, 8, tei, 0, asked, t2, t3, us, (Wm.clearT fl), out⟩ : Em.St) (Em.bare true 7 true))) := hm
    clear HE2 hm
    have hl1 : (Em.send (⟨most, 8, tei, 0, asked, t2, t3, us, (Wm.clearT fl), out⟩ : Em.St) (Em.bare true 7 true)).out.length = out.length + 1 := Em.len_send _ _
    go_wp2_with fail
    refine (HE3.out.call fun lab1 h1 => rstop203_any R lab1 _ _ h1 (by omega)).mono ?_
    rintro r w4 ⟨rfl, hm⟩
    have HE4 : Hid (Mv (Rn R) w w4 lab (Em.stop203 (Em.send (⟨most, 8, tei, 0, asked, t2, t3, us, (Wm.clearT fl), out⟩ : Em.St) (Em.bare true 7 true)))) := hm
    clear HE3 hm
    have hl2 := Em.len_stop203 (Em.send (⟨most, 8, tei, 0, asked, t2, t3, us, (Wm.clearT fl), out⟩ : Em.St) (Em.bare true 7 true))
    go_wp2_with fail
    refine (HE4.out.call fun lab1 h1 => rstart200_any R lab1 _ _ h1 (by omega)).mono ?_
    rintro r w5 ⟨rfl, hm⟩
    have HE5 : Hid (Mv (Rn R) w w5 lab (Em.start200 (Em.stop203 (Em.send (⟨most, 8, tei, 0, asked, t2, t3, us, (Wm.clearT fl), out⟩ : Em.St) (Em.bare true 7 true))))) := hm
    clear HE4 hm
    have ha5 := rcells HE5.out
    have k51 := ha5.c1
    have l5 := ha5.lt
    have g5 := ha5.f 1 (by decide)
    clear ha5
    have HE6 : Hid (Mv (Rn R) w (w5.setCell ⟨R, 1, none⟩ (.int .i64 6)) lab ({ Em.start200 (Em.stop203 (Em.send (⟨most, 8, tei, 0, asked, t2, t3, us, (Wm.clearT fl), out⟩ : Em.St) (Em.bare true 7 true))) with state := 6 })) := HE5.out.trans fun _ hx => hx.setState 6
    go_wp2
    go_ret
    exact ⟨rfl, HE6.out⟩

set_option maxHeartbeats 2000000 in
theorem rdata_any (R : Nat) (lab : Nat → Nat) (e : Em.St) (s : ByteArray) (w : World) (h : Rn R w lab e) (hl : e.out.length ≤ 100000) (ok : Em.Ok e) (hz : s.size ≤ 9223372036854775807) :
    Calls Tryz.prog 55 #[.pointer (some ⟨R, 0, none⟩), .string s] w fun r w' => r = .returned (.int .i64 (Em.data e s).2) ∧ Mv (Rn R) w w' lab (Em.data e s).1 := by
  have s0 := ok.s0
  have s1 := ok.s1
  have hfo := ok.fl
  have HE0 : Hid (Mv (Rn R) w w lab e) := h.same (Below.refl _ _)
  have c1 := h.cs.c1
  have c4 := h.cs.c4
  have g1 := h.cs.f 1 (by decide)
  have hlt := h.cs.lt
  clear h ok
  obtain ⟨most, st, tei, tr, asked, t2, t3, us, fl, out⟩ := e
  replace c1 : w.cell? ⟨R, 1, none⟩ = some (.int .i64 st) := c1
  replace c4 : w.cell? ⟨R, 4, none⟩ = some (.bool asked) := c4
  replace s0 : 1 ≤ st := s0
  replace s1 : st ≤ 8 := s1
  replace hl : out.length ≤ 100000 := hl
  replace hfo : Em.FlOk fl := hfo
  rcases (show st = 1 ∨ st = 2 ∨ st = 3 ∨ st = 4 ∨ st = 5 ∨ st = 6 ∨ st = 7 ∨ st = 8 by omega) with rfl | rfl | rfl | rfl | rfl | rfl | rfl | rfl
  · skip
    have hres : Em.data (⟨most, 1, tei, tr, asked, t2, t3, us, fl, out⟩ : Em.St) s = ((⟨most, 1, tei, tr, asked, t2, t3, us, fl, out⟩ : Em.St), 12) := by first | rfl | (unfold Em.data; simp)
    rw [hres]
    clear hres s0 s1
    replace HE0 : Hid (Mv (Rn R) w w lab (⟨most, 1, tei, tr, asked, t2, t3, us, fl, out⟩ : Em.St)) := HE0
    go_enter Tryz.func55, Tryz.ntmps55
    go_wp2
    go_ret
    exact ⟨rfl, HE0.out⟩
  · skip
    have hres : Em.data (⟨most, 2, tei, tr, asked, t2, t3, us, fl, out⟩ : Em.St) s = ((⟨most, 2, tei, tr, asked, t2, t3, us, fl, out⟩ : Em.St), 12) := by first | rfl | (unfold Em.data; simp)
    rw [hres]
    clear hres s0 s1
    replace HE0 : Hid (Mv (Rn R) w w lab (⟨most, 2, tei, tr, asked, t2, t3, us, fl, out⟩ : Em.St)) := HE0
    go_enter Tryz.func55, Tryz.ntmps55
    go_wp2
    go_ret
    exact ⟨rfl, HE0.out⟩
  · skip
    have hres : Em.data (⟨most, 3, tei, tr, asked, t2, t3, us, fl, out⟩ : Em.St) s = ((⟨most, 3, tei, tr, asked, t2, t3, us, fl, out⟩ : Em.St), 12) := by first | rfl | (unfold Em.data; simp)
    rw [hres]
    clear hres s0 s1
    replace HE0 : Hid (Mv (Rn R) w w lab (⟨most, 3, tei, tr, asked, t2, t3, us, fl, out⟩ : Em.St)) := HE0
    go_enter Tryz.func55, Tryz.ntmps55
    go_wp2
    go_ret
    exact ⟨rfl, HE0.out⟩
  · skip
    have hres : Em.data (⟨most, 4, tei, tr, asked, t2, t3, us, fl, out⟩ : Em.St) s = ((⟨most, 4, tei, tr, asked, t2, t3, us, fl, out⟩ : Em.St), 12) := by first | rfl | (unfold Em.data; simp)
    rw [hres]
    clear hres s0 s1
    replace HE0 : Hid (Mv (Rn R) w w lab (⟨most, 4, tei, tr, asked, t2, t3, us, fl, out⟩ : Em.St)) := HE0
    go_enter Tryz.func55, Tryz.ntmps55
    go_wp2
    go_ret
    exact ⟨rfl, HE0.out⟩
  · cases asked with
    | true =>
      have hres : Em.data (⟨most, 5, tei, tr, true, t2, t3, us, fl, out⟩ : Em.St) s = ((⟨most, 5, tei, tr, true, t2, t3, us, fl, out⟩ : Em.St), 12) := by first | rfl | (unfold Em.data; simp)
      rw [hres]
      clear hres s0 s1
      replace HE0 : Hid (Mv (Rn R) w w lab (⟨most, 5, tei, tr, true, t2, t3, us, fl, out⟩ : Em.St)) := HE0
      go_enter Tryz.func55, Tryz.ntmps55
      go_wp2
      go_ret
      exact ⟨rfl, HE0.out⟩
    | false =>
      have HSZ : Hid (s.size ≤ 9223372036854775807) := hz
      have HFO : Hid (Em.FlOk (Wm.pushT fl s)) := hfo.push s
      clear hz hfo
      obtain ⟨c, hc⟩ : ∃ c, c = Qm.pushN fl.mo fl.L s := ⟨_, rfl⟩
      cases hq : (c == 0) with
      | true =>
        have hc0 : c = 0 := by simpa using hq
        have hres : Em.data (⟨most, 5, tei, tr, false, t2, t3, us, fl, out⟩ : Em.St) s = (Em.goOn (⟨most, 5, tei, tr, false, t2, t3, us, (Wm.pushT fl s), out⟩ : Em.St), c) := by
          unfold Em.data
          rw [if_pos (by rfl)]
          show ((if Qm.pushN fl.mo fl.L s = 0 then _ else _), _) = _
          rw [← hc, if_pos hc0]
        rw [hres]
        clear hres hc0 s0 s1
        replace HE0 : Hid (Mv (Rn R) w w lab (⟨most, 5, tei, tr, false, t2, t3, us, fl, out⟩ : Em.St)) := HE0
        obtain ⟨F, D, H, fc, fR, fF, ffl, fmv⟩ := rflow HE0.out
        have c7 := ffl.c7
        have hP := rfpush_any s ffl HSZ.out
        replace hP : Calls Tryz.prog 109 #[.pointer (some ⟨D, 0, none⟩), .string s] w fun e w' => e = .returned (.int .i64 c) ∧ Mvr w w' F D H (Wm.pushT fl s) := by rw [hc]; exact hP
        have HMV : Hid (∀ w' σ', Mvr w w' F D H σ' → Mv (Rn R) w w' lab (⟨most, 5, tei, tr, false, t2, t3, us, σ', out⟩ : Em.St)) := fmv
        clear ffl fmv hc
        go_enter Tryz.func55, Tryz.ntmps55
        go_wp2_with fail
        refine hP.mono ?_
        rintro r w1 ⟨rfl, hm⟩
        have HE1 : Hid (Mv (Rn R) w w1 lab (⟨most, 5, tei, tr, false, t2, t3, us, (Wm.pushT fl s), out⟩ : Em.St)) := HMV.out _ _ hm
        clear HE0 hm hP HMV fc fR fF c7
        go_wp2_with fail
        refine (HE1.out.call fun lab1 h1 => rgoOn_any R lab1 _ _ h1 (by show out.length ≤ _; omega) HFO.out).mono ?_
        rintro r w2 ⟨rfl, hm⟩
        have HE2 : Hid (Mv (Rn R) w w2 lab (Em.goOn (⟨most, 5, tei, tr, false, t2, t3, us, (Wm.pushT fl s), out⟩ : Em.St))) := hm
        clear HE1 hm
        go_wp2
        go_ret
        exact ⟨rfl, HE2.out⟩
      | false =>
        have hc0 : ¬ c = 0 := by simpa using hq
        have HPT : Hid ((⟨most, 5, tei, tr, false, t2, t3, us, (Wm.pushT fl s), out⟩ : Em.St) = (⟨most, 5, tei, tr, false, t2, t3, us, fl, out⟩ : Em.St)) := Em.pushT_bad (⟨most, 5, tei, tr, false, t2, t3, us, fl, out⟩ : Em.St) s (by show Qm.pushN fl.mo fl.L s ≠ 0; rw [← hc]; exact hc0)
        have hres : Em.data (⟨most, 5, tei, tr, false, t2, t3, us, fl, out⟩ : Em.St) s = ((⟨most, 5, tei, tr, false, t2, t3, us, fl, out⟩ : Em.St), c) := by
          unfold Em.data
          rw [if_pos (by rfl)]
          show ((if Qm.pushN fl.mo fl.L s = 0 then _ else _), _) = _
          rw [← hc, if_neg hc0]
        rw [hres]
        clear hres hc0 s0 s1
        replace HE0 : Hid (Mv (Rn R) w w lab (⟨most, 5, tei, tr, false, t2, t3, us, fl, out⟩ : Em.St)) := HE0
        obtain ⟨F, D, H, fc, fR, fF, ffl, fmv⟩ := rflow HE0.out
        have c7 := ffl.c7
        have hP := rfpush_any s ffl HSZ.out
        replace hP : Calls Tryz.prog 109 #[.pointer (some ⟨D, 0, none⟩), .string s] w fun e w' => e = .returned (.int .i64 c) ∧ Mvr w w' F D H (Wm.pushT fl s) := by rw [hc]; exact hP
        have HMV : Hid (∀ w' σ', Mvr w w' F D H σ' → Mv (Rn R) w w' lab (⟨most, 5, tei, tr, false, t2, t3, us, σ', out⟩ : Em.St)) := fmv
        clear ffl fmv hc
        go_enter Tryz.func55, Tryz.ntmps55
        go_wp2_with fail
        refine hP.mono ?_
        rintro r w1 ⟨rfl, hm⟩
        have HE1 : Hid (Mv (Rn R) w w1 lab (⟨most, 5, tei, tr, false, t2, t3, us, (Wm.pushT fl s), out⟩ : Em.St)) := HMV.out _ _ hm
        clear HE0 hm hP HMV fc fR fF c7
        rw [HPT.out] at HE1
        go_wp2
        go_ret
        exact ⟨rfl, HE1.out⟩
  · skip
    have hres : Em.data (⟨most, 6, tei, tr, asked, t2, t3, us, fl, out⟩ : Em.St) s = ((⟨most, 6, tei, tr, asked, t2, t3, us, fl, out⟩ : Em.St), 12) := by first | rfl | (unfold Em.data; simp)
    rw [hres]
    clear hres s0 s1
    replace HE0 : Hid (Mv (Rn R) w w lab (⟨most, 6, tei, tr, asked, t2, t3, us, fl, out⟩ : Em.St)) := HE0
    go_enter Tryz.func55, Tryz.ntmps55
    go_wp2
    go_ret
    exact ⟨rfl, HE0.out⟩
  · skip
    have HSZ : Hid (s.size ≤ 9223372036854775807) := hz
    have HFO : Hid (Em.FlOk (Wm.pushT fl s)) := hfo.push s
    clear hz hfo
    obtain ⟨c, hc⟩ : ∃ c, c = Qm.pushN fl.mo fl.L s := ⟨_, rfl⟩
    cases hq : (c == 0) with
    | true =>
      have hc0 : c = 0 := by simpa using hq
      have hres : Em.data (⟨most, 7, tei, tr, asked, t2, t3, us, fl, out⟩ : Em.St) s = (Em.goOn (⟨most, 7, tei, tr, asked, t2, t3, us, (Wm.pushT fl s), out⟩ : Em.St), c) := by
        unfold Em.data
        rw [if_pos (by rfl)]
        show ((if Qm.pushN fl.mo fl.L s = 0 then _ else _), _) = _
        rw [← hc, if_pos hc0]
      rw [hres]
      clear hres hc0 s0 s1
      replace HE0 : Hid (Mv (Rn R) w w lab (⟨most, 7, tei, tr, asked, t2, t3, us, fl, out⟩ : Em.St)) := HE0
      obtain ⟨F, D, H, fc, fR, fF, ffl, fmv⟩ := rflow HE0.out
      have c7 := ffl.c7
      have hP := rfpush_any s ffl HSZ.out
      replace hP : Calls Tryz.prog 109 #[.pointer (some ⟨D, 0, none⟩), .string s] w fun e w' => e = .returned (.int .i64 c) ∧ Mvr w w' F D H (Wm.pushT fl s) := by rw [hc]; exact hP
      have HMV : Hid (∀ w' σ', Mvr w w' F D H σ' → Mv (Rn R) w w' lab (⟨most, 7, tei, tr, asked, t2, t3, us, σ', out⟩ : Em.St)) := fmv
      clear ffl fmv hc
      go_enter Tryz.func55, Tryz.ntmps55
      go_wp2_with fail
      refine hP.mono ?_
      rintro r w1 ⟨rfl, hm⟩
      have HE1 : Hid (Mv (Rn R) w w1 lab (⟨most, 7, tei, tr, asked, t2, t3, us, (Wm.pushT fl s), out⟩ : Em.St)) := HMV.out _ _ hm
      clear HE0 hm hP HMV fc fR fF c7
      go_wp2_with fail
      refine (HE1.out.call fun lab1 h1 => rgoOn_any R lab1 _ _ h1 (by show out.length ≤ _; omega) HFO.out).mono ?_
      rintro r w2 ⟨rfl, hm⟩
      have HE2 : Hid (Mv (Rn R) w w2 lab (Em.goOn (⟨most, 7, tei, tr, asked, t2, t3, us, (Wm.pushT fl s), out⟩ : Em.St))) := hm
      clear HE1 hm
      go_wp2
      go_ret
      exact ⟨rfl, HE2.out⟩
    | false =>
      have hc0 : ¬ c = 0 := by simpa using hq
      have HPT : Hid ((⟨most, 7, tei, tr, asked, t2, t3, us, (Wm.pushT fl s), out⟩ : Em.St) = (⟨most, 7, tei, tr, asked, t2, t3, us, fl, out⟩ : Em.St)) := Em.pushT_bad (⟨most, 7, tei, tr, asked, t2, t3, us, fl, out⟩ : Em.St) s (by show Qm.pushN fl.mo fl.L s ≠ 0; rw [← hc]; exact hc0)
      have hres : Em.data (⟨most, 7, tei, tr, asked, t2, t3, us, fl, out⟩ : Em.St) s = ((⟨most, 7, tei, tr, asked, t2, t3, us, fl, out⟩ : Em.St), c) := by
        unfold Em.data
        rw [if_pos (by rfl)]
        show ((if Qm.pushN fl.mo fl.L s = 0 then _ else _), _) = _
        rw [← hc, if_neg hc0]
      rw [hres]
      clear hres hc0 s0 s1
      replace HE0 : Hid (Mv (Rn R) w w lab (⟨most, 7, tei, tr, asked, t2, t3, us, fl, out⟩ : Em.St)) := HE0
      obtain ⟨F, D, H, fc, fR, fF, ffl, fmv⟩ := rflow HE0.out
      have c7 := ffl.c7
      have hP := rfpush_any s ffl HSZ.out
      replace hP : Calls Tryz.prog 109 #[.pointer (some ⟨D, 0, none⟩), .string s] w fun e w' => e = .returned (.int .i64 c) ∧ Mvr w w' F D H (Wm.pushT fl s) := by rw [hc]; exact hP
      have HMV : Hid (∀ w' σ', Mvr w w' F D H σ' → Mv (Rn R) w w' lab (⟨most, 7, tei, tr, asked, t2, t3, us, σ', out⟩ : Em.St)) := fmv
      clear ffl fmv hc
      go_enter Tryz.func55, Tryz.ntmps55
      go_wp2_with fail
      refine hP.mono ?_
      rintro r w1 ⟨rfl, hm⟩
      have HE1 : Hid (Mv (Rn R) w w1 lab (⟨most, 7, tei, tr, asked, t2, t3, us, (Wm.pushT fl s), out⟩ : Em.St)) := HMV.out _ _ hm
      clear HE0 hm hP HMV fc fR fF c7
      rw [HPT.out] at HE1
      go_wp2
      go_ret
      exact ⟨rfl, HE1.out⟩
  · skip
    have HSZ : Hid (s.size ≤ 9223372036854775807) := hz
    have HFO : Hid (Em.FlOk (Wm.pushT fl s)) := hfo.push s
    clear hz hfo
    obtain ⟨c, hc⟩ : ∃ c, c = Qm.pushN fl.mo fl.L s := ⟨_, rfl⟩
    cases hq : (c == 0) with
    | true =>
      have hc0 : c = 0 := by simpa using hq
      have hres : Em.data (⟨most, 8, tei, tr, asked, t2, t3, us, fl, out⟩ : Em.St) s = (Em.goOn (⟨most, 8, tei, tr, asked, t2, t3, us, (Wm.pushT fl s), out⟩ : Em.St), c) := by
        unfold Em.data
        rw [if_pos (by rfl)]
        show ((if Qm.pushN fl.mo fl.L s = 0 then _ else _), _) = _
        rw [← hc, if_pos hc0]
      rw [hres]
      clear hres hc0 s0 s1
      replace HE0 : Hid (Mv (Rn R) w w lab (⟨most, 8, tei, tr, asked, t2, t3, us, fl, out⟩ : Em.St)) := HE0
      obtain ⟨F, D, H, fc, fR, fF, ffl, fmv⟩ := rflow HE0.out
      have c7 := ffl.c7
      have hP := rfpush_any s ffl HSZ.out
      replace hP : Calls Tryz.prog 109 #[.pointer (some ⟨D, 0, none⟩), .string s] w fun e w' => e = .returned (.int .i64 c) ∧ Mvr w w' F D H (Wm.pushT fl s) := by rw [hc]; exact hP
      have HMV : Hid (∀ w' σ', Mvr w w' F D H σ' → Mv (Rn R) w w' lab (⟨most, 8, tei, tr, asked, t2, t3, us, σ', out⟩ : Em.St)) := fmv
      clear ffl fmv hc
      go_enter Tryz.func55, Tryz.ntmps55
      go_wp2_with fail
      refine hP.mono ?_
      rintro r w1 ⟨rfl, hm⟩
      have HE1 : Hid (Mv (Rn R) w w1 lab (⟨most, 8, tei, tr, asked, t2, t3, us, (Wm.pushT fl s), out⟩ : Em.St)) := HMV.out _ _ hm
      clear HE0 hm hP HMV fc fR fF c7
      go_wp2_with fail
      refine (HE1.out.call fun lab1 h1 => rgoOn_any R lab1 _ _ h1 (by show out.length ≤ _; omega) HFO.out).mono ?_
      rintro r w2 ⟨rfl, hm⟩
      have HE2 : Hid (Mv (Rn R) w w2 lab (Em.goOn (⟨most, 8, tei, tr, asked, t2, t3, us, (Wm.pushT fl s), out⟩ : Em.St))) := hm
      clear HE1 hm
      go_wp2
      go_ret
      exact ⟨rfl, HE2.out⟩
    | false =>
      have hc0 : ¬ c = 0 := by simpa using hq
      have HPT : Hid ((⟨most, 8, tei, tr, asked, t2, t3, us, (Wm.pushT fl s), out⟩ : Em.St) = (⟨most, 8, tei, tr, asked, t2, t3, us, fl, out⟩ : Em.St)) := Em.pushT_bad (⟨most, 8, tei, tr, asked, t2, t3, us, fl, out⟩ : Em.St) s (by show Qm.pushN fl.mo fl.L s ≠ 0; rw [← hc]; exact hc0)
      have hres : Em.data (⟨most, 8, tei, tr, asked, t2, t3, us, fl, out⟩ : Em.St) s = ((⟨most, 8, tei, tr, asked, t2, t3, us, fl, out⟩ : Em.St), c) := by
        unfold Em.data
        rw [if_pos (by rfl)]
        show ((if Qm.pushN fl.mo fl.L s = 0 then _ else _), _) = _
        rw [← hc, if_neg hc0]
      rw [hres]
      clear hres hc0 s0 s1
      replace HE0 : Hid (Mv (Rn R) w w lab (⟨most, 8, tei, tr, asked, t2, t3, us, fl, out⟩ : Em.St)) := HE0
      obtain ⟨F, D, H, fc, fR, fF, ffl, fmv⟩ := rflow HE0.out
      have c7 := ffl.c7
      have hP := rfpush_any s ffl HSZ.out
      replace hP : Calls Tryz.prog 109 #[.pointer (some ⟨D, 0, none⟩), .string s] w fun e w' => e = .returned (.int .i64 c) ∧ Mvr w w' F D H (Wm.pushT fl s) := by rw [hc]; exact hP
      have HMV : Hid (∀ w' σ', Mvr w w' F D H σ' → Mv (Rn R) w w' lab (⟨most, 8, tei, tr, asked, t2, t3, us, σ', out⟩ : Em.St)) := fmv
      clear ffl fmv hc
      go_enter Tryz.func55, Tryz.ntmps55
      go_wp2_with fail
      refine hP.mono ?_
      rintro r w1 ⟨rfl, hm⟩
      have HE1 : Hid (Mv (Rn R) w w1 lab (⟨most, 8, tei, tr, asked, t2, t3, us, (Wm.pushT fl s), out⟩ : Em.St)) := HMV.out _ _ hm
      clear HE0 hm hP HMV fc fR fF c7
      rw [HPT.out] at HE1
      go_wp2
      go_ret
      exact ⟨rfl, HE1.out⟩

end Go.Proofs.YtidemohpngkedabGreatDoor

namespace Go.Proofs.YtidemohpngkedabGreatDoor
open Go.RowKit
set_option linter.unusedVariables false
set_option maxRecDepth 100000
set_option linter.unusedSimpArgs false

theorem rflow_ne {R : Nat} {w w1 : World} {lab : Nat → Nat} {e1 : Em.St} (h : Mv (Rn R) w w1 lab e1) : ∃ F D H, w1.cell? ⟨R, 8, none⟩ = some (.pointer (some ⟨F, 0, none⟩)) ∧ R < w1.heap.size ∧ F < w1.heap.size ∧ ¬ F = R ∧ Rf w1 F D H e1.fl ∧ ∀ w' σ', Mvr w1 w' F D H σ' → Mv (Rn R) w w' lab { e1 with fl := σ' } := by
  obtain ⟨lab1, h1, hk, hl⟩ := h
  have hR := h1.lR
  obtain ⟨F0, D0, H0, k1, k2, k3⟩ := h1.fl
  obtain ⟨F, D, H, c8, hF, hfl, hmv⟩ := h1.flow
  refine ⟨F, D, H, c8, h1.cs.lt, hF, fun hx => ?_, hfl, fun w' σ' hm => Mv.on hk hl (hmv w' σ' hm)⟩
  rw [k1] at c8
  have h0 := Option.some.inj c8
  injection h0 with h0
  have h2 := Option.some.inj h0
  injection h2 with h3
  have := k3 F0 (Or.inl rfl)
  rw [h3, hx] at this
  omega
theorem rcell7 {R : Nat} {w w1 : World} {lab : Nat → Nat} {e1 : Em.St} (h : Mv (Rn R) w w1 lab e1) : ∃ a n cap, w1.cell? ⟨R, 7, none⟩ = some (.slice a n cap) := by
  obtain ⟨lab1, h1, _⟩ := h
  obtain ⟨a, cap, U, h7, _⟩ := h1.un
  exact ⟨a, _, cap, h7⟩
theorem runits_put {R : Nat} {w wq : World} {lab : Nat → Nat} {e : Em.St} {U U' : Option Nat} {a' : Option Addr} {cap' : Nat} {L' : List ByteArray} (h : Rn R w lab e) (hlb : ∀ B, U = some B → lab B = 4) (hk : Kept w wq (fun k => U = some k)) (hS : SRow wq a' cap' U' L') (hU : ∀ B, U' = some B → U = some B ∨ w.heap.size ≤ B) :
    Mv (Rn R) w (wq.setCell ⟨R, 7, none⟩ (.slice a' L'.length cap')) lab { e with units := L' } := by
  have hlR := h.lR
  have hR : ¬ U = some R := fun hx => by have := hlb R hx; omega
  have hx : ∀ l, l ≠ 4 → ∀ k, k < w.heap.size → lab k = l → ¬ U = some k ∧ fresh lab w.heap.size 4 k = l := fun l hl k hlt he => ⟨fun hx => hl (by rw [← he]; exact hlb k hx), by rw [fresh_old hlt]; exact he⟩
  have hl' : fresh lab w.heap.size 4 R = 1 := by rw [fresh_old h.cs.lt]; exact hlR
  have hul : ∀ B, U' = some B → fresh lab w.heap.size 4 B = 4 := by
    intro B hB
    rcases hU B hB with h' | h'
    · rcases Nat.lt_or_ge B w.heap.size with hlt | hge
      · rw [fresh_old hlt]; exact hlb B h'
      · exact fresh_new hge
    · exact fresh_new h'
  have hcs := h.cs.kept hk hR
  refine ⟨fresh lab w.heap.size 4, ⟨(hcs.set 7 _ (fun _ => rfl) (fun _ => rfl) (fun _ => rfl) (fun _ => rfl) (fun _ => rfl) (fun _ => rfl) (fun _ => rfl) (fun hx => by omega) (fun hx => by omega) (fun hx => by omega) (fun hx => by omega) (fun hx => by omega) (fun hx => by omega) (fun hx => by omega)).as rfl rfl rfl rfl rfl rfl rfl, hl', (h.fl.kept h.cs.lt hk hR (hx 2 (by decide))).oth hl' 7 (by decide) _, ?_, (h.ot.kept h.cs.lt hk hR (hx 5 (by decide))).oth hl' 7 (by decide) _⟩, ?_, fun k hlt => fresh_old hlt⟩
  · obtain ⟨a, cap, U0, h1, _, _⟩ := h.un
    refine ⟨a', cap', U', ?_, hS.kept (kept_cell wq R 7 _) (fun B hB hx => by subst hx; have := hul _ hB; omega), hul⟩
    exact World.cell?_setCell_same' wq ⟨R, 7, none⟩ _ (by rw [hk.cell (p := ⟨R, 7, none⟩) h.cs.lt hR, h1]; rfl)
  · exact ((hk.mono (T' := fun k => lab k ≠ 0) (fun k _ hx => by rw [hlb k hx]; decide)).trans (kept_cell wq R 7 _) (fun k _ hx => by show lab k ≠ 0; rw [hx, hlR]; decide))

set_option maxHeartbeats 2000000 in
theorem runits_any (R : Nat) (lab : Nat → Nat) (e : Em.St) (s : ByteArray) (w : World) (h : Rn R w lab e) (hl : e.out.length ≤ 100000) (ok : Em.Ok e) :
    Calls Tryz.prog 56 #[.pointer (some ⟨R, 0, none⟩), .string s] w fun r w' => r = .returned (.int .i64 (Em.units e s).2) ∧ Mv (Rn R) w w' lab (Em.units e s).1 := by
  have HE0 : Hid (Mv (Rn R) w w lab e) := h.same (Below.refl _ _)
  by_cases h4 : 4 ≤ e.state
  · have hT := h.cs.c1
    have hlt := h.cs.lt
    have hd4 : decide (e.state ≥ 4) = true := decide_eq_true h4
    have hres : Em.units e s = (Em.unit e s, 0) := by unfold Em.units; rw [if_pos h4]
    rw [hres]
    clear h ok h4 hres
    go_enter Tryz.func56, Tryz.ntmps56
    go_wp2_with fail
    refine (HE0.out.call fun lab1 h1 => runit_any R lab1 _ s _ h1 (by omega)).mono ?_
    rintro r w2 ⟨rfl, hm⟩
    have HE1 : Hid (Mv (Rn R) w w2 lab (Em.unit e s)) := hm
    clear hm HE0
    go_wp2
    go_ret
    exact ⟨rfl, HE1.out⟩
  · have hlo := ok.lo (by omega)
    have hd4 : decide (e.state ≥ 4) = false := decide_eq_false h4
    have HS0 : Hid (1 ≤ e.state ∧ e.state ≤ 3) := ⟨ok.s0, by omega⟩
    have hul := ok.ul
    have c0 := h.cs.c1
    have f6 := h.cs.f 7 (by decide)
    have hlt := h.cs.lt
    obtain ⟨a, cap, U, h6, hS, hlb⟩ := h.un
    have HEn : Hid (Rn R w lab e) := h
    have HS : Hid (SRow w a cap U e.units) := hS
    have HLB : Hid (∀ B, U = some B → lab B = 4) := hlb
    clear h hS hlb ok hlo
    by_cases hfull : e.units.length = 256
    · have hres : Em.units e s = (e, 10) := by unfold Em.units; rw [if_neg h4, if_pos hfull]
      rw [hres]
      clear hres h4
      rw [hfull] at h6
      clear hfull hul
      go_enter Tryz.func56, Tryz.ntmps56
      go_wp2
      go_ret
      exact ⟨rfl, HE0.out⟩
    · have hlen : e.units.length < 256 := by omega
      have hres : Em.units e s = (if e.state = 1 then Em.tell { e with units := e.units ++ [s], state := 2 } 8 ByteArray.empty else { e with units := e.units ++ [s] }, 0) := by
        unfold Em.units
        rw [if_neg h4, if_neg hfull]
        split <;> rfl
      rw [hres]
      obtain ⟨X, hX⟩ : ∃ X, X = (if e.state = 1 then Em.tell { e with units := e.units ++ [s], state := 2 } 8 ByteArray.empty else { e with units := e.units ++ [s] }) := ⟨_, rfl⟩
      rw [← hX]
      have HX : Hid (X = (if e.state = 1 then Em.tell { e with units := e.units ++ [s], state := 2 } 8 ByteArray.empty else { e with units := e.units ++ [s] })) := hX
      clear hX
      clear hres h4 hfull hul
      obtain ⟨W1, hW1⟩ : ∃ W1, W1 = w.alloc (.cells #[.string s] 9) := ⟨_, rfl⟩
      have hb1 : Below w.heap.size w W1 := by rw [hW1]; exact (Below.refl _ _).alloc (Nat.le_refl _) _
      have hS1 : Hid (SRow W1 a cap U e.units) := HS.out.kept (T := fun _ => False) (Kept.of_below hb1 (fun k hk h' => by omega)) (fun _ _ x => x)
      have hnc : Hid (W1.cell? ⟨w.heap.size, 0, none⟩ = some (.string s)) := by rw [hW1]; show _ = _; simp
      have HB1 : Hid (Below w.heap.size w W1) := hb1
      have HL : Hid (e.units.length < 256) := hlen
      clear hb1
      go_enter Tryz.func56, Tryz.ntmps56
      have hge : ¬ ((e.units.length : Int) ≥ 256) := by omega
      go_wp2_with (at_builtin; rw [← hW1]; refine append_srow rfl _ _ rfl a cap U e.units s w.heap.size 1 rfl hS1.out rfl hnc.out (by have := HL.out; omega) ?_)
      intro a' cap' U' w' hS' hK' hG'
      try rw [← hW1] at hK'
      try rw [← hW1] at hG'
      have hz : W1.heap.size = w.heap.size + 1 := by rw [hW1]; simp
      have hk : Kept w w' (fun k => U = some k) := (Kept.of_below (T := fun k => U = some k) HB1.out (fun k hk h' => by omega)).trans hK' (fun k _ h => h)
      have hC : ¬ U = some R := fun hx => by have := HLB.out R hx; have := HEn.out.lR; omega
      have v6 : w'.cell? ⟨R, 7, none⟩ = some (.slice a e.units.length cap) := (hk.cell (p := ⟨R, 7, none⟩) hlt hC).trans h6
      have vf : w'.frozen? ⟨R, 7, none⟩ = false := (hk.frozen (p := ⟨R, 7, none⟩) hlt hC).trans f6
      have vlt : R < w'.heap.size := Nat.lt_of_lt_of_le hlt hk.size
      have HE1 : Hid (Mv (Rn R) w (w'.setCell ⟨R, 7, none⟩ (.slice a' (e.units.length + 1) cap')) lab { e with units := e.units ++ [s] }) := by
        have := runits_put HEn.out HLB.out hk hS' (fun B hB => (hG' B hB).imp id (fun h => by omega))
        have el : (e.units ++ [s]).length = e.units.length + 1 := by simp
        rw [el] at this
        exact this
      clear hS' hK' hG' hk hz hW1 hS1 hnc HB1 HS HLB h6 f6 c0 hlt hge hC HE0 hlen
      have ha := rcells HE1.out
      have k0 := ha.c1
      have g0 := ha.f 1 (by decide)
      have kst : ({ e with units := e.units ++ [s] } : Em.St).state = e.state := rfl
      rw [kst] at k0
      clear ha kst
      by_cases h1 : e.state = 1
      · rw [h1] at k0
        have H1 : Hid (e.state = 1) := h1
        clear h1
        have HE2 : Hid (Mv (Rn R) w ((w'.setCell ⟨R, 7, none⟩ (.slice a' (e.units.length + 1) cap')).setCell ⟨R, 1, none⟩ (.int .i64 2)) lab ({ e with units := e.units ++ [s], state := 2 })) := HE1.out.trans fun _ hx => hx.setState 2
        go_wp2_with fail
        refine (HE2.out.call fun lab1 h1 => rtell_any R lab1 _ 8 ByteArray.empty _ h1 (by show e.out.length ≤ _; omega)).mono ?_
        rintro r w3 ⟨rfl, hm⟩
        have HE3 : Hid (Mv (Rn R) w w3 lab (Em.tell { e with units := e.units ++ [s], state := 2 } 8 ByteArray.empty)) := hm
        clear HE2 hm
        go_wp2
        go_ret
        exact ⟨rfl, by rw [HX.out, if_pos H1.out]; exact HE3.out⟩
      · have H1 : Hid (¬ e.state = 1) := h1
        have n1 : (e.state == 1) = false := by simp; exact h1
        clear h1
        go_wp2
        go_ret
        exact ⟨rfl, by rw [HX.out, if_neg H1.out]; exact HE1.out⟩

set_option maxHeartbeats 2000000 in
theorem rremove_any (R : Nat) (lab : Nat → Nat) (e : Em.St) (w : World) (h : Rn R w lab e) (ok : Em.Ok e) :
    Calls Tryz.prog 31 #[.pointer (some ⟨R, 0, none⟩)] w fun r w' => r = .returned (.int .i64 (Em.remove e).2) ∧ Mv (Rn R) w w' lab (Em.remove e).1 := by
  have s0 := ok.s0
  have s1 := ok.s1
  have hok0 : Em.Ok { e with out := [] } := ok.fresh []
  have HE0 : Hid (Mv (Rn R) w (w.setCell ⟨R, 9, none⟩ (.slice none 0 0)) lab { e with out := [] }) := h.fresh
  have c1 := h.cs.c1
  have g9 := h.cs.f 9 (by decide)
  obtain ⟨a9, cap9, c9, -, -⟩ := h.ot
  have hlt := h.cs.lt
  clear h ok
  obtain ⟨most, st, tei, tr, asked, t2, t3, us, fl, out⟩ := e
  replace c1 : w.cell? ⟨R, 1, none⟩ = some (.int .i64 st) := c1
  replace s0 : 1 ≤ st := s0
  replace s1 : st ≤ 8 := s1
  clear hok0
  rcases (show st = 1 ∨ st = 2 ∨ st = 3 ∨ st = 4 ∨ st = 5 ∨ st = 6 ∨ st = 7 ∨ st = 8 by omega) with rfl | rfl | rfl | rfl | rfl | rfl | rfl | rfl
  · skip
    have hres : Em.remove (⟨most, 1, tei, tr, asked, t2, t3, us, fl, out⟩ : Em.St) = ((⟨most, 1, tei, tr, asked, t2, t3, us, fl, []⟩ : Em.St), 11) := by first | rfl | (unfold Em.remove; simp)
    rw [hres]
    clear hres s0 s1
    replace HE0 : Hid (Mv (Rn R) w (w.setCell ⟨R, 9, none⟩ (.slice none 0 0)) lab (⟨most, 1, tei, tr, asked, t2, t3, us, fl, []⟩ : Em.St)) := HE0
    go_enter Tryz.func31, Tryz.ntmps31
    go_wp2
    go_ret
    exact ⟨rfl, HE0.out⟩
  · skip
    have hres : Em.remove (⟨most, 2, tei, tr, asked, t2, t3, us, fl, out⟩ : Em.St) = ({ Em.end' (⟨most, 2, tei, tr, asked, t2, t3, us, fl, []⟩ : Em.St) with units := [], tei := -1, state := 1 }, 0) := by first | rfl | (unfold Em.remove; simp)
    rw [hres]
    clear hres s0 s1
    replace HE0 : Hid (Mv (Rn R) w (w.setCell ⟨R, 9, none⟩ (.slice none 0 0)) lab (⟨most, 2, tei, tr, asked, t2, t3, us, fl, []⟩ : Em.St)) := HE0
    go_enter Tryz.func31, Tryz.ntmps31
    go_wp2_with fail
    refine (HE0.out.call fun lab1 h1 => rend_any R lab1 _ _ h1 (by show 0 ≤ _; omega)).mono ?_
    rintro r w1 ⟨rfl, hm⟩
    have HE1 : Hid (Mv (Rn R) w w1 lab (Em.end' (⟨most, 2, tei, tr, asked, t2, t3, us, fl, []⟩ : Em.St))) := hm
    clear HE0 hm
    clear c1 g9 c9 hlt
    obtain ⟨ua, un, ucap, u7⟩ := rcell7 HE1.out
    have ug7 := (rcells HE1.out).f 7 (by decide)
    have ug2 := (rcells HE1.out).f 2 (by decide)
    have ug1 := (rcells HE1.out).f 1 (by decide)
    have u2 := (rcells HE1.out).c2
    have u1 := (rcells HE1.out).c1
    have ul := (rcells HE1.out).lt
    have HE2 : Hid (Mv (Rn R) w (w1.setCell ⟨R, 7, none⟩ (.slice none 0 0)) lab ({ Em.end' (⟨most, 2, tei, tr, asked, t2, t3, us, fl, []⟩ : Em.St) with units := [] })) := HE1.out.trans fun _ hx => hx.noUnits
    have HE3 : Hid (Mv (Rn R) w ((w1.setCell ⟨R, 7, none⟩ (.slice none 0 0)).setCell ⟨R, 2, none⟩ (.int .i64 (-1))) lab ({ Em.end' (⟨most, 2, tei, tr, asked, t2, t3, us, fl, []⟩ : Em.St) with units := [], tei := -1 })) := HE2.out.trans fun _ hx => hx.setTei (-1)
    have HE4 : Hid (Mv (Rn R) w (((w1.setCell ⟨R, 7, none⟩ (.slice none 0 0)).setCell ⟨R, 2, none⟩ (.int .i64 (-1))).setCell ⟨R, 1, none⟩ (.int .i64 1)) lab ({ Em.end' (⟨most, 2, tei, tr, asked, t2, t3, us, fl, []⟩ : Em.St) with units := [], tei := -1, state := 1 })) := HE3.out.trans fun _ hx => hx.setState 1
    go_wp2
    go_ret
    exact ⟨rfl, HE4.out⟩
  · skip
    have hres : Em.remove (⟨most, 3, tei, tr, asked, t2, t3, us, fl, out⟩ : Em.St) = ({ Em.tell (Em.end' (⟨most, 3, tei, tr, asked, t2, t3, us, fl, []⟩ : Em.St)) 3 ByteArray.empty with units := [], tei := -1, state := 1 }, 0) := by first | rfl | (unfold Em.remove; simp)
    rw [hres]
    clear hres s0 s1
    replace HE0 : Hid (Mv (Rn R) w (w.setCell ⟨R, 9, none⟩ (.slice none 0 0)) lab (⟨most, 3, tei, tr, asked, t2, t3, us, fl, []⟩ : Em.St)) := HE0
    go_enter Tryz.func31, Tryz.ntmps31
    go_wp2_with fail
    refine (HE0.out.call fun lab1 h1 => rend_any R lab1 _ _ h1 (by show 0 ≤ _; omega)).mono ?_
    rintro r w1 ⟨rfl, hm⟩
    have HE1 : Hid (Mv (Rn R) w w1 lab (Em.end' (⟨most, 3, tei, tr, asked, t2, t3, us, fl, []⟩ : Em.St))) := hm
    clear HE0 hm
    clear c1 g9 c9 hlt
    have hl1 : (Em.end' (⟨most, 3, tei, tr, asked, t2, t3, us, fl, []⟩ : Em.St)).out.length ≤ 0 + 2 := Em.len_end (⟨most, 3, tei, tr, asked, t2, t3, us, fl, []⟩ : Em.St)
    go_wp2_with fail
    refine (HE1.out.call fun lab1 h1 => rtell_any R lab1 _ 3 ByteArray.empty _ h1 (by omega)).mono ?_
    rintro r w2 ⟨rfl, hm⟩
    have HE2 : Hid (Mv (Rn R) w w2 lab (Em.tell (Em.end' (⟨most, 3, tei, tr, asked, t2, t3, us, fl, []⟩ : Em.St)) 3 ByteArray.empty)) := hm
    clear HE1 hm
    obtain ⟨ua, un, ucap, u7⟩ := rcell7 HE2.out
    have ug7 := (rcells HE2.out).f 7 (by decide)
    have ug2 := (rcells HE2.out).f 2 (by decide)
    have ug1 := (rcells HE2.out).f 1 (by decide)
    have u2 := (rcells HE2.out).c2
    have u1 := (rcells HE2.out).c1
    have ul := (rcells HE2.out).lt
    have HE3 : Hid (Mv (Rn R) w (w2.setCell ⟨R, 7, none⟩ (.slice none 0 0)) lab ({ Em.tell (Em.end' (⟨most, 3, tei, tr, asked, t2, t3, us, fl, []⟩ : Em.St)) 3 ByteArray.empty with units := [] })) := HE2.out.trans fun _ hx => hx.noUnits
    have HE4 : Hid (Mv (Rn R) w ((w2.setCell ⟨R, 7, none⟩ (.slice none 0 0)).setCell ⟨R, 2, none⟩ (.int .i64 (-1))) lab ({ Em.tell (Em.end' (⟨most, 3, tei, tr, asked, t2, t3, us, fl, []⟩ : Em.St)) 3 ByteArray.empty with units := [], tei := -1 })) := HE3.out.trans fun _ hx => hx.setTei (-1)
    have HE5 : Hid (Mv (Rn R) w (((w2.setCell ⟨R, 7, none⟩ (.slice none 0 0)).setCell ⟨R, 2, none⟩ (.int .i64 (-1))).setCell ⟨R, 1, none⟩ (.int .i64 1)) lab ({ Em.tell (Em.end' (⟨most, 3, tei, tr, asked, t2, t3, us, fl, []⟩ : Em.St)) 3 ByteArray.empty with units := [], tei := -1, state := 1 })) := HE4.out.trans fun _ hx => hx.setState 1
    go_wp2
    go_ret
    exact ⟨rfl, HE5.out⟩
  · skip
    have hres : Em.remove (⟨most, 4, tei, tr, asked, t2, t3, us, fl, out⟩ : Em.St) = ({ Em.end' (⟨most, 4, tei, tr, asked, t2, t3, us, fl, []⟩ : Em.St) with units := [], tei := -1, state := 1 }, 0) := by first | rfl | (unfold Em.remove; simp)
    rw [hres]
    clear hres s0 s1
    replace HE0 : Hid (Mv (Rn R) w (w.setCell ⟨R, 9, none⟩ (.slice none 0 0)) lab (⟨most, 4, tei, tr, asked, t2, t3, us, fl, []⟩ : Em.St)) := HE0
    go_enter Tryz.func31, Tryz.ntmps31
    go_wp2_with fail
    refine (HE0.out.call fun lab1 h1 => rend_any R lab1 _ _ h1 (by show 0 ≤ _; omega)).mono ?_
    rintro r w1 ⟨rfl, hm⟩
    have HE1 : Hid (Mv (Rn R) w w1 lab (Em.end' (⟨most, 4, tei, tr, asked, t2, t3, us, fl, []⟩ : Em.St))) := hm
    clear HE0 hm
    clear c1 g9 c9 hlt
    obtain ⟨ua, un, ucap, u7⟩ := rcell7 HE1.out
    have ug7 := (rcells HE1.out).f 7 (by decide)
    have ug2 := (rcells HE1.out).f 2 (by decide)
    have ug1 := (rcells HE1.out).f 1 (by decide)
    have u2 := (rcells HE1.out).c2
    have u1 := (rcells HE1.out).c1
    have ul := (rcells HE1.out).lt
    have HE2 : Hid (Mv (Rn R) w (w1.setCell ⟨R, 7, none⟩ (.slice none 0 0)) lab ({ Em.end' (⟨most, 4, tei, tr, asked, t2, t3, us, fl, []⟩ : Em.St) with units := [] })) := HE1.out.trans fun _ hx => hx.noUnits
    have HE3 : Hid (Mv (Rn R) w ((w1.setCell ⟨R, 7, none⟩ (.slice none 0 0)).setCell ⟨R, 2, none⟩ (.int .i64 (-1))) lab ({ Em.end' (⟨most, 4, tei, tr, asked, t2, t3, us, fl, []⟩ : Em.St) with units := [], tei := -1 })) := HE2.out.trans fun _ hx => hx.setTei (-1)
    have HE4 : Hid (Mv (Rn R) w (((w1.setCell ⟨R, 7, none⟩ (.slice none 0 0)).setCell ⟨R, 2, none⟩ (.int .i64 (-1))).setCell ⟨R, 1, none⟩ (.int .i64 1)) lab ({ Em.end' (⟨most, 4, tei, tr, asked, t2, t3, us, fl, []⟩ : Em.St) with units := [], tei := -1, state := 1 })) := HE3.out.trans fun _ hx => hx.setState 1
    go_wp2
    go_ret
    exact ⟨rfl, HE4.out⟩
  · skip
    have hres : Em.remove (⟨most, 5, tei, tr, asked, t2, t3, us, fl, out⟩ : Em.St) = ({ Em.tell (Em.end' (⟨most, 5, tei, tr, asked, t2, t3, us, fl, []⟩ : Em.St)) 3 ByteArray.empty with units := [], tei := -1, state := 1 }, 0) := by first | rfl | (unfold Em.remove; simp)
    rw [hres]
    clear hres s0 s1
    replace HE0 : Hid (Mv (Rn R) w (w.setCell ⟨R, 9, none⟩ (.slice none 0 0)) lab (⟨most, 5, tei, tr, asked, t2, t3, us, fl, []⟩ : Em.St)) := HE0
    go_enter Tryz.func31, Tryz.ntmps31
    go_wp2_with fail
    refine (HE0.out.call fun lab1 h1 => rend_any R lab1 _ _ h1 (by show 0 ≤ _; omega)).mono ?_
    rintro r w1 ⟨rfl, hm⟩
    have HE1 : Hid (Mv (Rn R) w w1 lab (Em.end' (⟨most, 5, tei, tr, asked, t2, t3, us, fl, []⟩ : Em.St))) := hm
    clear HE0 hm
    clear c1 g9 c9 hlt
    have hl1 : (Em.end' (⟨most, 5, tei, tr, asked, t2, t3, us, fl, []⟩ : Em.St)).out.length ≤ 0 + 2 := Em.len_end (⟨most, 5, tei, tr, asked, t2, t3, us, fl, []⟩ : Em.St)
    go_wp2_with fail
    refine (HE1.out.call fun lab1 h1 => rtell_any R lab1 _ 3 ByteArray.empty _ h1 (by omega)).mono ?_
    rintro r w2 ⟨rfl, hm⟩
    have HE2 : Hid (Mv (Rn R) w w2 lab (Em.tell (Em.end' (⟨most, 5, tei, tr, asked, t2, t3, us, fl, []⟩ : Em.St)) 3 ByteArray.empty)) := hm
    clear HE1 hm
    obtain ⟨ua, un, ucap, u7⟩ := rcell7 HE2.out
    have ug7 := (rcells HE2.out).f 7 (by decide)
    have ug2 := (rcells HE2.out).f 2 (by decide)
    have ug1 := (rcells HE2.out).f 1 (by decide)
    have u2 := (rcells HE2.out).c2
    have u1 := (rcells HE2.out).c1
    have ul := (rcells HE2.out).lt
    have HE3 : Hid (Mv (Rn R) w (w2.setCell ⟨R, 7, none⟩ (.slice none 0 0)) lab ({ Em.tell (Em.end' (⟨most, 5, tei, tr, asked, t2, t3, us, fl, []⟩ : Em.St)) 3 ByteArray.empty with units := [] })) := HE2.out.trans fun _ hx => hx.noUnits
    have HE4 : Hid (Mv (Rn R) w ((w2.setCell ⟨R, 7, none⟩ (.slice none 0 0)).setCell ⟨R, 2, none⟩ (.int .i64 (-1))) lab ({ Em.tell (Em.end' (⟨most, 5, tei, tr, asked, t2, t3, us, fl, []⟩ : Em.St)) 3 ByteArray.empty with units := [], tei := -1 })) := HE3.out.trans fun _ hx => hx.setTei (-1)
    have HE5 : Hid (Mv (Rn R) w (((w2.setCell ⟨R, 7, none⟩ (.slice none 0 0)).setCell ⟨R, 2, none⟩ (.int .i64 (-1))).setCell ⟨R, 1, none⟩ (.int .i64 1)) lab ({ Em.tell (Em.end' (⟨most, 5, tei, tr, asked, t2, t3, us, fl, []⟩ : Em.St)) 3 ByteArray.empty with units := [], tei := -1, state := 1 })) := HE4.out.trans fun _ hx => hx.setState 1
    go_wp2
    go_ret
    exact ⟨rfl, HE5.out⟩
  · skip
    have hres : Em.remove (⟨most, 6, tei, tr, asked, t2, t3, us, fl, out⟩ : Em.St) = ({ Em.tell (Em.end' (⟨most, 6, tei, tr, asked, t2, t3, us, fl, []⟩ : Em.St)) 4 ByteArray.empty with units := [], tei := -1, state := 1 }, 0) := by first | rfl | (unfold Em.remove; simp)
    rw [hres]
    clear hres s0 s1
    replace HE0 : Hid (Mv (Rn R) w (w.setCell ⟨R, 9, none⟩ (.slice none 0 0)) lab (⟨most, 6, tei, tr, asked, t2, t3, us, fl, []⟩ : Em.St)) := HE0
    go_enter Tryz.func31, Tryz.ntmps31
    go_wp2_with fail
    refine (HE0.out.call fun lab1 h1 => rend_any R lab1 _ _ h1 (by show 0 ≤ _; omega)).mono ?_
    rintro r w1 ⟨rfl, hm⟩
    have HE1 : Hid (Mv (Rn R) w w1 lab (Em.end' (⟨most, 6, tei, tr, asked, t2, t3, us, fl, []⟩ : Em.St))) := hm
    clear HE0 hm
    clear c1 g9 c9 hlt
    have hl1 : (Em.end' (⟨most, 6, tei, tr, asked, t2, t3, us, fl, []⟩ : Em.St)).out.length ≤ 0 + 2 := Em.len_end (⟨most, 6, tei, tr, asked, t2, t3, us, fl, []⟩ : Em.St)
    go_wp2_with fail
    refine (HE1.out.call fun lab1 h1 => rtell_any R lab1 _ 4 ByteArray.empty _ h1 (by omega)).mono ?_
    rintro r w2 ⟨rfl, hm⟩
    have HE2 : Hid (Mv (Rn R) w w2 lab (Em.tell (Em.end' (⟨most, 6, tei, tr, asked, t2, t3, us, fl, []⟩ : Em.St)) 4 ByteArray.empty)) := hm
    clear HE1 hm
    obtain ⟨ua, un, ucap, u7⟩ := rcell7 HE2.out
    have ug7 := (rcells HE2.out).f 7 (by decide)
    have ug2 := (rcells HE2.out).f 2 (by decide)
    have ug1 := (rcells HE2.out).f 1 (by decide)
    have u2 := (rcells HE2.out).c2
    have u1 := (rcells HE2.out).c1
    have ul := (rcells HE2.out).lt
    have HE3 : Hid (Mv (Rn R) w (w2.setCell ⟨R, 7, none⟩ (.slice none 0 0)) lab ({ Em.tell (Em.end' (⟨most, 6, tei, tr, asked, t2, t3, us, fl, []⟩ : Em.St)) 4 ByteArray.empty with units := [] })) := HE2.out.trans fun _ hx => hx.noUnits
    have HE4 : Hid (Mv (Rn R) w ((w2.setCell ⟨R, 7, none⟩ (.slice none 0 0)).setCell ⟨R, 2, none⟩ (.int .i64 (-1))) lab ({ Em.tell (Em.end' (⟨most, 6, tei, tr, asked, t2, t3, us, fl, []⟩ : Em.St)) 4 ByteArray.empty with units := [], tei := -1 })) := HE3.out.trans fun _ hx => hx.setTei (-1)
    have HE5 : Hid (Mv (Rn R) w (((w2.setCell ⟨R, 7, none⟩ (.slice none 0 0)).setCell ⟨R, 2, none⟩ (.int .i64 (-1))).setCell ⟨R, 1, none⟩ (.int .i64 1)) lab ({ Em.tell (Em.end' (⟨most, 6, tei, tr, asked, t2, t3, us, fl, []⟩ : Em.St)) 4 ByteArray.empty with units := [], tei := -1, state := 1 })) := HE4.out.trans fun _ hx => hx.setState 1
    go_wp2
    go_ret
    exact ⟨rfl, HE5.out⟩
  · skip
    have hres : Em.remove (⟨most, 7, tei, tr, asked, t2, t3, us, fl, out⟩ : Em.St) = ({ Em.tell (Em.end' (⟨most, 7, tei, tr, asked, t2, t3, us, fl, []⟩ : Em.St)) 3 ByteArray.empty with units := [], tei := -1, state := 1 }, 0) := by first | rfl | (unfold Em.remove; simp)
    rw [hres]
    clear hres s0 s1
    replace HE0 : Hid (Mv (Rn R) w (w.setCell ⟨R, 9, none⟩ (.slice none 0 0)) lab (⟨most, 7, tei, tr, asked, t2, t3, us, fl, []⟩ : Em.St)) := HE0
    go_enter Tryz.func31, Tryz.ntmps31
    go_wp2_with fail
    refine (HE0.out.call fun lab1 h1 => rend_any R lab1 _ _ h1 (by show 0 ≤ _; omega)).mono ?_
    rintro r w1 ⟨rfl, hm⟩
    have HE1 : Hid (Mv (Rn R) w w1 lab (Em.end' (⟨most, 7, tei, tr, asked, t2, t3, us, fl, []⟩ : Em.St))) := hm
    clear HE0 hm
    clear c1 g9 c9 hlt
    have hl1 : (Em.end' (⟨most, 7, tei, tr, asked, t2, t3, us, fl, []⟩ : Em.St)).out.length ≤ 0 + 2 := Em.len_end (⟨most, 7, tei, tr, asked, t2, t3, us, fl, []⟩ : Em.St)
    go_wp2_with fail
    refine (HE1.out.call fun lab1 h1 => rtell_any R lab1 _ 3 ByteArray.empty _ h1 (by omega)).mono ?_
    rintro r w2 ⟨rfl, hm⟩
    have HE2 : Hid (Mv (Rn R) w w2 lab (Em.tell (Em.end' (⟨most, 7, tei, tr, asked, t2, t3, us, fl, []⟩ : Em.St)) 3 ByteArray.empty)) := hm
    clear HE1 hm
    obtain ⟨ua, un, ucap, u7⟩ := rcell7 HE2.out
    have ug7 := (rcells HE2.out).f 7 (by decide)
    have ug2 := (rcells HE2.out).f 2 (by decide)
    have ug1 := (rcells HE2.out).f 1 (by decide)
    have u2 := (rcells HE2.out).c2
    have u1 := (rcells HE2.out).c1
    have ul := (rcells HE2.out).lt
    have HE3 : Hid (Mv (Rn R) w (w2.setCell ⟨R, 7, none⟩ (.slice none 0 0)) lab ({ Em.tell (Em.end' (⟨most, 7, tei, tr, asked, t2, t3, us, fl, []⟩ : Em.St)) 3 ByteArray.empty with units := [] })) := HE2.out.trans fun _ hx => hx.noUnits
    have HE4 : Hid (Mv (Rn R) w ((w2.setCell ⟨R, 7, none⟩ (.slice none 0 0)).setCell ⟨R, 2, none⟩ (.int .i64 (-1))) lab ({ Em.tell (Em.end' (⟨most, 7, tei, tr, asked, t2, t3, us, fl, []⟩ : Em.St)) 3 ByteArray.empty with units := [], tei := -1 })) := HE3.out.trans fun _ hx => hx.setTei (-1)
    have HE5 : Hid (Mv (Rn R) w (((w2.setCell ⟨R, 7, none⟩ (.slice none 0 0)).setCell ⟨R, 2, none⟩ (.int .i64 (-1))).setCell ⟨R, 1, none⟩ (.int .i64 1)) lab ({ Em.tell (Em.end' (⟨most, 7, tei, tr, asked, t2, t3, us, fl, []⟩ : Em.St)) 3 ByteArray.empty with units := [], tei := -1, state := 1 })) := HE4.out.trans fun _ hx => hx.setState 1
    go_wp2
    go_ret
    exact ⟨rfl, HE5.out⟩
  · skip
    have hres : Em.remove (⟨most, 8, tei, tr, asked, t2, t3, us, fl, out⟩ : Em.St) = ({ Em.tell (Em.end' (⟨most, 8, tei, tr, asked, t2, t3, us, fl, []⟩ : Em.St)) 3 ByteArray.empty with units := [], tei := -1, state := 1 }, 0) := by first | rfl | (unfold Em.remove; simp)
    rw [hres]
    clear hres s0 s1
    replace HE0 : Hid (Mv (Rn R) w (w.setCell ⟨R, 9, none⟩ (.slice none 0 0)) lab (⟨most, 8, tei, tr, asked, t2, t3, us, fl, []⟩ : Em.St)) := HE0
    go_enter Tryz.func31, Tryz.ntmps31
    go_wp2_with fail
    refine (HE0.out.call fun lab1 h1 => rend_any R lab1 _ _ h1 (by show 0 ≤ _; omega)).mono ?_
    rintro r w1 ⟨rfl, hm⟩
    have HE1 : Hid (Mv (Rn R) w w1 lab (Em.end' (⟨most, 8, tei, tr, asked, t2, t3, us, fl, []⟩ : Em.St))) := hm
    clear HE0 hm
    clear c1 g9 c9 hlt
    have hl1 : (Em.end' (⟨most, 8, tei, tr, asked, t2, t3, us, fl, []⟩ : Em.St)).out.length ≤ 0 + 2 := Em.len_end (⟨most, 8, tei, tr, asked, t2, t3, us, fl, []⟩ : Em.St)
    go_wp2_with fail
    refine (HE1.out.call fun lab1 h1 => rtell_any R lab1 _ 3 ByteArray.empty _ h1 (by omega)).mono ?_
    rintro r w2 ⟨rfl, hm⟩
    have HE2 : Hid (Mv (Rn R) w w2 lab (Em.tell (Em.end' (⟨most, 8, tei, tr, asked, t2, t3, us, fl, []⟩ : Em.St)) 3 ByteArray.empty)) := hm
    clear HE1 hm
    obtain ⟨ua, un, ucap, u7⟩ := rcell7 HE2.out
    have ug7 := (rcells HE2.out).f 7 (by decide)
    have ug2 := (rcells HE2.out).f 2 (by decide)
    have ug1 := (rcells HE2.out).f 1 (by decide)
    have u2 := (rcells HE2.out).c2
    have u1 := (rcells HE2.out).c1
    have ul := (rcells HE2.out).lt
    have HE3 : Hid (Mv (Rn R) w (w2.setCell ⟨R, 7, none⟩ (.slice none 0 0)) lab ({ Em.tell (Em.end' (⟨most, 8, tei, tr, asked, t2, t3, us, fl, []⟩ : Em.St)) 3 ByteArray.empty with units := [] })) := HE2.out.trans fun _ hx => hx.noUnits
    have HE4 : Hid (Mv (Rn R) w ((w2.setCell ⟨R, 7, none⟩ (.slice none 0 0)).setCell ⟨R, 2, none⟩ (.int .i64 (-1))) lab ({ Em.tell (Em.end' (⟨most, 8, tei, tr, asked, t2, t3, us, fl, []⟩ : Em.St)) 3 ByteArray.empty with units := [], tei := -1 })) := HE3.out.trans fun _ hx => hx.setTei (-1)
    have HE5 : Hid (Mv (Rn R) w (((w2.setCell ⟨R, 7, none⟩ (.slice none 0 0)).setCell ⟨R, 2, none⟩ (.int .i64 (-1))).setCell ⟨R, 1, none⟩ (.int .i64 1)) lab ({ Em.tell (Em.end' (⟨most, 8, tei, tr, asked, t2, t3, us, fl, []⟩ : Em.St)) 3 ByteArray.empty with units := [], tei := -1, state := 1 })) := HE4.out.trans fun _ hx => hx.setState 1
    go_wp2
    go_ret
    exact ⟨rfl, HE5.out⟩

set_option maxHeartbeats 2000000 in
theorem rask_any (R : Nat) (lab : Nat → Nat) (e : Em.St) (a : Int) (s : ByteArray) (w : World) (h : Rn R w lab e) (ok : Em.Ok e) (hz : s.size ≤ 9223372036854775807) :
    Calls Tryz.prog 27 #[.pointer (some ⟨R, 0, none⟩), .int .i64 a, .string s] w fun r w' => r = .returned (.int .i64 (Em.ask e a s).2) ∧ Mv (Rn R) w w' lab (Em.ask e a s).1 := by
  have s0 := ok.s0
  have s1 := ok.s1
  have hok0 : Em.Ok { e with out := [] } := ok.fresh []
  have HE0 : Hid (Mv (Rn R) w (w.setCell ⟨R, 9, none⟩ (.slice none 0 0)) lab { e with out := [] }) := h.fresh
  have c1 := h.cs.c1
  have g9 := h.cs.f 9 (by decide)
  obtain ⟨a9, cap9, c9, -, -⟩ := h.ot
  have hlt := h.cs.lt
  clear h ok
  obtain ⟨most, st, tei, tr, asked, t2, t3, us, fl, out⟩ := e
  replace c1 : w.cell? ⟨R, 1, none⟩ = some (.int .i64 st) := c1
  replace s0 : 1 ≤ st := s0
  replace s1 : st ≤ 8 := s1
  rcases (show a = 0 ∨ a = 1 ∨ a = 2 ∨ a = 3 ∨ a = 4 ∨ a = 5 ∨ (a < 0 ∨ 5 < a) by omega) with rfl | rfl | rfl | rfl | rfl | rfl | hbad
  · skip
    have hres : Em.ask (⟨most, st, tei, tr, asked, t2, t3, us, fl, out⟩ : Em.St) 0 s = Em.establish (⟨most, st, tei, tr, asked, t2, t3, us, fl, []⟩ : Em.St) := by first | rfl | (unfold Em.ask; simp)
    rw [hres]
    clear hres
    replace HE0 : Hid (Mv (Rn R) w (w.setCell ⟨R, 9, none⟩ (.slice none 0 0)) lab (⟨most, st, tei, tr, asked, t2, t3, us, fl, []⟩ : Em.St)) := HE0
    have HK : Hid (Em.Ok (⟨most, st, tei, tr, asked, t2, t3, us, fl, []⟩ : Em.St)) := hok0
    have HZ : Hid (s.size ≤ 9223372036854775807) := hz
    clear hok0 hz s0 s1
    have HC : Hid (∀ lab1 w1, Rn R w1 lab1 (⟨most, st, tei, tr, asked, t2, t3, us, fl, []⟩ : Em.St) → Calls Tryz.prog 53 #[.pointer (some ⟨R, 0, none⟩)] w1 fun r w' => r = .returned (.int .i64 (Em.establish (⟨most, st, tei, tr, asked, t2, t3, us, fl, []⟩ : Em.St)).2) ∧ Mv (Rn R) w1 w' lab1 (Em.establish (⟨most, st, tei, tr, asked, t2, t3, us, fl, []⟩ : Em.St)).1) := fun lab1 w1 h1 => restablish_any R lab1 _  w1 h1 (by show 0 ≤ _; omega) HK.out
    generalize Em.establish (⟨most, st, tei, tr, asked, t2, t3, us, fl, []⟩ : Em.St) = X at HC ⊢
    clear HK
    go_enter Tryz.func27, Tryz.ntmps27
    go_wp2_with fail
    refine (HE0.out.call fun lab1 h1 => HC.out lab1 _ h1).mono ?_
    rintro r w1 ⟨rfl, hm⟩
    have HE1 : Hid (Mv (Rn R) w w1 lab X.1) := hm
    clear hm HE0 HC
    go_wp2
    go_ret
    exact ⟨rfl, HE1.out⟩
  · skip
    have hres : Em.ask (⟨most, st, tei, tr, asked, t2, t3, us, fl, out⟩ : Em.St) 1 s = Em.release (⟨most, st, tei, tr, asked, t2, t3, us, fl, []⟩ : Em.St) := by first | rfl | (unfold Em.ask; simp)
    rw [hres]
    clear hres
    replace HE0 : Hid (Mv (Rn R) w (w.setCell ⟨R, 9, none⟩ (.slice none 0 0)) lab (⟨most, st, tei, tr, asked, t2, t3, us, fl, []⟩ : Em.St)) := HE0
    have HK : Hid (Em.Ok (⟨most, st, tei, tr, asked, t2, t3, us, fl, []⟩ : Em.St)) := hok0
    have HZ : Hid (s.size ≤ 9223372036854775807) := hz
    clear hok0 hz s0 s1
    have HC : Hid (∀ lab1 w1, Rn R w1 lab1 (⟨most, st, tei, tr, asked, t2, t3, us, fl, []⟩ : Em.St) → Calls Tryz.prog 54 #[.pointer (some ⟨R, 0, none⟩)] w1 fun r w' => r = .returned (.int .i64 (Em.release (⟨most, st, tei, tr, asked, t2, t3, us, fl, []⟩ : Em.St)).2) ∧ Mv (Rn R) w1 w' lab1 (Em.release (⟨most, st, tei, tr, asked, t2, t3, us, fl, []⟩ : Em.St)).1) := fun lab1 w1 h1 => rrelease_any R lab1 _  w1 h1 (by show 0 ≤ _; omega) HK.out
    generalize Em.release (⟨most, st, tei, tr, asked, t2, t3, us, fl, []⟩ : Em.St) = X at HC ⊢
    clear HK
    go_enter Tryz.func27, Tryz.ntmps27
    go_wp2_with fail
    refine (HE0.out.call fun lab1 h1 => HC.out lab1 _ h1).mono ?_
    rintro r w1 ⟨rfl, hm⟩
    have HE1 : Hid (Mv (Rn R) w w1 lab X.1) := hm
    clear hm HE0 HC
    go_wp2
    go_ret
    exact ⟨rfl, HE1.out⟩
  · by_cases hs : 260 < s.size
    · have hd : decide ((s.size : Int) > 260) = true := by simp; omega
      have hres : Em.ask (⟨most, st, tei, tr, asked, t2, t3, us, fl, out⟩ : Em.St) 2 s = ((⟨most, st, tei, tr, asked, t2, t3, us, fl, []⟩ : Em.St), 5) := by unfold Em.ask; simp [hs]
      rw [hres]
      clear hres hok0 hz s0 s1 hs
      replace HE0 : Hid (Mv (Rn R) w (w.setCell ⟨R, 9, none⟩ (.slice none 0 0)) lab (⟨most, st, tei, tr, asked, t2, t3, us, fl, []⟩ : Em.St)) := HE0
      go_enter Tryz.func27, Tryz.ntmps27
      go_wp2
      go_ret
      exact ⟨rfl, HE0.out⟩
    · have hd : decide ((s.size : Int) > 260) = false := by simp; omega
      have hres : Em.ask (⟨most, st, tei, tr, asked, t2, t3, us, fl, out⟩ : Em.St) 2 s = Em.data (⟨most, st, tei, tr, asked, t2, t3, us, fl, []⟩ : Em.St) s := by first | rfl | (unfold Em.ask; simp [hs])
      rw [hres]
      clear hres
      replace HE0 : Hid (Mv (Rn R) w (w.setCell ⟨R, 9, none⟩ (.slice none 0 0)) lab (⟨most, st, tei, tr, asked, t2, t3, us, fl, []⟩ : Em.St)) := HE0
      have HK : Hid (Em.Ok (⟨most, st, tei, tr, asked, t2, t3, us, fl, []⟩ : Em.St)) := hok0
      have HZ : Hid (s.size ≤ 9223372036854775807) := hz
      clear hok0 hz s0 s1 hs
      have HC : Hid (∀ lab1 w1, Rn R w1 lab1 (⟨most, st, tei, tr, asked, t2, t3, us, fl, []⟩ : Em.St) → Calls Tryz.prog 55 #[.pointer (some ⟨R, 0, none⟩), .string s] w1 fun r w' => r = .returned (.int .i64 (Em.data (⟨most, st, tei, tr, asked, t2, t3, us, fl, []⟩ : Em.St) s).2) ∧ Mv (Rn R) w1 w' lab1 (Em.data (⟨most, st, tei, tr, asked, t2, t3, us, fl, []⟩ : Em.St) s).1) := fun lab1 w1 h1 => rdata_any R lab1 _ s w1 h1 (by show 0 ≤ _; omega) HK.out HZ.out
      generalize Em.data (⟨most, st, tei, tr, asked, t2, t3, us, fl, []⟩ : Em.St) s = X at HC ⊢
      clear HK
      go_enter Tryz.func27, Tryz.ntmps27
      go_wp2_with fail
      refine (HE0.out.call fun lab1 h1 => HC.out lab1 _ h1).mono ?_
      rintro r w1 ⟨rfl, hm⟩
      have HE1 : Hid (Mv (Rn R) w w1 lab X.1) := hm
      clear hm HE0 HC
      go_wp2
      go_ret
      exact ⟨rfl, HE1.out⟩
  · by_cases hs : 260 < s.size
    · have hd : decide ((s.size : Int) > 260) = true := by simp; omega
      have hres : Em.ask (⟨most, st, tei, tr, asked, t2, t3, us, fl, out⟩ : Em.St) 3 s = ((⟨most, st, tei, tr, asked, t2, t3, us, fl, []⟩ : Em.St), 5) := by unfold Em.ask; simp [hs]
      rw [hres]
      clear hres hok0 hz s0 s1 hs
      replace HE0 : Hid (Mv (Rn R) w (w.setCell ⟨R, 9, none⟩ (.slice none 0 0)) lab (⟨most, st, tei, tr, asked, t2, t3, us, fl, []⟩ : Em.St)) := HE0
      go_enter Tryz.func27, Tryz.ntmps27
      go_wp2
      go_ret
      exact ⟨rfl, HE0.out⟩
    · have hd : decide ((s.size : Int) > 260) = false := by simp; omega
      have hres : Em.ask (⟨most, st, tei, tr, asked, t2, t3, us, fl, out⟩ : Em.St) 3 s = Em.units (⟨most, st, tei, tr, asked, t2, t3, us, fl, []⟩ : Em.St) s := by first | rfl | (unfold Em.ask; simp [hs])
      rw [hres]
      clear hres
      replace HE0 : Hid (Mv (Rn R) w (w.setCell ⟨R, 9, none⟩ (.slice none 0 0)) lab (⟨most, st, tei, tr, asked, t2, t3, us, fl, []⟩ : Em.St)) := HE0
      have HK : Hid (Em.Ok (⟨most, st, tei, tr, asked, t2, t3, us, fl, []⟩ : Em.St)) := hok0
      have HZ : Hid (s.size ≤ 9223372036854775807) := hz
      clear hok0 hz s0 s1 hs
      have HC : Hid (∀ lab1 w1, Rn R w1 lab1 (⟨most, st, tei, tr, asked, t2, t3, us, fl, []⟩ : Em.St) → Calls Tryz.prog 56 #[.pointer (some ⟨R, 0, none⟩), .string s] w1 fun r w' => r = .returned (.int .i64 (Em.units (⟨most, st, tei, tr, asked, t2, t3, us, fl, []⟩ : Em.St) s).2) ∧ Mv (Rn R) w1 w' lab1 (Em.units (⟨most, st, tei, tr, asked, t2, t3, us, fl, []⟩ : Em.St) s).1) := fun lab1 w1 h1 => runits_any R lab1 _ s w1 h1 (by show 0 ≤ _; omega) HK.out
      generalize Em.units (⟨most, st, tei, tr, asked, t2, t3, us, fl, []⟩ : Em.St) s = X at HC ⊢
      clear HK
      go_enter Tryz.func27, Tryz.ntmps27
      go_wp2_with fail
      refine (HE0.out.call fun lab1 h1 => HC.out lab1 _ h1).mono ?_
      rintro r w1 ⟨rfl, hm⟩
      have HE1 : Hid (Mv (Rn R) w w1 lab X.1) := hm
      clear hm HE0 HC
      go_wp2
      go_ret
      exact ⟨rfl, HE1.out⟩
  · rcases (show st = 7 ∨ st = 8 ∨ (¬ st = 7 ∧ ¬ st = 8) by omega) with rfl | rfl | ⟨n7, n8⟩
    · obtain ⟨F, D, H, fc, fR, fF, hFR, ffl, fmv⟩ := rflow_ne HE0.out
      have hRF : ¬ R = F := fun hx => hFR hx.symm
      have c4 := ffl.fr.c4
      have g4 := ffl.fr.f 4 (by decide)
      rw [World.cell?_setCell_other w _ _ _ (fun hx => by injection hx with h1; exact hFR h1.symm)] at c4
      rw [World.frozen?_setCell] at g4
      have c8 : w.cell? ⟨R, 8, none⟩ = some (.pointer (some ⟨F, 0, none⟩)) := by
        have := fc
        rw [cell_oth w R (by decide)] at this
        exact this
      replace c4 : w.cell? ⟨F, 4, none⟩ = some (.bool fl.ow) := c4
      have HE1 : Hid (Mv (Rn R) w ((w.setCell ⟨R, 9, none⟩ (.slice none 0 0)).setCell ⟨F, 4, none⟩ (.bool true)) lab { (⟨most, 7, tei, tr, asked, t2, t3, us, fl, []⟩ : Em.St) with fl := Wm.ownT fl true }) := fmv _ _ (rown_set ffl true)
      have hF : F < w.heap.size := by simpa [World.setCell] using fF
      clear ffl fmv fc fF fR hok0 hz s0 s1
      replace HE0 : Hid (Mv (Rn R) w (w.setCell ⟨R, 9, none⟩ (.slice none 0 0)) lab (⟨most, 7, tei, tr, asked, t2, t3, us, fl, []⟩ : Em.St)) := HE0
      cases ho : fl.ow with
      | true =>
        rw [ho] at c4
        have hres : Em.ask (⟨most, 7, tei, tr, asked, t2, t3, us, fl, out⟩ : Em.St) 4 s = ((⟨most, 7, tei, tr, asked, t2, t3, us, fl, []⟩ : Em.St), 0) := by unfold Em.ask Em.busy; simp [ho]
        rw [hres]
        clear hres ho HE1
        go_enter Tryz.func27, Tryz.ntmps27
        go_wp2
        go_ret
        exact ⟨rfl, HE0.out⟩
      | false =>
        rw [ho] at c4
        have hres : Em.ask (⟨most, 7, tei, tr, asked, t2, t3, us, fl, out⟩ : Em.St) 4 s = (Em.answer { (⟨most, 7, tei, tr, asked, t2, t3, us, fl, []⟩ : Em.St) with fl := Wm.ownT fl true } false false, 0) := by unfold Em.ask Em.busy; simp [ho]
        rw [hres]
        clear hres ho HE0
        go_enter Tryz.func27, Tryz.ntmps27
        go_wp2_with fail
        refine (HE1.out.call fun lab1 h1 => ranswer_any R lab1 _ false false _ h1 (by show 0 ≤ _; omega)).mono ?_
        rintro r w2 ⟨rfl, hm⟩
        have HE2 : Hid (Mv (Rn R) w w2 lab (Em.answer { (⟨most, 7, tei, tr, asked, t2, t3, us, fl, []⟩ : Em.St) with fl := Wm.ownT fl true } false false)) := hm
        clear HE1 hm
        go_wp2
        go_ret
        exact ⟨rfl, HE2.out⟩
    · obtain ⟨F, D, H, fc, fR, fF, hFR, ffl, fmv⟩ := rflow_ne HE0.out
      have hRF : ¬ R = F := fun hx => hFR hx.symm
      have c4 := ffl.fr.c4
      have g4 := ffl.fr.f 4 (by decide)
      rw [World.cell?_setCell_other w _ _ _ (fun hx => by injection hx with h1; exact hFR h1.symm)] at c4
      rw [World.frozen?_setCell] at g4
      have c8 : w.cell? ⟨R, 8, none⟩ = some (.pointer (some ⟨F, 0, none⟩)) := by
        have := fc
        rw [cell_oth w R (by decide)] at this
        exact this
      replace c4 : w.cell? ⟨F, 4, none⟩ = some (.bool fl.ow) := c4
      have HE1 : Hid (Mv (Rn R) w ((w.setCell ⟨R, 9, none⟩ (.slice none 0 0)).setCell ⟨F, 4, none⟩ (.bool true)) lab { (⟨most, 8, tei, tr, asked, t2, t3, us, fl, []⟩ : Em.St) with fl := Wm.ownT fl true }) := fmv _ _ (rown_set ffl true)
      have hF : F < w.heap.size := by simpa [World.setCell] using fF
      clear ffl fmv fc fF fR hok0 hz s0 s1
      replace HE0 : Hid (Mv (Rn R) w (w.setCell ⟨R, 9, none⟩ (.slice none 0 0)) lab (⟨most, 8, tei, tr, asked, t2, t3, us, fl, []⟩ : Em.St)) := HE0
      cases ho : fl.ow with
      | true =>
        rw [ho] at c4
        have hres : Em.ask (⟨most, 8, tei, tr, asked, t2, t3, us, fl, out⟩ : Em.St) 4 s = ((⟨most, 8, tei, tr, asked, t2, t3, us, fl, []⟩ : Em.St), 0) := by unfold Em.ask Em.busy; simp [ho]
        rw [hres]
        clear hres ho HE1
        go_enter Tryz.func27, Tryz.ntmps27
        go_wp2
        go_ret
        exact ⟨rfl, HE0.out⟩
      | false =>
        rw [ho] at c4
        have hres : Em.ask (⟨most, 8, tei, tr, asked, t2, t3, us, fl, out⟩ : Em.St) 4 s = (Em.answer { (⟨most, 8, tei, tr, asked, t2, t3, us, fl, []⟩ : Em.St) with fl := Wm.ownT fl true } false false, 0) := by unfold Em.ask Em.busy; simp [ho]
        rw [hres]
        clear hres ho HE0
        go_enter Tryz.func27, Tryz.ntmps27
        go_wp2_with fail
        refine (HE1.out.call fun lab1 h1 => ranswer_any R lab1 _ false false _ h1 (by show 0 ≤ _; omega)).mono ?_
        rintro r w2 ⟨rfl, hm⟩
        have HE2 : Hid (Mv (Rn R) w w2 lab (Em.answer { (⟨most, 8, tei, tr, asked, t2, t3, us, fl, []⟩ : Em.St) with fl := Wm.ownT fl true } false false)) := hm
        clear HE1 hm
        go_wp2
        go_ret
        exact ⟨rfl, HE2.out⟩
    · have m7 : (st == 7) = false := by simp; exact n7
      have m8 : (st == 8) = false := by simp; exact n8
      have x7 : (st != 7) = true := by simp; exact n7
      have x8 : (st != 8) = true := by simp; exact n8
      have hres : Em.ask (⟨most, st, tei, tr, asked, t2, t3, us, fl, out⟩ : Em.St) 4 s = ((⟨most, st, tei, tr, asked, t2, t3, us, fl, []⟩ : Em.St), 12) := by unfold Em.ask Em.busy; simp [n7, n8]
      rw [hres]
      clear hres hok0 hz s0 s1
      replace HE0 : Hid (Mv (Rn R) w (w.setCell ⟨R, 9, none⟩ (.slice none 0 0)) lab (⟨most, st, tei, tr, asked, t2, t3, us, fl, []⟩ : Em.St)) := HE0
      go_enter Tryz.func27, Tryz.ntmps27
      go_wp2
      go_ret
      exact ⟨rfl, HE0.out⟩
  · rcases (show st = 7 ∨ st = 8 ∨ (¬ st = 7 ∧ ¬ st = 8) by omega) with rfl | rfl | ⟨n7, n8⟩
    · obtain ⟨F, D, H, fc, fR, fF, hFR, ffl, fmv⟩ := rflow_ne HE0.out
      have hRF : ¬ R = F := fun hx => hFR hx.symm
      have c4 := ffl.fr.c4
      have g4 := ffl.fr.f 4 (by decide)
      rw [World.cell?_setCell_other w _ _ _ (fun hx => by injection hx with h1; exact hFR h1.symm)] at c4
      rw [World.frozen?_setCell] at g4
      have c8 : w.cell? ⟨R, 8, none⟩ = some (.pointer (some ⟨F, 0, none⟩)) := by
        have := fc
        rw [cell_oth w R (by decide)] at this
        exact this
      replace c4 : w.cell? ⟨F, 4, none⟩ = some (.bool fl.ow) := c4
      have HE1 : Hid (Mv (Rn R) w ((w.setCell ⟨R, 9, none⟩ (.slice none 0 0)).setCell ⟨F, 4, none⟩ (.bool false)) lab { (⟨most, 7, tei, tr, asked, t2, t3, us, fl, []⟩ : Em.St) with fl := Wm.ownT fl false }) := fmv _ _ (rown_set ffl false)
      have hF : F < w.heap.size := by simpa [World.setCell] using fF
      clear ffl fmv fc fF fR hok0 hz s0 s1
      replace HE0 : Hid (Mv (Rn R) w (w.setCell ⟨R, 9, none⟩ (.slice none 0 0)) lab (⟨most, 7, tei, tr, asked, t2, t3, us, fl, []⟩ : Em.St)) := HE0
      cases ho : fl.ow with
      | false =>
        rw [ho] at c4
        have hres : Em.ask (⟨most, 7, tei, tr, asked, t2, t3, us, fl, out⟩ : Em.St) 5 s = ((⟨most, 7, tei, tr, asked, t2, t3, us, fl, []⟩ : Em.St), 0) := by unfold Em.ask Em.busy; simp [ho]
        rw [hres]
        clear hres ho HE1
        go_enter Tryz.func27, Tryz.ntmps27
        go_wp2
        go_ret
        exact ⟨rfl, HE0.out⟩
      | true =>
        rw [ho] at c4
        have hres : Em.ask (⟨most, 7, tei, tr, asked, t2, t3, us, fl, out⟩ : Em.St) 5 s = (Em.answer { (⟨most, 7, tei, tr, asked, t2, t3, us, fl, []⟩ : Em.St) with fl := Wm.ownT fl false } false false, 0) := by unfold Em.ask Em.busy; simp [ho]
        rw [hres]
        clear hres ho HE0
        go_enter Tryz.func27, Tryz.ntmps27
        go_wp2_with fail
        refine (HE1.out.call fun lab1 h1 => ranswer_any R lab1 _ false false _ h1 (by show 0 ≤ _; omega)).mono ?_
        rintro r w2 ⟨rfl, hm⟩
        have HE2 : Hid (Mv (Rn R) w w2 lab (Em.answer { (⟨most, 7, tei, tr, asked, t2, t3, us, fl, []⟩ : Em.St) with fl := Wm.ownT fl false } false false)) := hm
        clear HE1 hm
        go_wp2
        go_ret
        exact ⟨rfl, HE2.out⟩
    · obtain ⟨F, D, H, fc, fR, fF, hFR, ffl, fmv⟩ := rflow_ne HE0.out
      have hRF : ¬ R = F := fun hx => hFR hx.symm
      have c4 := ffl.fr.c4
      have g4 := ffl.fr.f 4 (by decide)
      rw [World.cell?_setCell_other w _ _ _ (fun hx => by injection hx with h1; exact hFR h1.symm)] at c4
      rw [World.frozen?_setCell] at g4
      have c8 : w.cell? ⟨R, 8, none⟩ = some (.pointer (some ⟨F, 0, none⟩)) := by
        have := fc
        rw [cell_oth w R (by decide)] at this
        exact this
      replace c4 : w.cell? ⟨F, 4, none⟩ = some (.bool fl.ow) := c4
      have HE1 : Hid (Mv (Rn R) w ((w.setCell ⟨R, 9, none⟩ (.slice none 0 0)).setCell ⟨F, 4, none⟩ (.bool false)) lab { (⟨most, 8, tei, tr, asked, t2, t3, us, fl, []⟩ : Em.St) with fl := Wm.ownT fl false }) := fmv _ _ (rown_set ffl false)
      have hF : F < w.heap.size := by simpa [World.setCell] using fF
      clear ffl fmv fc fF fR hok0 hz s0 s1
      replace HE0 : Hid (Mv (Rn R) w (w.setCell ⟨R, 9, none⟩ (.slice none 0 0)) lab (⟨most, 8, tei, tr, asked, t2, t3, us, fl, []⟩ : Em.St)) := HE0
      cases ho : fl.ow with
      | false =>
        rw [ho] at c4
        have hres : Em.ask (⟨most, 8, tei, tr, asked, t2, t3, us, fl, out⟩ : Em.St) 5 s = ((⟨most, 8, tei, tr, asked, t2, t3, us, fl, []⟩ : Em.St), 0) := by unfold Em.ask Em.busy; simp [ho]
        rw [hres]
        clear hres ho HE1
        go_enter Tryz.func27, Tryz.ntmps27
        go_wp2
        go_ret
        exact ⟨rfl, HE0.out⟩
      | true =>
        rw [ho] at c4
        have hres : Em.ask (⟨most, 8, tei, tr, asked, t2, t3, us, fl, out⟩ : Em.St) 5 s = (Em.answer { (⟨most, 8, tei, tr, asked, t2, t3, us, fl, []⟩ : Em.St) with fl := Wm.ownT fl false } false false, 0) := by unfold Em.ask Em.busy; simp [ho]
        rw [hres]
        clear hres ho HE0
        go_enter Tryz.func27, Tryz.ntmps27
        go_wp2_with fail
        refine (HE1.out.call fun lab1 h1 => ranswer_any R lab1 _ false false _ h1 (by show 0 ≤ _; omega)).mono ?_
        rintro r w2 ⟨rfl, hm⟩
        have HE2 : Hid (Mv (Rn R) w w2 lab (Em.answer { (⟨most, 8, tei, tr, asked, t2, t3, us, fl, []⟩ : Em.St) with fl := Wm.ownT fl false } false false)) := hm
        clear HE1 hm
        go_wp2
        go_ret
        exact ⟨rfl, HE2.out⟩
    · have m7 : (st == 7) = false := by simp; exact n7
      have m8 : (st == 8) = false := by simp; exact n8
      have x7 : (st != 7) = true := by simp; exact n7
      have x8 : (st != 8) = true := by simp; exact n8
      have hres : Em.ask (⟨most, st, tei, tr, asked, t2, t3, us, fl, out⟩ : Em.St) 5 s = ((⟨most, st, tei, tr, asked, t2, t3, us, fl, []⟩ : Em.St), 12) := by unfold Em.ask Em.busy; simp [n7, n8]
      rw [hres]
      clear hres hok0 hz s0 s1
      replace HE0 : Hid (Mv (Rn R) w (w.setCell ⟨R, 9, none⟩ (.slice none 0 0)) lab (⟨most, st, tei, tr, asked, t2, t3, us, fl, []⟩ : Em.St)) := HE0
      go_enter Tryz.func27, Tryz.ntmps27
      go_wp2
      go_ret
      exact ⟨rfl, HE0.out⟩
  · have hres : Em.ask (⟨most, st, tei, tr, asked, t2, t3, us, fl, out⟩ : Em.St) a s = ((⟨most, st, tei, tr, asked, t2, t3, us, fl, []⟩ : Em.St), 2) := by unfold Em.ask; simp [hbad]
    rw [hres]
    clear hres hok0 hz s0 s1
    replace HE0 : Hid (Mv (Rn R) w (w.setCell ⟨R, 9, none⟩ (.slice none 0 0)) lab (⟨most, st, tei, tr, asked, t2, t3, us, fl, []⟩ : Em.St)) := HE0
    rcases hbad with hx | hx
    · have hd : decide (a < 0) = true := decide_eq_true hx
      go_enter Tryz.func27, Tryz.ntmps27
      go_wp2
      go_ret
      exact ⟨rfl, HE0.out⟩
    · have hd : decide (a < 0) = false := decide_eq_false (by omega)
      have hd5 : decide (a > 5) = true := decide_eq_true hx
      have hn : ¬ a < 0 := by omega
      go_enter Tryz.func27, Tryz.ntmps27
      go_wp2
      go_ret
      exact ⟨rfl, HE0.out⟩

end Go.Proofs.YtidemohpngkedabGreatDoor

namespace Go.Proofs.YtidemohpngkedabGreatDoor
open Go.RowKit
set_option linter.unusedVariables false
set_option maxRecDepth 100000
set_option linter.unusedSimpArgs false

theorem rn_made {w w1 : World} {F D : Nat} {k n m : Int} (T : TypeId) (hm : m = Em.mostOf n) (hF : w.heap.size ≤ F) (hD : w.heap.size ≤ D) (hf : Rf w1 F D none (Wm.new k 256)) (hb : Below w.heap.size w w1) :
    ∃ lab, Rn w1.heap.size (w1.alloc (.cells #[.int .i64 m, .int .i64 1, .int .i64 (-1), .int .i64 0, .bool false, .bool false, .bool false, .slice none 0 0, .pointer (some ⟨F, 0, none⟩), .slice none 0 0] T)) lab (Em.new k n) ∧ ∀ b, b < w.heap.size → lab b = 0 := by
  subst hm
  have hFl := hf.lt
  have hDl := hf.qu.lt
  have hle := hb.size
  have hbb : Below w1.heap.size w1 (w1.alloc (.cells #[.int .i64 (Em.mostOf n), .int .i64 1, .int .i64 (-1), .int .i64 0, .bool false, .bool false, .bool false, .slice none 0 0, .pointer (some ⟨F, 0, none⟩), .slice none 0 0] T)) := (Below.refl _ _).alloc (Nat.le_refl _) _
  refine ⟨fun b => if b < w.heap.size then 0 else if b = w1.heap.size then 1 else 2, ⟨⟨by simp, by simp [Em.new], by simp [Em.new], by simp [Em.new], by simp [Em.new], by simp [Em.new], by simp [Em.new], by simp [Em.new], fun j hj => ?_⟩, ?_, ⟨F, D, none, by simp, hf.kept (T := fun _ => False) (Kept.of_below hbb (fun k hk h' => by omega)) (fun _ _ x => x), fun b hx => ?_⟩, ⟨none, 0, none, by simp [Em.new], ⟨Nat.le_refl _, Nat.zero_le _, Or.inl ⟨rfl, rfl, rfl⟩⟩, fun B hB => by cases hB⟩, ⟨none, 0, by simp [Em.new], World.ownsRow_nil _ _ _ _, fun B hB => by cases hB⟩⟩, fun b hlt => if_pos hlt⟩
  · simp
  · show (if _ then _ else _) = _
    rw [if_neg (by omega), if_pos rfl]
  · rcases hx with rfl | rfl | h
    · show (if _ then _ else _) = _
      rw [if_neg (by omega), if_neg (by omega)]
    · show (if _ then _ else _) = _
      rw [if_neg (by omega), if_neg (by omega)]
    · cases h

set_option maxHeartbeats 2000000 in
theorem rnew14_any (k n : Int) (w : World) :
    Calls Tryz.prog 10 #[.int .i64 k, .int .i64 n] w fun r w' => ∃ R lab, r = .returned (.pointer (some ⟨R, 0, none⟩)) ∧ w.heap.size ≤ R ∧ Rn R w' lab (Em.new k n) ∧ Below w.heap.size w w' ∧ ∀ b, b < w.heap.size → lab b = 0 := by
  have HN := rfnew_any k 256 w
  rcases (show n < 1 ∨ 32 < n ∨ (¬ n < 1 ∧ ¬ 32 < n) by omega) with h1 | h1 | ⟨h1, h2⟩
  · have hm : Hid ((1 : Int) = Em.mostOf n) := by show _ = _; unfold Em.mostOf; omega
    have hd : decide (n < 1) = true := decide_eq_true h1
    clear h1
    go_enter Tryz.func10, Tryz.ntmps10
    go_wp2_with fail
    refine HN.mono ?_
    rintro r w1 ⟨F, D, rfl, hF, hD, hf, hb⟩
    have hle := hb.size
    have HH : Hid (∀ T, ∃ lab, Rn w1.heap.size (w1.alloc (.cells #[.int .i64 ((1 : Int)), .int .i64 1, .int .i64 (-1), .int .i64 0, .bool false, .bool false, .bool false, .slice none 0 0, .pointer (some ⟨F, 0, none⟩), .slice none 0 0] T)) lab (Em.new k n) ∧ ∀ b, b < w.heap.size → lab b = 0) := fun T => rn_made T hm.out hF hD hf hb
    have HB : Hid (Below w.heap.size w w1) := hb
    clear hF hD hf hb HN hm
    go_wp2
    go_ret
    obtain ⟨lab, x1, x2⟩ := HH.out _
    exact ⟨_, lab, rfl, hle, x1, HB.out.alloc hle _, x2⟩
  · have hm : Hid ((32 : Int) = Em.mostOf n) := by show _ = _; unfold Em.mostOf; omega
    have hd : decide (n < 1) = false := decide_eq_false (by omega)
    have hd2 : decide (n > 32) = true := decide_eq_true h1
    have hn : ¬ n < 1 := by omega
    clear h1
    go_enter Tryz.func10, Tryz.ntmps10
    go_wp2_with fail
    refine HN.mono ?_
    rintro r w1 ⟨F, D, rfl, hF, hD, hf, hb⟩
    have hle := hb.size
    have HH : Hid (∀ T, ∃ lab, Rn w1.heap.size (w1.alloc (.cells #[.int .i64 ((32 : Int)), .int .i64 1, .int .i64 (-1), .int .i64 0, .bool false, .bool false, .bool false, .slice none 0 0, .pointer (some ⟨F, 0, none⟩), .slice none 0 0] T)) lab (Em.new k n) ∧ ∀ b, b < w.heap.size → lab b = 0) := fun T => rn_made T hm.out hF hD hf hb
    have HB : Hid (Below w.heap.size w w1) := hb
    clear hF hD hf hb HN hm
    go_wp2
    go_ret
    obtain ⟨lab, x1, x2⟩ := HH.out _
    exact ⟨_, lab, rfl, hle, x1, HB.out.alloc hle _, x2⟩
  · have hm : Hid (n = Em.mostOf n) := by show _ = _; unfold Em.mostOf; omega
    have hd : decide (n < 1) = false := decide_eq_false h1
    have hd2 : decide (n > 32) = false := decide_eq_false (by omega)
    have hn : ¬ n < 1 := h1
    have hn2 : ¬ n > 32 := by omega
    clear h2
    clear h1
    go_enter Tryz.func10, Tryz.ntmps10
    go_wp2_with fail
    refine HN.mono ?_
    rintro r w1 ⟨F, D, rfl, hF, hD, hf, hb⟩
    have hle := hb.size
    have HH : Hid (∀ T, ∃ lab, Rn w1.heap.size (w1.alloc (.cells #[.int .i64 (n), .int .i64 1, .int .i64 (-1), .int .i64 0, .bool false, .bool false, .bool false, .slice none 0 0, .pointer (some ⟨F, 0, none⟩), .slice none 0 0] T)) lab (Em.new k n) ∧ ∀ b, b < w.heap.size → lab b = 0) := fun T => rn_made T hm.out hF hD hf hb
    have HB : Hid (Below w.heap.size w w1) := hb
    clear hF hD hf hb HN hm
    go_wp2
    go_ret
    obtain ⟨lab, x1, x2⟩ := HH.out _
    exact ⟨_, lab, rfl, hle, x1, HB.out.alloc hle _, x2⟩

end Go.Proofs.YtidemohpngkedabGreatDoor

namespace Go.Proofs.YtidemohpngkedabGreatDoor
open Go.RowKit
set_option linter.unusedVariables false
set_option maxRecDepth 100000
set_option linter.unusedSimpArgs false

set_option maxHeartbeats 2000000 in
theorem rassign14_any (R : Nat) (lab : Nat → Nat) (e : Em.St) (tei' : Int) (w : World) (h : Rn R w lab e) (ok : Em.Ok e) :
    Calls Tryz.prog 29 #[.pointer (some ⟨R, 0, none⟩), .int .i64 tei'] w fun r w' => r = .returned (.int .i64 (Em.assign e tei').2) ∧ Mv (Rn R) w w' lab (Em.assign e tei').1 := by
  have s0 := ok.s0
  have s1 := ok.s1
  have hok0 : Em.Ok { e with out := [] } := ok.fresh []
  have HE0 : Hid (Mv (Rn R) w (w.setCell ⟨R, 9, none⟩ (.slice none 0 0)) lab { e with out := [] }) := h.fresh
  have c1 := h.cs.c1
  have c2 := h.cs.c2
  have g1 := h.cs.f 1 (by decide)
  have g2 := h.cs.f 2 (by decide)
  have HUL : Hid (e.units.length ≤ 256) := ok.ul
  have g9 := h.cs.f 9 (by decide)
  obtain ⟨a9, cap9, c9, -, -⟩ := h.ot
  have hlt := h.cs.lt
  clear h ok
  obtain ⟨most, st, tei, tr, asked, t2, t3, us, fl, out⟩ := e
  replace c1 : w.cell? ⟨R, 1, none⟩ = some (.int .i64 st) := c1
  replace s0 : 1 ≤ st := s0
  replace s1 : st ≤ 8 := s1
  replace c2 : w.cell? ⟨R, 2, none⟩ = some (.int .i64 tei) := c2
  replace HUL : Hid (us.length ≤ 256) := HUL
  clear hok0
  by_cases hbad : tei' < 0 ∨ 126 < tei'
  · have hres : Em.assign (⟨most, st, tei, tr, asked, t2, t3, us, fl, out⟩ : Em.St) tei' = ((⟨most, st, tei, tr, asked, t2, t3, us, fl, []⟩ : Em.St), 2) := by unfold Em.assign; simp [hbad]
    rw [hres]
    clear hres s0 s1 HUL
    replace HE0 : Hid (Mv (Rn R) w (w.setCell ⟨R, 9, none⟩ (.slice none 0 0)) lab (⟨most, st, tei, tr, asked, t2, t3, us, fl, []⟩ : Em.St)) := HE0
    rcases hbad with hx | hx
    · have hd : decide (tei' < 0) = true := decide_eq_true hx
      go_enter Tryz.func29, Tryz.ntmps29
      go_wp2
      go_ret
      exact ⟨rfl, HE0.out⟩
    · have hd : decide (tei' < 0) = false := decide_eq_false (by omega)
      have hd5 : decide (tei' > 126) = true := decide_eq_true hx
      have hn : ¬ tei' < 0 := by omega
      go_enter Tryz.func29, Tryz.ntmps29
      go_wp2
      go_ret
      exact ⟨rfl, HE0.out⟩
  · have hd : decide (tei' < 0) = false := decide_eq_false (by omega)
    have hd5 : decide (tei' > 126) = false := decide_eq_false (by omega)
    have hn : ¬ tei' < 0 := by omega
    have hn5 : ¬ tei' > 126 := by omega
    by_cases h4 : 4 ≤ st
    · have hd4 : decide (st ≥ 4) = true := decide_eq_true h4
      have hres : Em.assign (⟨most, st, tei, tr, asked, t2, t3, us, fl, out⟩ : Em.St) tei' = ((⟨most, st, tei, tr, asked, t2, t3, us, fl, []⟩ : Em.St), 13) := by unfold Em.assign; simp [hbad, h4]
      rw [hres]
      clear hres s0 s1 HUL hbad
      replace HE0 : Hid (Mv (Rn R) w (w.setCell ⟨R, 9, none⟩ (.slice none 0 0)) lab (⟨most, st, tei, tr, asked, t2, t3, us, fl, []⟩ : Em.St)) := HE0
      go_enter Tryz.func29, Tryz.ntmps29
      go_wp2
      go_ret
      exact ⟨rfl, HE0.out⟩
    · rcases (show st = 1 ∨ st = 2 ∨ st = 3 by omega) with rfl | rfl | rfl
      · have hres : Em.assign (⟨most, 1, tei, tr, asked, t2, t3, us, fl, out⟩ : Em.St) tei' = ({ Em.unitsOut (⟨most, 4, tei', tr, asked, t2, t3, us, fl, []⟩ : Em.St) us with units := [] }, 0) := by unfold Em.assign; simp [hbad]
        rw [hres]
        clear hres s0 s1 hbad h4
        replace HE0 : Hid (Mv (Rn R) w (w.setCell ⟨R, 9, none⟩ (.slice none 0 0)) lab (⟨most, 1, tei, tr, asked, t2, t3, us, fl, []⟩ : Em.St)) := HE0
        have HE1 : Hid (Mv (Rn R) w (((w.setCell ⟨R, 9, none⟩ (.slice none 0 0)).setCell ⟨R, 2, none⟩ (.int .i64 tei')).setCell ⟨R, 1, none⟩ (.int .i64 4)) lab (⟨most, 4, tei', tr, asked, t2, t3, us, fl, []⟩ : Em.St)) := HE0.out.trans fun _ hx => (hx.setTei tei').trans fun _ hy => hy.setState 4
        have HUK : Hid (∀ i, (Em.unitsOut (⟨most, 4, tei', tr, asked, t2, t3, us, fl, []⟩ : Em.St) (us.take i)).units = us) := fun i => (Em.unitsOut_keep (us.take i) (⟨most, 4, tei', tr, asked, t2, t3, us, fl, []⟩ : Em.St)).units
        have HLU : Hid (∀ i, i ≤ us.length → (Em.unitsOut (⟨most, 4, tei', tr, asked, t2, t3, us, fl, []⟩ : Em.St) (us.take i)).out.length ≤ 256) := by
          intro i hi
          rw [Em.len_unitsOut]
          have := HUL.out
          show 0 + (us.take i).length ≤ 256
          rw [List.length_take]
          omega
        have HSN : Hid (∀ i, i < us.length → Em.unitsOut (⟨most, 4, tei', tr, asked, t2, t3, us, fl, []⟩ : Em.St) (us.take (i + 1)) = Em.unit (Em.unitsOut (⟨most, 4, tei', tr, asked, t2, t3, us, fl, []⟩ : Em.St) (us.take i)) (us.getD i ByteArray.empty)) := by
          intro i hi
          rw [Em.take_next _ _ hi, Em.unitsOut_snoc]
        have HALL : Hid (Em.unitsOut (⟨most, 4, tei', tr, asked, t2, t3, us, fl, []⟩ : Em.St) (us.take us.length) = Em.unitsOut (⟨most, 4, tei', tr, asked, t2, t3, us, fl, []⟩ : Em.St) us) := by
          show _ = _; rw [List.take_length]
        clear HE0
        go_enter Tryz.func29, Tryz.ntmps29
        go_wp2_with fail
        go_loopw [6] (fun c wr => ∃ i : Nat, i ≤ us.length ∧ c = .int .i64 i ∧ Hid (Mv (Rn R) w wr lab (Em.unitsOut (⟨most, 4, tei', tr, asked, t2, t3, us, fl, []⟩ : Em.St) (us.take i)))) (fun c _ => us.length - (intOf c).toNat)
        case atStart => exact ⟨0, Nat.zero_le _, rfl, HE1⟩
        case round =>
          obtain ⟨i, hi, rfl, HEi⟩ := hrel
          clear HE1 c1 c2 g1 g2 g9 c9 hlt hd hd5 hn hn5
          obtain ⟨lab1, h1, -, -⟩ := HEi.out
          obtain ⟨a, cap, U, h7, hS, -⟩ := h1.un
          have hlR := h1.cs.lt
          have f7 := h1.cs.f 7 (by decide)
          rw [HUK.out i] at h7 hS
          clear h1
          by_cases hin : i < us.length
          · obtain ⟨g, off, rfl, _, hg, hcell⟩ := hS.nth i hin
            have hle : us.length ≤ cap := hS.le
            have h256 : us.length ≤ 256 := HUL.out
            have hi256 : i ≤ 255 := by omega
            have HL := HLU.out i (by omega)
            have HSN' := (show Hid _ from HSN.out i hin)
            clear hS
            generalize us.getD i ByteArray.empty = s at hcell HSN'
            go_wp2_with fail
            refine (HEi.out.call fun lab1 h1 => runit_any R lab1 _ s _ h1 (by omega)).mono ?_
            rintro r w3 ⟨rfl, hm⟩
            have HEj : Hid (Mv (Rn R) w w3 lab (Em.unitsOut (⟨most, 4, tei', tr, asked, t2, t3, us, fl, []⟩ : Em.St) (us.take (i + 1)))) := by
              have hx := HSN'.out
              show Mv _ _ _ _ _
              rw [hx]
              exact hm
            clear hm HEi HSN' hcell hg
            go_wp2_with fail
            go_roundw
            case rel => exact ⟨i + 1, by omega, by go_num, HEj⟩
            case measure => simp [intOf]; omega
          · have hie : i = us.length := by omega
            subst hie
            have HE1 : Hid (Mv (Rn R) w wr lab (Em.unitsOut (⟨most, 4, tei', tr, asked, t2, t3, us, fl, []⟩ : Em.St) us)) := by
              have := HEi.out
              rw [HALL.out] at this
              exact this
            have HLX : Hid ((Em.unitsOut (⟨most, 4, tei', tr, asked, t2, t3, us, fl, []⟩ : Em.St) us).out.length ≤ 256) := by
              have := HLU.out us.length (Nat.le_refl _)
              rw [HALL.out] at this
              exact this
            have f4 := (rcells HE1.out).f 4 (by decide)
            have k4 := (rcells HE1.out).c4
            clear hi hin HEi hS HUK HLU HSN HALL
            obtain ⟨e5, he5⟩ : ∃ e5, e5 = Em.unitsOut (⟨most, 4, tei', tr, asked, t2, t3, us, fl, []⟩ : Em.St) us := ⟨_, rfl⟩
            have HEQ : Hid (e5 = Em.unitsOut (⟨most, 4, tei', tr, asked, t2, t3, us, fl, []⟩ : Em.St) us) := he5
            rw [← he5] at HE1 HLX k4
            clear he5
            have HE2 : Hid (Mv (Rn R) w (wr.setCell ⟨R, 7, none⟩ (.slice none 0 0)) lab { e5 with units := [] }) := HE1.out.trans fun _ hx => hx.noUnits
            go_wp2
            go_ret
            exact ⟨rfl, by rw [← HEQ.out]; exact HE2.out⟩
      · have hres : Em.assign (⟨most, 2, tei, tr, asked, t2, t3, us, fl, out⟩ : Em.St) tei' = ({ Em.unitsOut (⟨most, 4, tei', tr, asked, t2, t3, us, fl, []⟩ : Em.St) us with units := [] }, 0) := by unfold Em.assign; simp [hbad]
        rw [hres]
        clear hres s0 s1 hbad h4
        replace HE0 : Hid (Mv (Rn R) w (w.setCell ⟨R, 9, none⟩ (.slice none 0 0)) lab (⟨most, 2, tei, tr, asked, t2, t3, us, fl, []⟩ : Em.St)) := HE0
        have HE1 : Hid (Mv (Rn R) w (((w.setCell ⟨R, 9, none⟩ (.slice none 0 0)).setCell ⟨R, 2, none⟩ (.int .i64 tei')).setCell ⟨R, 1, none⟩ (.int .i64 4)) lab (⟨most, 4, tei', tr, asked, t2, t3, us, fl, []⟩ : Em.St)) := HE0.out.trans fun _ hx => (hx.setTei tei').trans fun _ hy => hy.setState 4
        have HUK : Hid (∀ i, (Em.unitsOut (⟨most, 4, tei', tr, asked, t2, t3, us, fl, []⟩ : Em.St) (us.take i)).units = us) := fun i => (Em.unitsOut_keep (us.take i) (⟨most, 4, tei', tr, asked, t2, t3, us, fl, []⟩ : Em.St)).units
        have HLU : Hid (∀ i, i ≤ us.length → (Em.unitsOut (⟨most, 4, tei', tr, asked, t2, t3, us, fl, []⟩ : Em.St) (us.take i)).out.length ≤ 256) := by
          intro i hi
          rw [Em.len_unitsOut]
          have := HUL.out
          show 0 + (us.take i).length ≤ 256
          rw [List.length_take]
          omega
        have HSN : Hid (∀ i, i < us.length → Em.unitsOut (⟨most, 4, tei', tr, asked, t2, t3, us, fl, []⟩ : Em.St) (us.take (i + 1)) = Em.unit (Em.unitsOut (⟨most, 4, tei', tr, asked, t2, t3, us, fl, []⟩ : Em.St) (us.take i)) (us.getD i ByteArray.empty)) := by
          intro i hi
          rw [Em.take_next _ _ hi, Em.unitsOut_snoc]
        have HALL : Hid (Em.unitsOut (⟨most, 4, tei', tr, asked, t2, t3, us, fl, []⟩ : Em.St) (us.take us.length) = Em.unitsOut (⟨most, 4, tei', tr, asked, t2, t3, us, fl, []⟩ : Em.St) us) := by
          show _ = _; rw [List.take_length]
        clear HE0
        go_enter Tryz.func29, Tryz.ntmps29
        go_wp2_with fail
        go_loopw [6] (fun c wr => ∃ i : Nat, i ≤ us.length ∧ c = .int .i64 i ∧ Hid (Mv (Rn R) w wr lab (Em.unitsOut (⟨most, 4, tei', tr, asked, t2, t3, us, fl, []⟩ : Em.St) (us.take i)))) (fun c _ => us.length - (intOf c).toNat)
        case atStart => exact ⟨0, Nat.zero_le _, rfl, HE1⟩
        case round =>
          obtain ⟨i, hi, rfl, HEi⟩ := hrel
          clear HE1 c1 c2 g1 g2 g9 c9 hlt hd hd5 hn hn5
          obtain ⟨lab1, h1, -, -⟩ := HEi.out
          obtain ⟨a, cap, U, h7, hS, -⟩ := h1.un
          have hlR := h1.cs.lt
          have f7 := h1.cs.f 7 (by decide)
          rw [HUK.out i] at h7 hS
          clear h1
          by_cases hin : i < us.length
          · obtain ⟨g, off, rfl, _, hg, hcell⟩ := hS.nth i hin
            have hle : us.length ≤ cap := hS.le
            have h256 : us.length ≤ 256 := HUL.out
            have hi256 : i ≤ 255 := by omega
            have HL := HLU.out i (by omega)
            have HSN' := (show Hid _ from HSN.out i hin)
            clear hS
            generalize us.getD i ByteArray.empty = s at hcell HSN'
            go_wp2_with fail
            refine (HEi.out.call fun lab1 h1 => runit_any R lab1 _ s _ h1 (by omega)).mono ?_
            rintro r w3 ⟨rfl, hm⟩
            have HEj : Hid (Mv (Rn R) w w3 lab (Em.unitsOut (⟨most, 4, tei', tr, asked, t2, t3, us, fl, []⟩ : Em.St) (us.take (i + 1)))) := by
              have hx := HSN'.out
              show Mv _ _ _ _ _
              rw [hx]
              exact hm
            clear hm HEi HSN' hcell hg
            go_wp2_with fail
            go_roundw
            case rel => exact ⟨i + 1, by omega, by go_num, HEj⟩
            case measure => simp [intOf]; omega
          · have hie : i = us.length := by omega
            subst hie
            have HE1 : Hid (Mv (Rn R) w wr lab (Em.unitsOut (⟨most, 4, tei', tr, asked, t2, t3, us, fl, []⟩ : Em.St) us)) := by
              have := HEi.out
              rw [HALL.out] at this
              exact this
            have HLX : Hid ((Em.unitsOut (⟨most, 4, tei', tr, asked, t2, t3, us, fl, []⟩ : Em.St) us).out.length ≤ 256) := by
              have := HLU.out us.length (Nat.le_refl _)
              rw [HALL.out] at this
              exact this
            have f4 := (rcells HE1.out).f 4 (by decide)
            have k4 := (rcells HE1.out).c4
            clear hi hin HEi hS HUK HLU HSN HALL
            obtain ⟨e5, he5⟩ : ∃ e5, e5 = Em.unitsOut (⟨most, 4, tei', tr, asked, t2, t3, us, fl, []⟩ : Em.St) us := ⟨_, rfl⟩
            have HEQ : Hid (e5 = Em.unitsOut (⟨most, 4, tei', tr, asked, t2, t3, us, fl, []⟩ : Em.St) us) := he5
            rw [← he5] at HE1 HLX k4
            clear he5
            have HE2 : Hid (Mv (Rn R) w (wr.setCell ⟨R, 7, none⟩ (.slice none 0 0)) lab { e5 with units := [] }) := HE1.out.trans fun _ hx => hx.noUnits
            go_wp2
            go_ret
            exact ⟨rfl, by rw [← HEQ.out]; exact HE2.out⟩
      · have hres : Em.assign (⟨most, 3, tei, tr, asked, t2, t3, us, fl, out⟩ : Em.St) tei' = (Em.call { Em.unitsOut (⟨most, 4, tei', tr, asked, t2, t3, us, fl, []⟩ : Em.St) us with units := [], asked := true }, 0) := by unfold Em.assign; simp [hbad]
        rw [hres]
        clear hres s0 s1 hbad h4
        replace HE0 : Hid (Mv (Rn R) w (w.setCell ⟨R, 9, none⟩ (.slice none 0 0)) lab (⟨most, 3, tei, tr, asked, t2, t3, us, fl, []⟩ : Em.St)) := HE0
        have HE1 : Hid (Mv (Rn R) w (((w.setCell ⟨R, 9, none⟩ (.slice none 0 0)).setCell ⟨R, 2, none⟩ (.int .i64 tei')).setCell ⟨R, 1, none⟩ (.int .i64 4)) lab (⟨most, 4, tei', tr, asked, t2, t3, us, fl, []⟩ : Em.St)) := HE0.out.trans fun _ hx => (hx.setTei tei').trans fun _ hy => hy.setState 4
        have HUK : Hid (∀ i, (Em.unitsOut (⟨most, 4, tei', tr, asked, t2, t3, us, fl, []⟩ : Em.St) (us.take i)).units = us) := fun i => (Em.unitsOut_keep (us.take i) (⟨most, 4, tei', tr, asked, t2, t3, us, fl, []⟩ : Em.St)).units
        have HLU : Hid (∀ i, i ≤ us.length → (Em.unitsOut (⟨most, 4, tei', tr, asked, t2, t3, us, fl, []⟩ : Em.St) (us.take i)).out.length ≤ 256) := by
          intro i hi
          rw [Em.len_unitsOut]
          have := HUL.out
          show 0 + (us.take i).length ≤ 256
          rw [List.length_take]
          omega
        have HSN : Hid (∀ i, i < us.length → Em.unitsOut (⟨most, 4, tei', tr, asked, t2, t3, us, fl, []⟩ : Em.St) (us.take (i + 1)) = Em.unit (Em.unitsOut (⟨most, 4, tei', tr, asked, t2, t3, us, fl, []⟩ : Em.St) (us.take i)) (us.getD i ByteArray.empty)) := by
          intro i hi
          rw [Em.take_next _ _ hi, Em.unitsOut_snoc]
        have HALL : Hid (Em.unitsOut (⟨most, 4, tei', tr, asked, t2, t3, us, fl, []⟩ : Em.St) (us.take us.length) = Em.unitsOut (⟨most, 4, tei', tr, asked, t2, t3, us, fl, []⟩ : Em.St) us) := by
          show _ = _; rw [List.take_length]
        clear HE0
        go_enter Tryz.func29, Tryz.ntmps29
        go_wp2_with fail
        go_loopw [6] (fun c wr => ∃ i : Nat, i ≤ us.length ∧ c = .int .i64 i ∧ Hid (Mv (Rn R) w wr lab (Em.unitsOut (⟨most, 4, tei', tr, asked, t2, t3, us, fl, []⟩ : Em.St) (us.take i)))) (fun c _ => us.length - (intOf c).toNat)
        case atStart => exact ⟨0, Nat.zero_le _, rfl, HE1⟩
        case round =>
          obtain ⟨i, hi, rfl, HEi⟩ := hrel
          clear HE1 c1 c2 g1 g2 g9 c9 hlt hd hd5 hn hn5
          obtain ⟨lab1, h1, -, -⟩ := HEi.out
          obtain ⟨a, cap, U, h7, hS, -⟩ := h1.un
          have hlR := h1.cs.lt
          have f7 := h1.cs.f 7 (by decide)
          rw [HUK.out i] at h7 hS
          clear h1
          by_cases hin : i < us.length
          · obtain ⟨g, off, rfl, _, hg, hcell⟩ := hS.nth i hin
            have hle : us.length ≤ cap := hS.le
            have h256 : us.length ≤ 256 := HUL.out
            have hi256 : i ≤ 255 := by omega
            have HL := HLU.out i (by omega)
            have HSN' := (show Hid _ from HSN.out i hin)
            clear hS
            generalize us.getD i ByteArray.empty = s at hcell HSN'
            go_wp2_with fail
            refine (HEi.out.call fun lab1 h1 => runit_any R lab1 _ s _ h1 (by omega)).mono ?_
            rintro r w3 ⟨rfl, hm⟩
            have HEj : Hid (Mv (Rn R) w w3 lab (Em.unitsOut (⟨most, 4, tei', tr, asked, t2, t3, us, fl, []⟩ : Em.St) (us.take (i + 1)))) := by
              have hx := HSN'.out
              show Mv _ _ _ _ _
              rw [hx]
              exact hm
            clear hm HEi HSN' hcell hg
            go_wp2_with fail
            go_roundw
            case rel => exact ⟨i + 1, by omega, by go_num, HEj⟩
            case measure => simp [intOf]; omega
          · have hie : i = us.length := by omega
            subst hie
            have HE1 : Hid (Mv (Rn R) w wr lab (Em.unitsOut (⟨most, 4, tei', tr, asked, t2, t3, us, fl, []⟩ : Em.St) us)) := by
              have := HEi.out
              rw [HALL.out] at this
              exact this
            have HLX : Hid ((Em.unitsOut (⟨most, 4, tei', tr, asked, t2, t3, us, fl, []⟩ : Em.St) us).out.length ≤ 256) := by
              have := HLU.out us.length (Nat.le_refl _)
              rw [HALL.out] at this
              exact this
            have f4 := (rcells HE1.out).f 4 (by decide)
            have k4 := (rcells HE1.out).c4
            clear hi hin HEi hS HUK HLU HSN HALL
            obtain ⟨e5, he5⟩ : ∃ e5, e5 = Em.unitsOut (⟨most, 4, tei', tr, asked, t2, t3, us, fl, []⟩ : Em.St) us := ⟨_, rfl⟩
            have HEQ : Hid (e5 = Em.unitsOut (⟨most, 4, tei', tr, asked, t2, t3, us, fl, []⟩ : Em.St) us) := he5
            rw [← he5] at HE1 HLX k4
            clear he5
            have HE2 : Hid (Mv (Rn R) w (wr.setCell ⟨R, 7, none⟩ (.slice none 0 0)) lab { e5 with units := [] }) := HE1.out.trans fun _ hx => hx.noUnits
            have HE3 : Hid (Mv (Rn R) w ((wr.setCell ⟨R, 7, none⟩ (.slice none 0 0)).setCell ⟨R, 4, none⟩ (.bool true)) lab { e5 with units := [], asked := true }) := HE2.out.trans fun _ hx => hx.setAsked true
            go_wp2_with fail
            refine (HE3.out.call fun lab1 h1 => rcall_any R lab1 _ _ h1 (by show e5.out.length ≤ _; have := HLX.out; omega)).mono ?_
            rintro r w4 ⟨rfl, hm⟩
            have HE4 : Hid (Mv (Rn R) w w4 lab (Em.call { e5 with units := [], asked := true })) := hm
            clear hm HE1 HE2 HE3 h7 f7 f4 k4 hlR
            go_wp2
            go_ret
            exact ⟨rfl, by rw [← HEQ.out]; exact HE4.out⟩
end Go.Proofs.YtidemohpngkedabGreatDoor
