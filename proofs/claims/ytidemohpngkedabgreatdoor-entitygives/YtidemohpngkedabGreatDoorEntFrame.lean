/-
  The walk of an entity's Frame.
  The walk of an entity's Assign.
-/
import Derived.Test.YtidemohpngkedabGreatDoorEntAsks
import Derived.Test.YtidemohpngkedabGreatDoorWaysSmall
namespace Go.Proofs.YtidemohpngkedabGreatDoor
open Go.RowKit
set_option linter.unusedVariables false
set_option maxRecDepth 100000
set_option linter.unusedSimpArgs false

namespace Em
theorem nm_nm (n : Int) : Sm.nm (Sm.nm n) = Sm.nm n := by unfold Sm.nm; omega
theorem sb_nm (n a : Int) : Sm.sb (Sm.nm n) a = Sm.sb n a := by unfold Sm.sb Sm.nm; omega
theorem comeN_nm (σ : Wm.St) (n : Int) : Wm.comeN σ (Sm.nm n) = Wm.comeN σ n := by unfold Wm.comeN; rw [nm_nm]
theorem comeT_nm (σ : Wm.St) (n : Int) : Wm.comeT σ (Sm.nm n) = Wm.comeT σ n := by unfold Wm.comeT; rw [nm_nm]
theorem ackB_nm (σ : Wm.St) (n : Int) : Wm.ackB σ (Sm.nm n) = Wm.ackB σ n := by unfold Wm.ackB Sm.vd; rw [sb_nm]
theorem ackN_nm (σ : Wm.St) (n : Int) : Wm.ackN σ (Sm.nm n) = Wm.ackN σ n := by unfold Wm.ackN; rw [ackB_nm, sb_nm]
theorem ackT_nm (σ : Wm.St) (n : Int) : Wm.ackT σ (Sm.nm n) = Wm.ackT σ n := by unfold Wm.ackT; rw [ackB_nm, sb_nm, nm_nm]
/-- numbers count modulo 128 -/
def nmF (f : Fr) : Fr := { f with nr := Sm.nm f.nr, ns := Sm.nm f.ns }
theorem info_nm (e : St) (f : Fr) : info e (nmF f) = info e f := by
  have h1 : info1 e (nmF f) = info1 e f := by
    unfold info1 nmF
    simp only [comeN_nm, comeT_nm]
  unfold info
  rw [h1]
  unfold nmF
  simp only [ackB_nm, ackN_nm, ackT_nm]
theorem super_nm (e : St) (f : Fr) : supervised e (nmF f) = supervised e f := by
  have h1 : super1 e (nmF f) = super1 e f := rfl
  unfold supervised
  rw [h1]
  unfold nmF
  simp only [ackB_nm, ackN_nm, ackT_nm]
  rfl
theorem come_nm (e : St) (f : Fr) : come e (nmF f) = come e f := by
  have h1 : inOpen e (nmF f) = inOpen e f := by
    unfold inOpen
    rw [info_nm, super_nm]
    rfl
  unfold come
  rw [h1]
  rfl
theorem frame_yes (e : St) (f : Fr) (ho : e.out = []) (ht : 0 ≤ e.tei) : frame e true f = come e f := by
  rw [← come_nm]
  obtain ⟨m, st, tei, tr, asked, t2, t3, us, fl, out⟩ := e
  have h' : out = [] := ho
  subst h'
  unfold frame
  simp only []
  rw [if_neg (by simp only [] at ht; rintro (hx | hx); omega; cases hx)]
  rfl
theorem frame_no (e : St) (f : Fr) (may : Bool) (ho : e.out = []) (ht : e.tei < 0 ∨ may = false) : frame e may f = e := by
  obtain ⟨m, st, tei, tr, asked, t2, t3, us, fl, out⟩ := e
  have h' : out = [] := ho
  subst h'
  unfold frame
  simp only []
  rw [if_pos ht]
/-- may it be? -/
def may (f : Fr) : Bool := Xm.mayB f.k f.c && Xm.carB f.k f.info.size
end Em

set_option maxHeartbeats 2000000 in
theorem eframe_any (C : Nat) (lab : Nat → Nat) (e : Em.St) (f : Em.Fr) (w : World) (h : Ent C w lab e) (hW : Ways w) (s0 : -9223372036854775808 ≤ f.ns) (s1 : f.ns ≤ 9223372036854775807) (r0 : -9223372036854775808 ≤ f.nr) (r1 : f.nr ≤ 9223372036854775807) (hz : f.info.size ≤ 9223372036854775807) :
    Calls Tryz.prog 19 #[.pointer (some ⟨C, 0, none⟩), frmV f] w fun r w' => ∃ v, r = .returned v ∧ Told C w w' lab v (Em.frame e (Em.may f) f) := by
  have hb : ∀ o, Below w.heap.size w (w.alloc o) := fun o => (Below.refl _ _).alloc (Nat.le_refl _) o
  have HM := fun o => made_any C lab e (w.alloc o) (h.en.below (hb o)) h.ok.s0
  have HTE := fun o => hasTEI_any C lab e (w.alloc o) (h.en.below (hb o)) (by
    rcases (show e.state ≤ 3 ∨ 4 ≤ e.state by omega) with h3 | h4
    · rw [h.ok.lo h3]; exact Int.le_refl _
    · have := (h.ok.hi h4).1; omega)
  have HMay := fun o => may_any f.k f.c (w.alloc o) (hW.later (hb o))
  have HCar := fun o => carries_any f.k f.info.size (w.alloc o)
  by_cases ht : e.tei < 0
  · rw [Em.frame_no e f _ h.out (Or.inl ht)]
    have HN : Hid (∀ o, Told C w (w.alloc o) lab (.slice none 0 0) e) := fun o => h.nothing (hb o)
    have hd : decide (0 ≤ e.tei) = false := decide_eq_false (by omega)
    rw [hd] at HTE
    obtain ⟨sapi, tei, c, k, pf, ns, nr, info⟩ := f
    unfold frmV
    clear h hd ht hb HMay HCar hW
    go_enter Tryz.func19, Tryz.ntmps19
    go_wp2_with fail
    refine (HM _).mono ?_
    rintro r w1 ⟨rfl, rfl⟩
    clear HM
    go_wp2_with fail
    refine (HTE _).mono ?_
    rintro r w1 ⟨rfl, rfl⟩
    clear HTE
    go_wp2
    go_ret
    exact ⟨_, rfl, HN.out _⟩
  · have hd : decide (0 ≤ e.tei) = true := decide_eq_true (by omega)
    rw [hd] at HTE
    cases hmay : Xm.mayB f.k f.c with
    | false =>
      rw [Em.frame_no e f _ h.out (Or.inr (by unfold Em.may; rw [hmay]; rfl))]
      have HN : Hid (∀ o, Told C w (w.alloc o) lab (.slice none 0 0) e) := fun o => h.nothing (hb o)
      rw [hmay] at HMay
      obtain ⟨sapi, tei, c, k, pf, ns, nr, info⟩ := f
      unfold frmV
      clear h hd ht hb HCar hW hmay
      go_enter Tryz.func19, Tryz.ntmps19
      go_wp2_with fail
      refine (HM _).mono ?_
      rintro r w1 ⟨rfl, rfl⟩
      clear HM
      go_wp2_with fail
      refine (HTE _).mono ?_
      rintro r w1 ⟨rfl, rfl⟩
      clear HTE
      go_wp2_with fail
      refine (HMay _).mono ?_
      rintro r w1 ⟨rfl, rfl⟩
      clear HMay
      go_wp2
      go_ret
      exact ⟨_, rfl, HN.out _⟩
    | true =>
      rw [hmay] at HMay
      cases hcar : Xm.carB f.k f.info.size with
      | false =>
        rw [Em.frame_no e f _ h.out (Or.inr (by unfold Em.may; rw [hcar, Bool.and_false]))]
        have HN : Hid (∀ o, Told C w (w.alloc o) lab (.slice none 0 0) e) := fun o => h.nothing (hb o)
        rw [hcar] at HCar
        obtain ⟨sapi, tei, c, k, pf, ns, nr, info⟩ := f
        unfold frmV
        clear h hd ht hb hW hmay hcar
        go_enter Tryz.func19, Tryz.ntmps19
        go_wp2_with fail
        refine (HM _).mono ?_
        rintro r w1 ⟨rfl, rfl⟩
        clear HM
        go_wp2_with fail
        refine (HTE _).mono ?_
        rintro r w1 ⟨rfl, rfl⟩
        clear HTE
        go_wp2_with fail
        refine (HMay _).mono ?_
        rintro r w1 ⟨rfl, rfl⟩
        clear HMay
        go_wp2_with fail
        refine (HCar _).mono ?_
        rintro r w1 ⟨rfl, rfl⟩
        clear HCar
        go_wp2
        go_ret
        exact ⟨_, rfl, HN.out _⟩
      | true =>
        have hm : Em.may f = true := by unfold Em.may; rw [hmay, hcar]; rfl
        have hok := Em.frame_ok h.ok true f
        have htm := Em.frame_tm h.tm h.ok true f
        rw [hm]
        rw [Em.frame_yes e f h.out (by omega)] at hok htm ⊢
        have hk := Xm.may_known hmay
        rw [hcar] at HCar
        have h4 : 4 ≤ e.state := by
          rcases (show e.state ≤ 3 ∨ 4 ≤ e.state by omega) with h3 | h4
          · have := h.ok.lo h3; omega
          · exact h4
        have HC : Hid (∀ o, Calls Tryz.prog 42 #[.pointer (some ⟨C, 0, none⟩), frmV f] (w.alloc o) fun r w' => r = .returned (.tuple #[]) ∧ Mv (En C) w w' lab (Em.come e f)) := by
          intro o
          exact (h.en.same (hb o)).call fun lab1 h1 => come_any C lab1 e f _ h1 (by rw [h.out]; exact Nat.zero_le _) h.ok.fl h4 h.ok.s1 s0 s1 r0 r1 hk.1 hk.2
        have HT : Hid (∀ w1, Mv (En C) w w1 lab (Em.come e f) → Calls Tryz.prog 36 #[.pointer (some ⟨C, 0, none⟩)] w1 fun r w' => ∃ v, r = .returned v ∧ Told C w w' lab v (Em.come e f)) := fun w1 hm => told_any C lab e _ w w1 h hm hok htm
        obtain ⟨sapi, tei, c, k, pf, ns, nr, info⟩ := f
        unfold frmV at HC ⊢
        clear h hd ht hb hW hmay hcar hm hok htm hk h4
        go_enter Tryz.func19, Tryz.ntmps19
        go_wp2_with fail
        refine (HM _).mono ?_
        rintro r w1 ⟨rfl, rfl⟩
        clear HM
        go_wp2_with fail
        refine (HTE _).mono ?_
        rintro r w1 ⟨rfl, rfl⟩
        clear HTE
        go_wp2_with fail
        refine (HMay _).mono ?_
        rintro r w1 ⟨rfl, rfl⟩
        clear HMay
        go_wp2_with fail
        refine (HCar _).mono ?_
        rintro r w1 ⟨rfl, rfl⟩
        clear HCar
        go_wp2_with fail
        refine (HC.out _).mono ?_
        rintro r w2 ⟨rfl, hm⟩
        have hT := HT.out _ hm
        clear HC HT hm
        go_wp2_with fail
        refine hT.mono ?_
        rintro r w3 ⟨v, rfl, ht⟩
        have HTT := (show Hid _ from ht)
        clear hT ht
        go_wp2
        go_ret
        exact ⟨v, rfl, HTT.out⟩
end Go.Proofs.YtidemohpngkedabGreatDoor

namespace Go.Proofs.YtidemohpngkedabGreatDoor
open Go.RowKit
set_option linter.unusedVariables false
set_option maxRecDepth 100000
set_option linter.unusedSimpArgs false

namespace Em
theorem unitsOut_snoc : ∀ (l : List ByteArray) (e : St) (s : ByteArray), unitsOut e (l ++ [s]) = unit (unitsOut e l) s
  | [], e, s => rfl
  | x :: l, e, s => unitsOut_snoc l (unit e x) s
theorem len_unitsOut : ∀ (l : List ByteArray) (e : St), (unitsOut e l).out.length = e.out.length + l.length
  | [], e => rfl
  | x :: l, e => by
    show (unitsOut (unit e x) l).out.length = _
    rw [len_unitsOut l (unit e x)]
    have : (unit e x).out.length = e.out.length + 1 := len_send _ _
    rw [this, List.length_cons]
    omega
theorem take_next (l : List ByteArray) (i : Nat) (hi : i < l.length) : l.take (i + 1) = l.take i ++ [l.getD i ByteArray.empty] := by
  rw [List.take_add_one]
  simp [List.getD, List.getElem?_eq_getElem hi]
def assignIn (e : St) (tei : Int) : St × Int :=
  if tei < 0 ∨ 126 < tei then (e, 2)
  else if 4 ≤ e.state then (e, 13)
  else (if e.state = 3 then call { noU (unitsOut { e with tei := tei, state := 4 } e.units) with asked := true } else noU (unitsOut { e with tei := tei, state := 4 } e.units), 0)
theorem assign_in (e : St) (tei : Int) (h : e.out = []) : assign e tei = assignIn e tei := by
  obtain ⟨m, st, t, tr, asked, t2, t3, us, fl, out⟩ := e
  have h' : out = [] := h
  subst h'
  rfl
end Em

theorem En6.row {c : Option Value} {C : Nat} {w w1 : World} {lab : Nat → Nat} {e : Em.St} {a : Option Addr} {n cap : Nat} (h : Mv (En6 c C) w w1 lab e) (hc : c = some (.slice a n cap)) : ∃ U, SRow w1 a cap U e.units ∧ n = e.units.length := by
  obtain ⟨lab1, h1, _⟩ := h
  obtain ⟨a', cap', U, h6, hS, _⟩ := h1.1.un
  have := h1.2
  rw [h6, hc] at this
  have := Option.some.inj this
  injection this with e1 e2 e3
  subst e1 e3
  exact ⟨U, hS, e2.symm⟩
theorem En6.drop {c : Option Value} {C : Nat} {w w1 : World} {lab : Nat → Nat} {e : Em.St} (h : Mv (En6 c C) w w1 lab e) : Mv (En C) w w1 lab e := by
  obtain ⟨lab1, h1, hk, hl⟩ := h
  exact ⟨lab1, h1.1, hk, hl⟩



set_option maxHeartbeats 4000000 in
theorem eassign_any (C : Nat) (lab : Nat → Nat) (e : Em.St) (tei : Int) (w : World) (h : Ent C w lab e) (t0 : -9223372036854775808 ≤ tei) (t1 : tei ≤ 9223372036854775807) :
    Calls Tryz.prog 22 #[.pointer (some ⟨C, 0, none⟩), .int .i64 tei] w fun r w' => ∃ v, r = .returned (.tuple #[v, .int .i64 (Em.assign e tei).2]) ∧ Told C w w' lab v (Em.assign e tei).1 := by
  have HM := made_any C lab e w h.en h.ok.s0
  have HTE := hasTEI_any C lab e w h.en (by
    rcases (show e.state ≤ 3 ∨ 4 ≤ e.state by omega) with h3 | h4
    · rw [h.ok.lo h3]; exact Int.le_refl _
    · have := (h.ok.hi h4).1; omega)
  have HN : Hid (Told C w w lab (.slice none 0 0) e) := h.nothing (Below.refl _ _)
  rw [Em.assign_in e tei h.out]
  by_cases hbad : tei < 0 ∨ 126 < tei
  · have hres : Em.assignIn e tei = (e, 2) := by unfold Em.assignIn; rw [if_pos hbad]
    rw [hres]
    clear h hres HTE
    rcases hbad with hx | hx
    · go_enter Tryz.func22, Tryz.ntmps22
      go_wp2_with fail
      refine HM.mono ?_
      rintro r w1 ⟨rfl, rfl⟩
      clear HM
      go_wp2
      go_ret2
      exact ⟨_, rfl, HN.out⟩
    · have hx2 : ¬ tei < 0 := by omega
      go_enter Tryz.func22, Tryz.ntmps22
      go_wp2_with fail
      refine HM.mono ?_
      rintro r w1 ⟨rfl, rfl⟩
      clear HM
      go_wp2
      go_ret2
      exact ⟨_, rfl, HN.out⟩
  · have hb0 : ¬ tei < 0 := fun hx => hbad (Or.inl hx)
    have hb1 : ¬ 126 < tei := fun hx => hbad (Or.inr hx)
    by_cases h4 : 4 ≤ e.state
    · have hres : Em.assignIn e tei = (e, 13) := by unfold Em.assignIn; rw [if_neg hbad, if_pos h4]
      rw [hres]
      rw [decide_eq_true (h.ok.hi h4).1] at HTE
      clear h hres hbad
      go_enter Tryz.func22, Tryz.ntmps22
      go_wp2_with fail
      refine HM.mono ?_
      rintro r w1 ⟨rfl, rfl⟩
      clear HM
      go_wp2_with fail
      refine HTE.mono ?_
      rintro r w1 ⟨rfl, rfl⟩
      clear HTE
      go_wp2
      go_ret2
      exact ⟨_, rfl, HN.out⟩
    · have hlo := h.ok.lo (by omega)
      rw [decide_eq_false (by omega)] at HTE
      have hok := Em.assign_ok h.ok tei
      have htm := Em.assign_tm h.tm tei
      rw [Em.assign_in e tei h.out] at hok htm
      have hres : Em.assignIn e tei = (if e.state = 3 then Em.call { Em.noU (Em.unitsOut { e with tei := tei, state := 4 } e.units) with asked := true } else Em.noU (Em.unitsOut { e with tei := tei, state := 4 } e.units), 0) := by
        unfold Em.assignIn; rw [if_neg hbad, if_neg h4]
      rw [hres] at hok htm ⊢
      obtain ⟨X, hX⟩ : ∃ X, X = (if e.state = 3 then Em.call { Em.noU (Em.unitsOut { e with tei := tei, state := 4 } e.units) with asked := true } else Em.noU (Em.unitsOut { e with tei := tei, state := 4 } e.units)) := ⟨_, rfl⟩
      rw [← hX] at hok htm ⊢
      have HX : Hid (X = (if e.state = 3 then Em.call { Em.noU (Em.unitsOut { e with tei := tei, state := 4 } e.units) with asked := true } else Em.noU (Em.unitsOut { e with tei := tei, state := 4 } e.units))) := hX
      clear hX
      have HT : Hid (∀ w1, Mv (En C) w w1 lab X → Calls Tryz.prog 36 #[.pointer (some ⟨C, 0, none⟩)] w1 fun r w' => ∃ v, r = .returned v ∧ Told C w w' lab v X) := fun w1 hm => told_any C lab e _ w w1 h hm hok htm
      have HO : Hid (e.out.length = 0) := by show _ = _; rw [h.out]; rfl
      have HUL : Hid (e.units.length ≤ 256) := h.ok.ul
      have c0 := h.en.cs.c0
      have c1 := h.en.cs.c1
      have f0 := h.en.cs.f 0 (by decide)
      have f1 := h.en.cs.f 1 (by decide)
      have f6 := h.en.cs.f 6 (by decide)
      have hlt := h.en.cs.lt
      obtain ⟨a, cap, U, h6, _, _⟩ := h.en.un
      have HE0 : Hid (Mv (En C) w ((w.setCell ⟨C, 1, none⟩ (.int .i64 tei)).setCell ⟨C, 0, none⟩ (.int .i64 4)) lab { e with tei := tei, state := 4 }) := (h.en.setTei tei).trans fun _ hx => hx.setState 4
      have h6' : ((w.setCell ⟨C, 1, none⟩ (.int .i64 tei)).setCell ⟨C, 0, none⟩ (.int .i64 4)).cell? ⟨C, 6, none⟩ = some (.slice a e.units.length cap) := by
        rw [cell_oth _ C (by decide), cell_oth _ C (by decide)]
        exact h6
      have HE6 : Hid (Mv (En6 (some (.slice a e.units.length cap)) C) w ((w.setCell ⟨C, 1, none⟩ (.int .i64 tei)).setCell ⟨C, 0, none⟩ (.int .i64 4)) lab (Em.unitsOut { e with tei := tei, state := 4 } (e.units.take 0))) := by
        obtain ⟨lab1, x1, x2, x3⟩ := HE0.out
        exact ⟨lab1, ⟨x1, h6'⟩, x2, x3⟩
      have HUK : Hid (∀ i, (Em.unitsOut { e with tei := tei, state := 4 } (e.units.take i)).units = e.units) := fun i => (Em.unitsOut_keep (e.units.take i) { e with tei := tei, state := 4 }).units
      have HLU : Hid (∀ i, i ≤ e.units.length → (Em.unitsOut { e with tei := tei, state := 4 } (e.units.take i)).out.length ≤ 256) := by
        intro i hi
        rw [Em.len_unitsOut]
        have := HO.out
        have := HUL.out
        show e.out.length + (e.units.take i).length ≤ 256
        rw [List.length_take]
        omega
      have HSN : Hid (∀ i, i < e.units.length → Em.unitsOut { e with tei := tei, state := 4 } (e.units.take (i + 1)) = Em.unit (Em.unitsOut { e with tei := tei, state := 4 } (e.units.take i)) (e.units.getD i ByteArray.empty)) := by
        intro i hi
        rw [Em.take_next _ _ hi, Em.unitsOut_snoc]
      have HALL : Hid (Em.unitsOut { e with tei := tei, state := 4 } (e.units.take e.units.length) = Em.unitsOut { e with tei := tei, state := 4 } e.units) := by
        show _ = _; rw [List.take_length]
      clear h hres hok htm hbad hlo h4 HN
      obtain ⟨W, hW⟩ : ∃ W, W = (w.setCell ⟨C, 1, none⟩ (.int .i64 tei)).setCell ⟨C, 0, none⟩ (.int .i64 4) := ⟨_, rfl⟩
      have HSZ : Hid (C < W.heap.size) := by rw [hW]; show C < _; simpa [World.setCell] using hlt
      rw [← hW] at HE0 h6' HE6
      have hst3 : Hid (∀ b, (e.state == 3) = b → (b = true ↔ e.state = 3)) := by
        intro b hb
        subst hb
        simp
      have HST : Hid (e.state = e.state) := rfl
      obtain ⟨st, hst⟩ : ∃ st, st = (e.state == 3) := ⟨_, rfl⟩
      have HS3 : Hid (st = true ↔ e.state = 3) := hst3.out st hst.symm
      clear hst3 HST
      have hd0 : decide (tei < 0) = false := decide_eq_false hb0
      have hd1 : decide (126 < tei) = false := decide_eq_false hb1
      go_enter Tryz.func22, Tryz.ntmps22
      go_wp2_with fail
      refine HM.mono ?_
      rintro r w1 ⟨rfl, rfl⟩
      clear HM
      go_wp2_with fail
      refine HTE.mono ?_
      rintro r w1 ⟨rfl, rfl⟩
      clear HTE
      go_wp2_with fail
      try rw [← hst]
      rw [← hW]
      clear hst hW h6 c0 c1 f0 f1 hlt
      go_loopw [40] (fun c wr => ∃ i : Nat, i ≤ e.units.length ∧ c = .int .i64 i ∧ Hid (Mv (En6 (some (.slice a e.units.length cap)) C) w wr lab (Em.unitsOut { e with tei := tei, state := 4 } (e.units.take i)))) (fun c _ => e.units.length - (intOf c).toNat)
      case atStart => exact ⟨0, Nat.zero_le _, rfl, HE6⟩
      case round =>
        obtain ⟨i, hi, rfl, HEi⟩ := hrel
        clear HE6 HE0
        by_cases hin : i < e.units.length
        · obtain ⟨U2, hS, -⟩ := En6.row HEi.out rfl
          rw [HUK.out i] at hS
          obtain ⟨g, off, rfl, _, hg, hcell⟩ := hS.nth i hin
          have hle : e.units.length ≤ cap := hS.le
          have h256 : e.units.length ≤ 256 := HUL.out
          have hi256 : i ≤ 255 := by omega
          have HL := HLU.out i (by omega)
          have HSN' := (show Hid _ from HSN.out i hin)
          clear hS
          generalize e.units.getD i ByteArray.empty = s at hcell HSN'
          go_wp2_with fail
          refine (HEi.out.call fun lab1 h1 => sendUnit6_any _ C lab1 _ s _ h1 (by omega)).mono ?_
          rintro r w3 ⟨rfl, hm⟩
          have HEj : Hid (Mv (En6 (some (.slice (some ⟨g, off, none⟩) e.units.length cap)) C) w w3 lab (Em.unitsOut { e with tei := tei, state := 4 } (e.units.take (i + 1)))) := by
            have hx := HSN'.out
            show Mv _ _ _ _ _
            rw [hx]
            exact hm
          clear hm HEi HSN' hcell hg
          go_wp2_with fail

          go_roundw
          case rel => exact ⟨i + 1, by omega, by go_num, HEj⟩
          case measure => simp [intOf]; omega
        · have hie : i = e.units.length := by omega
          subst hie
          clear hi hin
          have HE1 : Hid (Mv (En C) w wr lab (Em.unitsOut { e with tei := tei, state := 4 } e.units)) := by
            have := En6.drop HEi.out
            rw [HALL.out] at this
            exact this
          have hl1 : (Em.unitsOut { e with tei := tei, state := 4 } e.units).out.length ≤ 256 := by
            have := HLU.out e.units.length (Nat.le_refl _)
            rw [HALL.out] at this
            exact this
          have y6 : wr.cell? ⟨C, 6, none⟩ = some (.slice a e.units.length cap) := by
            obtain ⟨lab1, h1, _⟩ := HEi.out
            exact h1.2
          have g6 := HE1.out.cells.f 6 (by decide)
          have l6 := HE1.out.cells.lt
          obtain ⟨e2, he2⟩ : ∃ e2, e2 = Em.unitsOut { e with tei := tei, state := 4 } e.units := ⟨_, rfl⟩
          rw [← he2] at HE1 HX hl1
          clear HEi HALL HSN HLU HUK he2 h6' f6
          have HE2 : Hid (Mv (En C) w (wr.setCell ⟨C, 6, none⟩ (.slice none 0 0)) lab (Em.noU e2)) := HE1.out.trans fun _ hx => hx.noUnits
          cases st with
          | true =>
            have H3 := HS3.out.1 rfl
            have HX2 : Hid (X = Em.call { Em.noU e2 with asked := true }) := by
              have := HX.out
              rw [if_pos H3] at this
              exact this
            clear H3 HX HS3
            go_wp2_with fail
            refine (HE2.out.call fun lab1 h1 => callAsked_any C lab1 _ _ h1 (by show e2.out.length ≤ _; omega)).mono ?_
            rintro r w4 ⟨rfl, hm⟩
            have hT := HT.out w4 (by rw [HX2.out]; exact hm)
            clear HT hm HE1 HE2 y6 g6 l6
            go_wp2_with fail
            refine hT.mono ?_
            rintro r w5 ⟨v, rfl, ht⟩
            have HTT := (show Hid _ from ht)
            clear hT ht
            go_wp2
            go_ret2
            exact ⟨v, rfl, HTT.out⟩
          | false =>
            have H3 : ¬ e.state = 3 := fun hx => by have := HS3.out.2 hx; cases this
            have HX2 : Hid (X = Em.noU e2) := by
              have := HX.out
              rw [if_neg H3] at this
              exact this
            clear H3 HX HS3
            have hT := HT.out _ (by rw [HX2.out]; exact HE2.out)
            clear HT HE1 HE2
            go_wp2_with fail
            refine hT.mono ?_
            rintro r w5 ⟨v, rfl, ht⟩
            have HTT := (show Hid _ from ht)
            clear hT ht
            go_wp2
            go_ret2
            exact ⟨v, rfl, HTT.out⟩
end Go.Proofs.YtidemohpngkedabGreatDoor
