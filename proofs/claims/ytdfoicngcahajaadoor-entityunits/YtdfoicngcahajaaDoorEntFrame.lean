/-
  The walk of an entity's Frame.
-/
import Derived.Test.YtdfoicngcahajaaDoorEntDoors
import Derived.Test.YtdfoicngcahajaaDoorWaysSmall
namespace Go.Proofs.YtdfoicngcahajaaDoor
open Go.RowKit
set_option linter.unusedVariables false
set_option maxRecDepth 100000
set_option linter.unusedSimpArgs false

namespace Em
theorem nm_nm (n : Int) : Sm.nm (Sm.nm n) = Sm.nm n := by unfold Sm.nm; omega
theorem sb_nm (n a : Int) : Sm.sb (Sm.nm n) a = Sm.sb n a := by unfold Sm.sb Sm.nm; omega
theorem comeN_nm (σ : Wm.St) (n : Int) : Wm.comeN σ (Sm.nm n) = Wm.comeN σ n := by unfold Wm.comeN; rw [nm_nm]
theorem comeT_nm (σ : Wm.St) (n : Int) : Wm.comeT σ (Sm.nm n) = Wm.comeT σ n := by unfold Wm.comeT; rw [nm_nm]
theorem ackB_nm (σ : Wm.St) (n : Int) : Wm.ackB σ (Sm.nm n) = Wm.ackB σ n := by unfold Wm.ackB Sm.vd; rw [sb_nm]
theorem ackN_nm (σ : Wm.St) (n : Int) : Wm.ackN σ (Sm.nm n) = Wm.ackN σ n := by unfold Wm.ackN; rw [ackB_nm, sb_nm]
theorem ackT_nm (σ : Wm.St) (n : Int) : Wm.ackT σ (Sm.nm n) = Wm.ackT σ n := by unfold Wm.ackT; rw [ackB_nm, sb_nm, nm_nm]
/-- numbers count modulo 128 -/
def nmF (f : Fr) : Fr := { f with nr := Sm.nm f.nr, ns := Sm.nm f.ns }
theorem info_nm (e : St) (f : Fr) : info e (nmF f) = info e f := by
  have h1 : info1 e (nmF f) = info1 e f := by
    unfold info1 nmF
    simp only [comeN_nm, comeT_nm]
  unfold info
  rw [h1]
  unfold nmF
  simp only [ackB_nm, ackN_nm, ackT_nm]
theorem super_nm (e : St) (f : Fr) : supervised e (nmF f) = supervised e f := by
  have h1 : super1 e (nmF f) = super1 e f := rfl
  unfold supervised
  rw [h1]
  unfold nmF
  simp only [ackB_nm, ackN_nm, ackT_nm]
  rfl
theorem come_nm (e : St) (f : Fr) : come e (nmF f) = come e f := by
  have h1 : inOpen e (nmF f) = inOpen e f := by
    unfold inOpen
    rw [info_nm, super_nm]
    rfl
  unfold come
  rw [h1]
  rfl
theorem frame_yes (e : St) (f : Fr) (ho : e.out = []) (ht : 0 ≤ e.tei) : frame e true f = come e f := by
  rw [← come_nm]
  obtain ⟨m, st, tei, tr, asked, t2, t3, us, fl, out⟩ := e
  have h' : out = [] := ho
  subst h'
  unfold frame
  simp only []
  rw [if_neg (by simp only [] at ht; rintro (hx | hx); omega; cases hx)]
  rfl
theorem frame_no (e : St) (f : Fr) (may : Bool) (ho : e.out = []) (ht : e.tei < 0 ∨ may = false) : frame e may f = e := by
  obtain ⟨m, st, tei, tr, asked, t2, t3, us, fl, out⟩ := e
  have h' : out = [] := ho
  subst h'
  unfold frame
  simp only []
  rw [if_pos ht]
/-- may it be? -/
def may (f : Fr) : Bool := Xm.mayB f.k f.c && Xm.carB f.k f.info.size
end Em

set_option maxHeartbeats 2000000 in
theorem eframe_any (C : Nat) (lab : Nat → Nat) (e : Em.St) (f : Em.Fr) (w : World) (h : Ent C w lab e) (hW : Ways w) (s0 : -9223372036854775808 ≤ f.ns) (s1 : f.ns ≤ 9223372036854775807) (r0 : -9223372036854775808 ≤ f.nr) (r1 : f.nr ≤ 9223372036854775807) (hz : f.info.size ≤ 9223372036854775807) :
    Calls Tryd.prog 10 #[.pointer (some ⟨C, 0, none⟩), frmV f] w fun r w' => ∃ v, r = .returned v ∧ Told C w w' lab v (Em.frame e (Em.may f) f) := by
  have hb : ∀ o, Below w.heap.size w (w.alloc o) := fun o => (Below.refl _ _).alloc (Nat.le_refl _) o
  have HM := fun o => made_any C lab e (w.alloc o) (h.en.below (hb o)) h.ok.s0
  have HTE := fun o => hasTEI_any C lab e (w.alloc o) (h.en.below (hb o)) (by
    rcases (show e.state ≤ 3 ∨ 4 ≤ e.state by omega) with h3 | h4
    · rw [h.ok.lo h3]; exact Int.le_refl _
    · have := (h.ok.hi h4).1; omega)
  have HMay := fun o => may_any f.k f.c (w.alloc o) (hW.later (hb o))
  have HCar := fun o => carries_any f.k f.info.size (w.alloc o)
  by_cases ht : e.tei < 0
  · rw [Em.frame_no e f _ h.out (Or.inl ht)]
    have HN : Hid (∀ o, Told C w (w.alloc o) lab (.slice none 0 0) e) := fun o => h.nothing (hb o)
    have hd : decide (0 ≤ e.tei) = false := decide_eq_false (by omega)
    rw [hd] at HTE
    obtain ⟨sapi, tei, c, k, pf, ns, nr, info⟩ := f
    unfold frmV
    clear h hd ht hb HMay HCar hW
    go_enter Tryd.func10, Tryd.ntmps10
    go_wp2_with fail
    refine (HM _).mono ?_
    rintro r w1 ⟨rfl, rfl⟩
    clear HM
    go_wp2_with fail
    refine (HTE _).mono ?_
    rintro r w1 ⟨rfl, rfl⟩
    clear HTE
    go_wp2
    go_ret
    exact ⟨_, rfl, HN.out _⟩
  · have hd : decide (0 ≤ e.tei) = true := decide_eq_true (by omega)
    rw [hd] at HTE
    cases hmay : Xm.mayB f.k f.c with
    | false =>
      rw [Em.frame_no e f _ h.out (Or.inr (by unfold Em.may; rw [hmay]; rfl))]
      have HN : Hid (∀ o, Told C w (w.alloc o) lab (.slice none 0 0) e) := fun o => h.nothing (hb o)
      rw [hmay] at HMay
      obtain ⟨sapi, tei, c, k, pf, ns, nr, info⟩ := f
      unfold frmV
      clear h hd ht hb HCar hW hmay
      go_enter Tryd.func10, Tryd.ntmps10
      go_wp2_with fail
      refine (HM _).mono ?_
      rintro r w1 ⟨rfl, rfl⟩
      clear HM
      go_wp2_with fail
      refine (HTE _).mono ?_
      rintro r w1 ⟨rfl, rfl⟩
      clear HTE
      go_wp2_with fail
      refine (HMay _).mono ?_
      rintro r w1 ⟨rfl, rfl⟩
      clear HMay
      go_wp2
      go_ret
      exact ⟨_, rfl, HN.out _⟩
    | true =>
      rw [hmay] at HMay
      cases hcar : Xm.carB f.k f.info.size with
      | false =>
        rw [Em.frame_no e f _ h.out (Or.inr (by unfold Em.may; rw [hcar, Bool.and_false]))]
        have HN : Hid (∀ o, Told C w (w.alloc o) lab (.slice none 0 0) e) := fun o => h.nothing (hb o)
        rw [hcar] at HCar
        obtain ⟨sapi, tei, c, k, pf, ns, nr, info⟩ := f
        unfold frmV
        clear h hd ht hb hW hmay hcar
        go_enter Tryd.func10, Tryd.ntmps10
        go_wp2_with fail
        refine (HM _).mono ?_
        rintro r w1 ⟨rfl, rfl⟩
        clear HM
        go_wp2_with fail
        refine (HTE _).mono ?_
        rintro r w1 ⟨rfl, rfl⟩
        clear HTE
        go_wp2_with fail
        refine (HMay _).mono ?_
        rintro r w1 ⟨rfl, rfl⟩
        clear HMay
        go_wp2_with fail
        refine (HCar _).mono ?_
        rintro r w1 ⟨rfl, rfl⟩
        clear HCar
        go_wp2
        go_ret
        exact ⟨_, rfl, HN.out _⟩
      | true =>
        have hm : Em.may f = true := by unfold Em.may; rw [hmay, hcar]; rfl
        have hok := Em.frame_ok h.ok true f
        have htm := Em.frame_tm h.tm h.ok true f
        rw [hm]
        rw [Em.frame_yes e f h.out (by omega)] at hok htm ⊢
        have hk := Xm.may_known hmay
        rw [hcar] at HCar
        have h4 : 4 ≤ e.state := by
          rcases (show e.state ≤ 3 ∨ 4 ≤ e.state by omega) with h3 | h4
          · have := h.ok.lo h3; omega
          · exact h4
        have HC : Hid (∀ o, Calls Tryd.prog 25 #[.pointer (some ⟨C, 0, none⟩), frmV f] (w.alloc o) fun r w' => r = .returned (.tuple #[]) ∧ Mv (En C) w w' lab (Em.come e f)) := by
          intro o
          exact (h.en.same (hb o)).call fun lab1 h1 => come_any C lab1 e f _ h1 (by rw [h.out]; exact Nat.zero_le _) h.ok.fl h4 h.ok.s1 s0 s1 r0 r1 hk.1 hk.2
        have HT : Hid (∀ w1, Mv (En C) w w1 lab (Em.come e f) → Calls Tryd.prog 16 #[.pointer (some ⟨C, 0, none⟩)] w1 fun r w' => ∃ v, r = .returned v ∧ Told C w w' lab v (Em.come e f)) := fun w1 hm => told_any C lab e _ w w1 h hm hok htm
        obtain ⟨sapi, tei, c, k, pf, ns, nr, info⟩ := f
        unfold frmV at HC ⊢
        clear h hd ht hb hW hmay hcar hm hok htm hk h4
        go_enter Tryd.func10, Tryd.ntmps10
        go_wp2_with fail
        refine (HM _).mono ?_
        rintro r w1 ⟨rfl, rfl⟩
        clear HM
        go_wp2_with fail
        refine (HTE _).mono ?_
        rintro r w1 ⟨rfl, rfl⟩
        clear HTE
        go_wp2_with fail
        refine (HMay _).mono ?_
        rintro r w1 ⟨rfl, rfl⟩
        clear HMay
        go_wp2_with fail
        refine (HCar _).mono ?_
        rintro r w1 ⟨rfl, rfl⟩
        clear HCar
        go_wp2_with fail
        refine (HC.out _).mono ?_
        rintro r w2 ⟨rfl, hm⟩
        have hT := HT.out _ hm
        clear HC HT hm
        go_wp2_with fail
        refine hT.mono ?_
        rintro r w3 ⟨v, rfl, ht⟩
        have HTT := (show Hid _ from ht)
        clear hT ht
        go_wp2
        go_ret
        exact ⟨v, rfl, HTT.out⟩
end Go.Proofs.YtdfoicngcahajaaDoor
