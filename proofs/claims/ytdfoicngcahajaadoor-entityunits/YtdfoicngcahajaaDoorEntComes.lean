/-
  The walks of what an entity does when a frame comes in the states Assigned, Connecting, Releasing; of its opening, counting, trying again.
  The walks of what an entity does when RR, RNR, REJ come, and of its trying again.
-/
import Derived.Test.YtdfoicngcahajaaDoorEntStep
namespace Go.Proofs.YtdfoicngcahajaaDoor
open Go.RowKit
set_option linter.unusedVariables false
set_option maxRecDepth 100000
set_option linter.unusedSimpArgs false

theorem Em.unsure_fl {e : Em.St} (h : Em.FlOk e.fl) : Em.FlOk (Em.unsure e).fl := by
  unfold Em.unsure
  split
  · exact h.clear
  · exact h
theorem Em.len_strange (e : Em.St) (f : Em.Fr) : (Em.strange e f).out.length = e.out.length + 1 := Em.len_tell _ _ _

set_option maxHeartbeats 1000000 in
theorem open_any (C : Nat) (lab : Nat → Nat) (e : Em.St) (w : World) (h : En C w lab e) (hl : e.out.length ≤ 400000) (ok : Em.FlOk e.fl) :
    Calls Tryd.prog 63 #[.pointer (some ⟨C, 0, none⟩)] w fun r w' => r = .returned (.tuple #[]) ∧ Mv (En C) w w' lab (Em.open' e) := by
  have HE0 : Hid (Mv (En C) w w lab e) := h.same (Below.refl _ _)
  clear h
  obtain ⟨D, G, fc, fC, fD, ffl, fmv⟩ := HE0.out.flow
  have HFL : Hid (Fl (w) D G (e).fl) := ffl
  have HMV : Hid (∀ w' σ', Mvf (w) w' D G σ' → Mv (En C) w w' lab { (e) with fl := σ' }) := fmv
  clear ffl fmv
  go_enter Tryd.func63, Tryd.ntmps63
  go_wp2_with fail
  refine (freset_any D G _  _ HFL.out).mono ?_
  rintro r w1 ⟨rfl, hm⟩
  have HE1 : Hid (Mv (En C) w w1 lab ({ e with fl := Wm.resetT e.fl })) := HMV.out _ _ hm
  clear HE0 hm HFL HMV fc fC fD
  go_wp2_with fail
  refine (HE1.out.call fun lab1 h1 => rest_any C lab1 _  _ h1 (by show e.out.length ≤ _; omega)).mono ?_
  rintro r w2 ⟨rfl, hm⟩
  have HE2 : Hid (Mv (En C) w w2 lab (Em.start203 (Em.stop200 { e with fl := Wm.resetT e.fl }))) := hm
  clear HE1 hm
  have ha2 := HE2.out.cells
  have k20 := ha2.c0
  have l2 := ha2.lt
  have g2 := ha2.f 0 (by decide)
  clear ha2
  have HE3 : Hid (Mv (En C) w (w2.setCell ⟨C, 0, none⟩ (.int .i64 7)) lab ({ Em.start203 (Em.stop200 { e with fl := Wm.resetT e.fl }) with state := 7 })) := HE2.out.trans fun _ hx => hx.setState 7
  go_wp2_with fail
  refine (HE3.out.call fun lab1 h1 => goOn_any C lab1 _  _ h1 (by have := Em.len_rest { e with fl := Wm.resetT e.fl }; have h2 : ({ e with fl := Wm.resetT e.fl } : Em.St).out.length = e.out.length := rfl; show (Em.start203 (Em.stop200 { e with fl := Wm.resetT e.fl })).out.length ≤ _; omega) (by have hk := (Em.stop200_keep { e with fl := Wm.resetT e.fl }).trans (Em.start203_keep _); show Em.FlOk (Em.start203 (Em.stop200 { e with fl := Wm.resetT e.fl })).fl; rw [hk.fl]; exact ok.reset)).mono ?_
  rintro r w4 ⟨rfl, hm⟩
  have HE4 : Hid (Mv (En C) w w4 lab (Em.open' e)) := hm
  clear HE3 hm
  go_wp2
  go_end0
  exact ⟨rfl, HE4.out⟩

set_option maxHeartbeats 1000000 in
theorem count_any (C : Nat) (lab : Nat → Nat) (e : Em.St) (n : Int) (w : World) (h : En C w lab e) (hl : e.out.length ≤ 700000) :
    Calls Tryd.prog 76 #[.pointer (some ⟨C, 0, none⟩), .int .i64 n] w fun r w' => r = .returned (.tuple #[]) ∧ Mv (En C) w w' lab (Em.count e n) := by
  obtain ⟨D, G, c2, hD, hfl, -⟩ := h.flow
  have hlt := h.cs.lt
  have HV := fview_any D G e.fl w hfl
  unfold vwV at HV
  have HE : Hid (En C w lab e) := h
  clear h hfl
  unfold Em.count
  by_cases hv : e.fl.va = e.fl.vs
  · rw [if_pos hv]
    have heq : (e.fl.va == e.fl.vs) = true := by simp; exact hv
    generalize e.fl.va = va at HV heq
    generalize e.fl.vs = vs at HV heq
    clear hv
    go_enter Tryd.func76, Tryd.ntmps76
    go_wp2_with fail
    refine HV.mono ?_
    rintro r w1 ⟨rfl, hb⟩
    have HE0 : Hid (∀ o, Mv (En C) w (w1.alloc o) lab e) := fun o => (HE.out.same hb).then ((Below.refl _ _).alloc (Nat.le_refl _) o)
    have hfv0 := vfield0 w1
    have hfv1 := vfield1 w1
    clear HV hb HE c2 hD hlt
    go_wp2_with fail
    refine ((HE0.out _).call fun lab1 h1 => rest_any C lab1 _ _ h1 (by omega)).mono ?_
    rintro r w2 ⟨rfl, hm⟩
    have HE1 : Hid (Mv (En C) w w2 lab (Em.start203 (Em.stop200 e))) := hm
    clear HE0 hm hfv0 hfv1
    go_wp2
    go_end0
    exact ⟨rfl, HE1.out⟩
  · rw [if_neg hv]
    have heq : (e.fl.va == e.fl.vs) = false := by simp; exact hv
    generalize e.fl.va = va at HV heq
    generalize e.fl.vs = vs at HV heq
    clear hv
    by_cases hn : 0 < n
    · rw [if_pos hn]
      go_enter Tryd.func76, Tryd.ntmps76
      go_wp2_with fail
      refine HV.mono ?_
      rintro r w1 ⟨rfl, hb⟩
      have HE0 : Hid (∀ o, Mv (En C) w (w1.alloc o) lab e) := fun o => (HE.out.same hb).then ((Below.refl _ _).alloc (Nat.le_refl _) o)
      have hfv0 := vfield0 w1
      have hfv1 := vfield1 w1
      clear HV hb HE c2 hD hlt
      go_wp2_with fail
      refine ((HE0.out _).call fun lab1 h1 => start_any C lab1 _ 200 _ h1 (by omega) (Or.inl rfl)).mono ?_
      rintro r w2 ⟨rfl, hm⟩
      have HE1 : Hid (Mv (En C) w w2 lab (Em.start200 e)) := hm
      clear HE0 hm hfv0 hfv1
      go_wp2
      go_end0
      exact ⟨rfl, HE1.out⟩
    · rw [if_neg hn]
      go_enter Tryd.func76, Tryd.ntmps76
      go_wp2_with fail
      refine HV.mono ?_
      rintro r w1 ⟨rfl, hb⟩
      have HE0 : Hid (∀ o, Mv (En C) w (w1.alloc o) lab e) := fun o => (HE.out.same hb).then ((Below.refl _ _).alloc (Nat.le_refl _) o)
      have hfv0 := vfield0 w1
      have hfv1 := vfield1 w1
      clear HV hb HE c2 hD hlt
      go_wp2
      go_end0
      exact ⟨rfl, HE0.out _⟩

set_option maxHeartbeats 1000000 in
theorem released_any (C : Nat) (lab : Nat → Nat) (e : Em.St) (w : World) (h : En C w lab e) (hl : e.out.length ≤ 600000) :
    Calls Tryd.prog 66 #[.pointer (some ⟨C, 0, none⟩)] w fun r w' => r = .returned (.tuple #[]) ∧ Mv (En C) w w' lab (Em.end' (Em.tell e 4 ByteArray.empty)) := by
  have HE0 : Hid (Mv (En C) w w lab e) := h.same (Below.refl _ _)
  clear h
  go_enter Tryd.func66, Tryd.ntmps66
  go_wp2_with fail
  refine (HE0.out.call fun lab1 h1 => tell_any C lab1 _ ⟨4, Em.fr0, ByteArray.empty, 0⟩ _ h1 (by omega)).mono ?_
  rintro r w1 ⟨rfl, hm⟩
  have HE1 : Hid (Mv (En C) w w1 lab (Em.tell e 4 ByteArray.empty)) := hm
  clear HE0 hm
  go_wp2_with fail
  refine (HE1.out.call fun lab1 h1 => end_any C lab1 _  _ h1 (by rw [Em.len_tell]; omega)).mono ?_
  rintro r w2 ⟨rfl, hm⟩
  have HE2 : Hid (Mv (En C) w w2 lab (Em.end' (Em.tell e 4 ByteArray.empty))) := hm
  clear HE1 hm
  go_wp2
  go_end0
  exact ⟨rfl, HE2.out⟩

/-- the peer took its call -/
def Em.conn (e : Em.St) : Em.St := Em.open' { (if e.asked then Em.tell e 2 ByteArray.empty else Em.unsure e) with asked := false }
set_option maxHeartbeats 1000000 in
theorem connected_any (C : Nat) (lab : Nat → Nat) (e : Em.St) (w : World) (h : En C w lab e) (hl : e.out.length ≤ 300000) (ok : Em.FlOk e.fl) :
    Calls Tryd.prog 65 #[.pointer (some ⟨C, 0, none⟩)] w fun r w' => r = .returned (.tuple #[]) ∧ Mv (En C) w w' lab (Em.conn e) := by
  have HE0 : Hid (Mv (En C) w w lab e) := h.same (Below.refl _ _)
  have c5 := h.cs.c5
  have hlt := h.cs.lt
  clear h
  unfold Em.conn
  cases ha : e.asked with
  | true =>
    rw [ha] at c5
    rw [if_pos rfl]
    clear ha
    go_enter Tryd.func65, Tryd.ntmps65
    go_wp2_with fail
    refine (HE0.out.call fun lab1 h1 => tell_any C lab1 _ ⟨2, Em.fr0, ByteArray.empty, 0⟩ _ h1 (by omega)).mono ?_
    rintro r w1 ⟨rfl, hm⟩
    have HE1 : Hid (Mv (En C) w w1 lab (Em.tell e 2 ByteArray.empty)) := hm
    clear HE0 hm
    have ha1 := HE1.out.cells
    have k15 := ha1.c5
    have l1 := ha1.lt
    have g1 := ha1.f 5 (by decide)
    clear ha1
    have HE2 : Hid (Mv (En C) w (w1.setCell ⟨C, 5, none⟩ (.bool false)) lab ({ Em.tell e 2 ByteArray.empty with asked := false })) := HE1.out.trans fun _ hx => hx.setAsked false
    go_wp2_with fail
    refine (HE2.out.call fun lab1 h1 => open_any C lab1 _  _ h1 (by show (Em.tell e 2 ByteArray.empty).out.length ≤ _; rw [Em.len_tell]; omega) ok).mono ?_
    rintro r w3 ⟨rfl, hm⟩
    have HE3 : Hid (Mv (En C) w w3 lab (Em.open' { Em.tell e 2 ByteArray.empty with asked := false })) := hm
    clear HE2 hm
    go_wp2
    go_end0
    exact ⟨rfl, HE3.out⟩
  | false =>
    rw [ha] at c5
    rw [if_neg (by decide)]
    clear ha
    go_enter Tryd.func65, Tryd.ntmps65
    go_wp2_with fail
    refine (HE0.out.call fun lab1 h1 => giveUp_any C lab1 _  _ h1 (by omega)).mono ?_
    rintro r w1 ⟨rfl, hm⟩
    have HE1 : Hid (Mv (En C) w w1 lab (Em.unsure e)) := hm
    clear HE0 hm
    have ha1 := HE1.out.cells
    have k15 := ha1.c5
    have l1 := ha1.lt
    have g1 := ha1.f 5 (by decide)
    clear ha1
    have HE2 : Hid (Mv (En C) w (w1.setCell ⟨C, 5, none⟩ (.bool false)) lab ({ Em.unsure e with asked := false })) := HE1.out.trans fun _ hx => hx.setAsked false
    go_wp2_with fail
    refine (HE2.out.call fun lab1 h1 => open_any C lab1 _  _ h1 (by show (Em.unsure e).out.length ≤ _; have := Em.len_unsure e; omega) (Em.unsure_fl ok)).mono ?_
    rintro r w3 ⟨rfl, hm⟩
    have HE3 : Hid (Mv (En C) w w3 lab (Em.open' { Em.unsure e with asked := false })) := hm
    clear HE2 hm
    go_wp2
    go_end0
    exact ⟨rfl, HE3.out⟩

set_option maxHeartbeats 1000000 in
theorem comeAssigned_any (C : Nat) (lab : Nat → Nat) (e : Em.St) (f : Em.Fr) (w : World) (h : En C w lab e) (hl : e.out.length ≤ 200000) (ok : Em.FlOk e.fl) :
    Calls Tryd.prog 41 #[.pointer (some ⟨C, 0, none⟩), frmV f] w fun r w' => r = .returned (.tuple #[]) ∧ Mv (En C) w w' lab (Em.inAssigned e f) := by
  obtain ⟨sapi, tei, c, k, pf, ns, nr, info⟩ := f
  have HB : Hid (∀ o, Mv (En C) w (w.alloc o) lab e) := fun o => h.same ((Below.refl _ _).alloc (Nat.le_refl _) o)
  clear h
  unfold frmV
  rcases (show k = 4 ∨ k = 7 ∨ k = 8 ∨ k = 5 ∨ (¬ k = 4 ∧ ¬ k = 7 ∧ ¬ k = 8 ∧ ¬ k = 5) by omega) with rfl | rfl | rfl | rfl | ⟨e4, e7, e8, e5⟩
  · have hres : Em.inAssigned e ⟨sapi, tei, c, 4, pf, ns, nr, info⟩ = Em.open' (Em.tell (Em.send e (Em.bare false 8 pf)) 1 ByteArray.empty) := by first | rfl | (unfold Em.inAssigned; simp)
    rw [hres]
    clear hres
    have HE0 : Hid (Mv (En C) w (w.alloc (.cells #[.int .i64 sapi, .int .i64 tei, .bool c, .int .i64 4, .bool pf, .int .i64 ns, .int .i64 nr, .string info] 31)) lab e) := HB.out _
    clear HB
    go_enter Tryd.func41, Tryd.ntmps41
    go_wp2_with fail
    refine (HE0.out.call fun lab1 h1 => respond_any C lab1 _ 8 pf _ h1 (by omega)).mono ?_
    rintro r w1 ⟨rfl, hm⟩
    have HE1 : Hid (Mv (En C) w w1 lab (Em.send e (Em.bare false 8 pf))) := hm
    clear HE0 hm
    go_wp2_with fail
    refine (HE1.out.call fun lab1 h1 => tell_any C lab1 _ ⟨1, Em.fr0, ByteArray.empty, 0⟩ _ h1 (by rw [Em.len_send]; omega)).mono ?_
    rintro r w2 ⟨rfl, hm⟩
    have HE2 : Hid (Mv (En C) w w2 lab (Em.tell (Em.send e (Em.bare false 8 pf)) 1 ByteArray.empty)) := hm
    clear HE1 hm
    go_wp2_with fail
    refine (HE2.out.call fun lab1 h1 => open_any C lab1 _  _ h1 (by rw [Em.len_tell, Em.len_send]; omega) ok).mono ?_
    rintro r w3 ⟨rfl, hm⟩
    have HE3 : Hid (Mv (En C) w w3 lab (Em.open' (Em.tell (Em.send e (Em.bare false 8 pf)) 1 ByteArray.empty))) := hm
    clear HE2 hm
    go_wp2
    go_end0
    exact ⟨rfl, HE3.out⟩
  · have hres : Em.inAssigned e ⟨sapi, tei, c, 7, pf, ns, nr, info⟩ = Em.send e (Em.bare false 5 pf) := by first | rfl | (unfold Em.inAssigned; simp)
    rw [hres]
    clear hres
    have HE0 : Hid (Mv (En C) w (w.alloc (.cells #[.int .i64 sapi, .int .i64 tei, .bool c, .int .i64 7, .bool pf, .int .i64 ns, .int .i64 nr, .string info] 31)) lab e) := HB.out _
    clear HB
    go_enter Tryd.func41, Tryd.ntmps41
    go_wp2_with fail
    refine (HE0.out.call fun lab1 h1 => respond_any C lab1 _ 5 pf _ h1 (by omega)).mono ?_
    rintro r w1 ⟨rfl, hm⟩
    have HE1 : Hid (Mv (En C) w w1 lab (Em.send e (Em.bare false 5 pf))) := hm
    clear HE0 hm
    go_wp2
    go_end0
    exact ⟨rfl, HE1.out⟩
  · have hres : Em.inAssigned e ⟨sapi, tei, c, 8, pf, ns, nr, info⟩ = Em.strange e ⟨sapi, tei, c, 8, pf, ns, nr, info⟩ := by first | rfl | (unfold Em.inAssigned; simp)
    rw [hres]
    clear hres
    have HE0 : Hid (Mv (En C) w (w.alloc (.cells #[.int .i64 sapi, .int .i64 tei, .bool c, .int .i64 8, .bool pf, .int .i64 ns, .int .i64 nr, .string info] 31)) lab e) := HB.out _
    clear HB
    go_enter Tryd.func41, Tryd.ntmps41
    go_wp2_with fail
    refine (HE0.out.call fun lab1 h1 => refuseUA_any C lab1 _ ⟨sapi, tei, c, 8, pf, ns, nr, info⟩ _ h1 (by omega)).mono ?_
    rintro r w1 ⟨rfl, hm⟩
    have HE1 : Hid (Mv (En C) w w1 lab (Em.strange e ⟨sapi, tei, c, 8, pf, ns, nr, info⟩)) := hm
    clear HE0 hm
    go_wp2
    go_end0
    exact ⟨rfl, HE1.out⟩
  · cases pf with
    | true =>
      have hres : Em.inAssigned e ⟨sapi, tei, c, 5, true, ns, nr, info⟩ = e := by first | rfl | (unfold Em.inAssigned; simp)
      rw [hres]
      clear hres
      have HE0 : Hid (Mv (En C) w (w.alloc (.cells #[.int .i64 sapi, .int .i64 tei, .bool c, .int .i64 5, .bool true, .int .i64 ns, .int .i64 nr, .string info] 31)) lab e) := HB.out _
      clear HB
      go_enter Tryd.func41, Tryd.ntmps41
      go_wp2
      go_end0
      exact ⟨rfl, HE0.out⟩
    | false =>
      have hres : Em.inAssigned e ⟨sapi, tei, c, 5, false, ns, nr, info⟩ = Em.call { e with asked := true } := by first | rfl | (unfold Em.inAssigned; simp)
      rw [hres]
      clear hres
      have HE0 : Hid (Mv (En C) w (w.alloc (.cells #[.int .i64 sapi, .int .i64 tei, .bool c, .int .i64 5, .bool false, .int .i64 ns, .int .i64 nr, .string info] 31)) lab e) := HB.out _
      clear HB
      go_enter Tryd.func41, Tryd.ntmps41
      go_wp2_with fail
      refine (HE0.out.call fun lab1 h1 => callAsked_any C lab1 _  _ h1 (by omega)).mono ?_
      rintro r w1 ⟨rfl, hm⟩
      have HE1 : Hid (Mv (En C) w w1 lab (Em.call { e with asked := true })) := hm
      clear HE0 hm
      go_wp2
      go_end0
      exact ⟨rfl, HE1.out⟩
  · have hres : Em.inAssigned e ⟨sapi, tei, c, k, pf, ns, nr, info⟩ = e := by unfold Em.inAssigned; simp [e4, e7, e8, e5]
    rw [hres]
    have n4 : (k == 4) = false := by simp; exact e4
    have n7 : (k == 7) = false := by simp; exact e7
    have n8 : (k == 8) = false := by simp; exact e8
    have n5 : (k == 5) = false := by simp; exact e5
    clear hres e4 e7 e8 e5
    have HE0 : Hid (Mv (En C) w (w.alloc (.cells #[.int .i64 sapi, .int .i64 tei, .bool c, .int .i64 k, .bool pf, .int .i64 ns, .int .i64 nr, .string info] 31)) lab e) := HB.out _
    clear HB
    go_enter Tryd.func41, Tryd.ntmps41
    go_wp2
    go_end0
    exact ⟨rfl, HE0.out⟩

set_option maxHeartbeats 1000000 in
theorem comeConnecting_any (C : Nat) (lab : Nat → Nat) (e : Em.St) (f : Em.Fr) (w : World) (h : En C w lab e) (hl : e.out.length ≤ 200000) (ok : Em.FlOk e.fl) :
    Calls Tryd.prog 42 #[.pointer (some ⟨C, 0, none⟩), frmV f] w fun r w' => r = .returned (.tuple #[]) ∧ Mv (En C) w w' lab (Em.inConnecting e f) := by
  obtain ⟨sapi, tei, c, k, pf, ns, nr, info⟩ := f
  have HB : Hid (∀ o, Mv (En C) w (w.alloc o) lab e) := fun o => h.same ((Below.refl _ _).alloc (Nat.le_refl _) o)
  clear h
  unfold frmV
  rcases (show k = 4 ∨ k = 7 ∨ k = 8 ∨ k = 5 ∨ (¬ k = 4 ∧ ¬ k = 7 ∧ ¬ k = 8 ∧ ¬ k = 5) by omega) with rfl | rfl | rfl | rfl | ⟨e4, e7, e8, e5⟩
  · have hres : Em.inConnecting e ⟨sapi, tei, c, 4, pf, ns, nr, info⟩ = Em.send e (Em.bare false 8 pf) := by first | rfl | (unfold Em.inConnecting; simp)
    rw [hres]
    clear hres
    have HE0 : Hid (Mv (En C) w (w.alloc (.cells #[.int .i64 sapi, .int .i64 tei, .bool c, .int .i64 4, .bool pf, .int .i64 ns, .int .i64 nr, .string info] 31)) lab e) := HB.out _
    clear HB
    go_enter Tryd.func42, Tryd.ntmps42
    go_wp2_with fail
    refine (HE0.out.call fun lab1 h1 => respond_any C lab1 _ 8 pf _ h1 (by omega)).mono ?_
    rintro r w1 ⟨rfl, hm⟩
    have HE1 : Hid (Mv (En C) w w1 lab (Em.send e (Em.bare false 8 pf))) := hm
    clear HE0 hm
    go_wp2
    go_end0
    exact ⟨rfl, HE1.out⟩
  · have hres : Em.inConnecting e ⟨sapi, tei, c, 7, pf, ns, nr, info⟩ = Em.send e (Em.bare false 5 pf) := by first | rfl | (unfold Em.inConnecting; simp)
    rw [hres]
    clear hres
    have HE0 : Hid (Mv (En C) w (w.alloc (.cells #[.int .i64 sapi, .int .i64 tei, .bool c, .int .i64 7, .bool pf, .int .i64 ns, .int .i64 nr, .string info] 31)) lab e) := HB.out _
    clear HB
    go_enter Tryd.func42, Tryd.ntmps42
    go_wp2_with fail
    refine (HE0.out.call fun lab1 h1 => respond_any C lab1 _ 5 pf _ h1 (by omega)).mono ?_
    rintro r w1 ⟨rfl, hm⟩
    have HE1 : Hid (Mv (En C) w w1 lab (Em.send e (Em.bare false 5 pf))) := hm
    clear HE0 hm
    go_wp2
    go_end0
    exact ⟨rfl, HE1.out⟩
  · cases pf with
    | true =>
      have hres : Em.inConnecting e ⟨sapi, tei, c, 8, true, ns, nr, info⟩ = Em.conn e := by first | rfl | (unfold Em.inConnecting; simp)
      rw [hres]
      clear hres
      have HE0 : Hid (Mv (En C) w (w.alloc (.cells #[.int .i64 sapi, .int .i64 tei, .bool c, .int .i64 8, .bool true, .int .i64 ns, .int .i64 nr, .string info] 31)) lab e) := HB.out _
      clear HB
      go_enter Tryd.func42, Tryd.ntmps42
      go_wp2_with fail
      refine (HE0.out.call fun lab1 h1 => connected_any C lab1 _  _ h1 (by omega) ok).mono ?_
      rintro r w1 ⟨rfl, hm⟩
      have HE1 : Hid (Mv (En C) w w1 lab (Em.conn e)) := hm
      clear HE0 hm
      go_wp2
      go_end0
      exact ⟨rfl, HE1.out⟩
    | false =>
      have hres : Em.inConnecting e ⟨sapi, tei, c, 8, false, ns, nr, info⟩ = Em.tell e 7 (Em.letter 68) := by first | rfl | (unfold Em.inConnecting; simp)
      rw [hres]
      clear hres
      have HE0 : Hid (Mv (En C) w (w.alloc (.cells #[.int .i64 sapi, .int .i64 tei, .bool c, .int .i64 8, .bool false, .int .i64 ns, .int .i64 nr, .string info] 31)) lab e) := HB.out _
      clear HB
      go_enter Tryd.func42, Tryd.ntmps42
      go_wp2_with fail
      refine (HE0.out.call fun lab1 h1 => err_any C lab1 _ (Em.letter 68) _ h1 (by omega)).mono ?_
      rintro r w1 ⟨rfl, hm⟩
      have HE1 : Hid (Mv (En C) w w1 lab (Em.tell e 7 (Em.letter 68))) := hm
      clear HE0 hm
      go_wp2
      go_end0
      exact ⟨rfl, HE1.out⟩
  · cases pf with
    | true =>
      have hres : Em.inConnecting e ⟨sapi, tei, c, 5, true, ns, nr, info⟩ = Em.end' (Em.tell e 3 ByteArray.empty) := by first | rfl | (unfold Em.inConnecting; simp)
      rw [hres]
      clear hres
      have HE0 : Hid (Mv (En C) w (w.alloc (.cells #[.int .i64 sapi, .int .i64 tei, .bool c, .int .i64 5, .bool true, .int .i64 ns, .int .i64 nr, .string info] 31)) lab e) := HB.out _
      clear HB
      go_enter Tryd.func42, Tryd.ntmps42
      go_wp2_with fail
      refine (HE0.out.call fun lab1 h1 => tell_any C lab1 _ ⟨3, Em.fr0, ByteArray.empty, 0⟩ _ h1 (by omega)).mono ?_
      rintro r w1 ⟨rfl, hm⟩
      have HE1 : Hid (Mv (En C) w w1 lab (Em.tell e 3 ByteArray.empty)) := hm
      clear HE0 hm
      go_wp2_with fail
      refine (HE1.out.call fun lab1 h1 => end_any C lab1 _  _ h1 (by rw [Em.len_tell]; omega)).mono ?_
      rintro r w2 ⟨rfl, hm⟩
      have HE2 : Hid (Mv (En C) w w2 lab (Em.end' (Em.tell e 3 ByteArray.empty))) := hm
      clear HE1 hm
      go_wp2
      go_end0
      exact ⟨rfl, HE2.out⟩
    | false =>
      have hres : Em.inConnecting e ⟨sapi, tei, c, 5, false, ns, nr, info⟩ = e := by first | rfl | (unfold Em.inConnecting; simp)
      rw [hres]
      clear hres
      have HE0 : Hid (Mv (En C) w (w.alloc (.cells #[.int .i64 sapi, .int .i64 tei, .bool c, .int .i64 5, .bool false, .int .i64 ns, .int .i64 nr, .string info] 31)) lab e) := HB.out _
      clear HB
      go_enter Tryd.func42, Tryd.ntmps42
      go_wp2
      go_end0
      exact ⟨rfl, HE0.out⟩
  · have hres : Em.inConnecting e ⟨sapi, tei, c, k, pf, ns, nr, info⟩ = e := by unfold Em.inConnecting; simp [e4, e7, e8, e5]
    rw [hres]
    have n4 : (k == 4) = false := by simp; exact e4
    have n7 : (k == 7) = false := by simp; exact e7
    have n8 : (k == 8) = false := by simp; exact e8
    have n5 : (k == 5) = false := by simp; exact e5
    clear hres e4 e7 e8 e5
    have HE0 : Hid (Mv (En C) w (w.alloc (.cells #[.int .i64 sapi, .int .i64 tei, .bool c, .int .i64 k, .bool pf, .int .i64 ns, .int .i64 nr, .string info] 31)) lab e) := HB.out _
    clear HB
    go_enter Tryd.func42, Tryd.ntmps42
    go_wp2
    go_end0
    exact ⟨rfl, HE0.out⟩

set_option maxHeartbeats 1000000 in
theorem comeReleasing_any (C : Nat) (lab : Nat → Nat) (e : Em.St) (f : Em.Fr) (w : World) (h : En C w lab e) (hl : e.out.length ≤ 200000) :
    Calls Tryd.prog 43 #[.pointer (some ⟨C, 0, none⟩), frmV f] w fun r w' => r = .returned (.tuple #[]) ∧ Mv (En C) w w' lab (Em.inReleasing e f) := by
  obtain ⟨sapi, tei, c, k, pf, ns, nr, info⟩ := f
  have HB : Hid (∀ o, Mv (En C) w (w.alloc o) lab e) := fun o => h.same ((Below.refl _ _).alloc (Nat.le_refl _) o)
  clear h
  unfold frmV
  rcases (show k = 4 ∨ k = 7 ∨ k = 8 ∨ k = 5 ∨ (¬ k = 4 ∧ ¬ k = 7 ∧ ¬ k = 8 ∧ ¬ k = 5) by omega) with rfl | rfl | rfl | rfl | ⟨e4, e7, e8, e5⟩
  · have hres : Em.inReleasing e ⟨sapi, tei, c, 4, pf, ns, nr, info⟩ = Em.send e (Em.bare false 5 pf) := by first | rfl | (unfold Em.inReleasing; simp)
    rw [hres]
    clear hres
    have HE0 : Hid (Mv (En C) w (w.alloc (.cells #[.int .i64 sapi, .int .i64 tei, .bool c, .int .i64 4, .bool pf, .int .i64 ns, .int .i64 nr, .string info] 31)) lab e) := HB.out _
    clear HB
    go_enter Tryd.func43, Tryd.ntmps43
    go_wp2_with fail
    refine (HE0.out.call fun lab1 h1 => respond_any C lab1 _ 5 pf _ h1 (by omega)).mono ?_
    rintro r w1 ⟨rfl, hm⟩
    have HE1 : Hid (Mv (En C) w w1 lab (Em.send e (Em.bare false 5 pf))) := hm
    clear HE0 hm
    go_wp2
    go_end0
    exact ⟨rfl, HE1.out⟩
  · have hres : Em.inReleasing e ⟨sapi, tei, c, 7, pf, ns, nr, info⟩ = Em.send e (Em.bare false 8 pf) := by first | rfl | (unfold Em.inReleasing; simp)
    rw [hres]
    clear hres
    have HE0 : Hid (Mv (En C) w (w.alloc (.cells #[.int .i64 sapi, .int .i64 tei, .bool c, .int .i64 7, .bool pf, .int .i64 ns, .int .i64 nr, .string info] 31)) lab e) := HB.out _
    clear HB
    go_enter Tryd.func43, Tryd.ntmps43
    go_wp2_with fail
    refine (HE0.out.call fun lab1 h1 => respond_any C lab1 _ 8 pf _ h1 (by omega)).mono ?_
    rintro r w1 ⟨rfl, hm⟩
    have HE1 : Hid (Mv (En C) w w1 lab (Em.send e (Em.bare false 8 pf))) := hm
    clear HE0 hm
    go_wp2
    go_end0
    exact ⟨rfl, HE1.out⟩
  · cases pf with
    | true =>
      have hres : Em.inReleasing e ⟨sapi, tei, c, 8, true, ns, nr, info⟩ = Em.end' (Em.tell e 4 ByteArray.empty) := by first | rfl | (unfold Em.inReleasing; simp)
      rw [hres]
      clear hres
      have HE0 : Hid (Mv (En C) w (w.alloc (.cells #[.int .i64 sapi, .int .i64 tei, .bool c, .int .i64 8, .bool true, .int .i64 ns, .int .i64 nr, .string info] 31)) lab e) := HB.out _
      clear HB
      go_enter Tryd.func43, Tryd.ntmps43
      go_wp2_with fail
      refine (HE0.out.call fun lab1 h1 => released_any C lab1 _  _ h1 (by omega)).mono ?_
      rintro r w1 ⟨rfl, hm⟩
      have HE1 : Hid (Mv (En C) w w1 lab (Em.end' (Em.tell e 4 ByteArray.empty))) := hm
      clear HE0 hm
      go_wp2
      go_end0
      exact ⟨rfl, HE1.out⟩
    | false =>
      have hres : Em.inReleasing e ⟨sapi, tei, c, 8, false, ns, nr, info⟩ = Em.tell e 7 (Em.letter 68) := by first | rfl | (unfold Em.inReleasing; simp)
      rw [hres]
      clear hres
      have HE0 : Hid (Mv (En C) w (w.alloc (.cells #[.int .i64 sapi, .int .i64 tei, .bool c, .int .i64 8, .bool false, .int .i64 ns, .int .i64 nr, .string info] 31)) lab e) := HB.out _
      clear HB
      go_enter Tryd.func43, Tryd.ntmps43
      go_wp2_with fail
      refine (HE0.out.call fun lab1 h1 => err_any C lab1 _ (Em.letter 68) _ h1 (by omega)).mono ?_
      rintro r w1 ⟨rfl, hm⟩
      have HE1 : Hid (Mv (En C) w w1 lab (Em.tell e 7 (Em.letter 68))) := hm
      clear HE0 hm
      go_wp2
      go_end0
      exact ⟨rfl, HE1.out⟩
  · cases pf with
    | true =>
      have hres : Em.inReleasing e ⟨sapi, tei, c, 5, true, ns, nr, info⟩ = Em.end' (Em.tell e 4 ByteArray.empty) := by first | rfl | (unfold Em.inReleasing; simp)
      rw [hres]
      clear hres
      have HE0 : Hid (Mv (En C) w (w.alloc (.cells #[.int .i64 sapi, .int .i64 tei, .bool c, .int .i64 5, .bool true, .int .i64 ns, .int .i64 nr, .string info] 31)) lab e) := HB.out _
      clear HB
      go_enter Tryd.func43, Tryd.ntmps43
      go_wp2_with fail
      refine (HE0.out.call fun lab1 h1 => released_any C lab1 _  _ h1 (by omega)).mono ?_
      rintro r w1 ⟨rfl, hm⟩
      have HE1 : Hid (Mv (En C) w w1 lab (Em.end' (Em.tell e 4 ByteArray.empty))) := hm
      clear HE0 hm
      go_wp2
      go_end0
      exact ⟨rfl, HE1.out⟩
    | false =>
      have hres : Em.inReleasing e ⟨sapi, tei, c, 5, false, ns, nr, info⟩ = e := by first | rfl | (unfold Em.inReleasing; simp)
      rw [hres]
      clear hres
      have HE0 : Hid (Mv (En C) w (w.alloc (.cells #[.int .i64 sapi, .int .i64 tei, .bool c, .int .i64 5, .bool false, .int .i64 ns, .int .i64 nr, .string info] 31)) lab e) := HB.out _
      clear HB
      go_enter Tryd.func43, Tryd.ntmps43
      go_wp2
      go_end0
      exact ⟨rfl, HE0.out⟩
  · have hres : Em.inReleasing e ⟨sapi, tei, c, k, pf, ns, nr, info⟩ = e := by unfold Em.inReleasing; simp [e4, e7, e8, e5]
    rw [hres]
    have n4 : (k == 4) = false := by simp; exact e4
    have n7 : (k == 7) = false := by simp; exact e7
    have n8 : (k == 8) = false := by simp; exact e8
    have n5 : (k == 5) = false := by simp; exact e5
    clear hres e4 e7 e8 e5
    have HE0 : Hid (Mv (En C) w (w.alloc (.cells #[.int .i64 sapi, .int .i64 tei, .bool c, .int .i64 k, .bool pf, .int .i64 ns, .int .i64 nr, .string info] 31)) lab e) := HB.out _
    clear HB
    go_enter Tryd.func43, Tryd.ntmps43
    go_wp2
    go_end0
    exact ⟨rfl, HE0.out⟩

end Go.Proofs.YtdfoicngcahajaaDoor

namespace Go.Proofs.YtdfoicngcahajaaDoor
open Go.RowKit
set_option linter.unusedVariables false
set_option maxRecDepth 100000
set_option linter.unusedSimpArgs false

/-- behind RR, RNR, REJ in Open -/
def Em.rep (e : Em.St) (k n : Int) : Em.St := Em.goOn (if k = 1 then Em.count e n else if k = 2 then Em.start200 (Em.stop203 e) else { Em.start203 (Em.stop200 e) with fl := Wm.backT (Em.start203 (Em.stop200 e)).fl })
/-- and in Recovery, of a response with F -/
def Em.recov (e : Em.St) (k : Int) : Em.St := Em.goOn { (if k = 2 then Em.start200 e else Em.start203 (Em.stop200 e)) with fl := Wm.backT (if k = 2 then Em.start200 e else Em.start203 (Em.stop200 e)).fl, state := 7 }
theorem Em.rest_fl (e : Em.St) : (Em.start203 (Em.stop200 e)).fl = e.fl := ((Em.stop200_keep e).trans (Em.start203_keep _)).fl
theorem Em.await_fl (e : Em.St) : (Em.start200 (Em.stop203 e)).fl = e.fl := ((Em.stop203_keep e).trans (Em.start200_keep _)).fl

set_option maxHeartbeats 1000000 in
theorem reported_any (C : Nat) (lab : Nat → Nat) (e : Em.St) (k n : Int) (w : World) (h : En C w lab e) (hl : e.out.length ≤ 400000) (ok : Em.FlOk e.fl) (hk : k = 1 ∨ k = 2 ∨ k = 3) :
    Calls Tryd.prog 78 #[.pointer (some ⟨C, 0, none⟩), .int .i64 k, .int .i64 n] w fun r w' => r = .returned (.tuple #[]) ∧ Mv (En C) w w' lab (Em.rep e k n) := by
  have HE0 : Hid (Mv (En C) w w lab e) := h.same (Below.refl _ _)
  clear h
  rcases hk with rfl | rfl | rfl
  · have hres : Em.rep e 1 n = Em.goOn (Em.count e n) := rfl
    rw [hres]
    clear hres
    go_enter Tryd.func78, Tryd.ntmps78
    go_wp2_with fail
    refine (HE0.out.call fun lab1 h1 => count_any C lab1 _ n _ h1 (by omega)).mono ?_
    rintro r w1 ⟨rfl, hm⟩
    have HE1 : Hid (Mv (En C) w w1 lab (Em.count e n)) := hm
    clear HE0 hm
    go_wp2_with fail
    refine (HE1.out.call fun lab1 h1 => goOn_any C lab1 _  _ h1 (by have := Em.len_count e n; omega) (by rw [(Em.count_keep e n).fl]; exact ok)).mono ?_
    rintro r w2 ⟨rfl, hm⟩
    have HE2 : Hid (Mv (En C) w w2 lab (Em.goOn (Em.count e n))) := hm
    clear HE1 hm
    go_wp2
    go_end0
    exact ⟨rfl, HE2.out⟩
  · have hres : Em.rep e 2 n = Em.goOn (Em.start200 (Em.stop203 e)) := rfl
    rw [hres]
    clear hres
    go_enter Tryd.func78, Tryd.ntmps78
    go_wp2_with fail
    refine (HE0.out.call fun lab1 h1 => await_any C lab1 _  _ h1 (by omega)).mono ?_
    rintro r w1 ⟨rfl, hm⟩
    have HE1 : Hid (Mv (En C) w w1 lab (Em.start200 (Em.stop203 e))) := hm
    clear HE0 hm
    go_wp2_with fail
    refine (HE1.out.call fun lab1 h1 => goOn_any C lab1 _  _ h1 (by have := Em.len_await e; omega) (by rw [Em.await_fl]; exact ok)).mono ?_
    rintro r w2 ⟨rfl, hm⟩
    have HE2 : Hid (Mv (En C) w w2 lab (Em.goOn (Em.start200 (Em.stop203 e)))) := hm
    clear HE1 hm
    go_wp2
    go_end0
    exact ⟨rfl, HE2.out⟩
  · have hres : Em.rep e 3 n = Em.goOn { Em.start203 (Em.stop200 e) with fl := Wm.backT (Em.start203 (Em.stop200 e)).fl } := rfl
    rw [hres]
    clear hres
    go_enter Tryd.func78, Tryd.ntmps78
    go_wp2_with fail
    refine (HE0.out.call fun lab1 h1 => rest_any C lab1 _  _ h1 (by omega)).mono ?_
    rintro r w1 ⟨rfl, hm⟩
    have HE1 : Hid (Mv (En C) w w1 lab (Em.start203 (Em.stop200 e))) := hm
    clear HE0 hm
    obtain ⟨D, G, fc, fC, fD, ffl, fmv⟩ := HE1.out.flow
    have HFL : Hid (Fl (w1) D G (Em.start203 (Em.stop200 e)).fl) := ffl
    have HMV : Hid (∀ w' σ', Mvf (w1) w' D G σ' → Mv (En C) w w' lab { (Em.start203 (Em.stop200 e)) with fl := σ' }) := fmv
    clear ffl fmv
    go_wp2_with fail
    refine (fback_any D G _  _ HFL.out).mono ?_
    rintro r w2 ⟨rfl, hm⟩
    have HE2 : Hid (Mv (En C) w w2 lab ({ Em.start203 (Em.stop200 e) with fl := Wm.backT (Em.start203 (Em.stop200 e)).fl })) := HMV.out _ _ hm
    clear HE1 hm HFL HMV fc fC fD
    go_wp2_with fail
    refine (HE2.out.call fun lab1 h1 => goOn_any C lab1 _  _ h1 (by have := Em.len_rest e; show (Em.start203 (Em.stop200 e)).out.length ≤ _; omega) (by show Em.FlOk (Wm.backT (Em.start203 (Em.stop200 e)).fl); rw [Em.rest_fl]; exact ok.back)).mono ?_
    rintro r w3 ⟨rfl, hm⟩
    have HE3 : Hid (Mv (En C) w w3 lab (Em.goOn { Em.start203 (Em.stop200 e) with fl := Wm.backT (Em.start203 (Em.stop200 e)).fl })) := hm
    clear HE2 hm
    go_wp2
    go_end0
    exact ⟨rfl, HE3.out⟩

set_option maxHeartbeats 1000000 in
theorem recovered_any (C : Nat) (lab : Nat → Nat) (e : Em.St) (k : Int) (w : World) (h : En C w lab e) (hl : e.out.length ≤ 400000) (ok : Em.FlOk e.fl) :
    Calls Tryd.prog 79 #[.pointer (some ⟨C, 0, none⟩), .int .i64 k] w fun r w' => r = .returned (.tuple #[]) ∧ Mv (En C) w w' lab (Em.recov e k) := by
  have HE0 : Hid (Mv (En C) w w lab e) := h.same (Below.refl _ _)
  clear h
  unfold Em.recov
  by_cases hk : k = 2
  · rw [if_pos hk]
    subst hk
    go_enter Tryd.func79, Tryd.ntmps79
    go_wp2_with fail
    refine (HE0.out.call fun lab1 h1 => start_any C lab1 _ 200 _ h1 (by omega) (Or.inl rfl)).mono ?_
    rintro r w1 ⟨rfl, hm⟩
    have HE1 : Hid (Mv (En C) w w1 lab (Em.start200 e)) := hm
    clear HE0 hm
    obtain ⟨D, G, fc, fC, fD, ffl, fmv⟩ := HE1.out.flow
    have HFL : Hid (Fl (w1) D G (Em.start200 e).fl) := ffl
    have HMV : Hid (∀ w' σ', Mvf (w1) w' D G σ' → Mv (En C) w w' lab { (Em.start200 e) with fl := σ' }) := fmv
    clear ffl fmv
    go_wp2_with fail
    refine (fback_any D G _  _ HFL.out).mono ?_
    rintro r w2 ⟨rfl, hm⟩
    have HE2 : Hid (Mv (En C) w w2 lab ({ Em.start200 e with fl := Wm.backT (Em.start200 e).fl })) := HMV.out _ _ hm
    clear HE1 hm HFL HMV fc fC fD
    have ha2 := HE2.out.cells
    have k20 := ha2.c0
    have l2 := ha2.lt
    have g2 := ha2.f 0 (by decide)
    clear ha2
    have HE3 : Hid (Mv (En C) w (w2.setCell ⟨C, 0, none⟩ (.int .i64 7)) lab ({ Em.start200 e with fl := Wm.backT (Em.start200 e).fl, state := 7 })) := HE2.out.trans fun _ hx => hx.setState 7
    go_wp2_with fail
    refine (HE3.out.call fun lab1 h1 => goOn_any C lab1 _  _ h1 (by show (Em.start200 e).out.length ≤ _; rw [Em.len_start200]; omega) ok.back).mono ?_
    rintro r w4 ⟨rfl, hm⟩
    have HE4 : Hid (Mv (En C) w w4 lab (Em.goOn { Em.start200 e with fl := Wm.backT (Em.start200 e).fl, state := 7 })) := hm
    clear HE3 hm
    go_wp2
    go_end0
    exact ⟨rfl, HE4.out⟩
  · rw [if_neg hk]
    have n2 : (k == 2) = false := by simp; exact hk
    clear hk
    go_enter Tryd.func79, Tryd.ntmps79
    go_wp2_with fail
    refine (HE0.out.call fun lab1 h1 => rest_any C lab1 _  _ h1 (by omega)).mono ?_
    rintro r w1 ⟨rfl, hm⟩
    have HE1 : Hid (Mv (En C) w w1 lab (Em.start203 (Em.stop200 e))) := hm
    clear HE0 hm
    obtain ⟨D, G, fc, fC, fD, ffl, fmv⟩ := HE1.out.flow
    have HFL : Hid (Fl (w1) D G (Em.start203 (Em.stop200 e)).fl) := ffl
    have HMV : Hid (∀ w' σ', Mvf (w1) w' D G σ' → Mv (En C) w w' lab { (Em.start203 (Em.stop200 e)) with fl := σ' }) := fmv
    clear ffl fmv
    go_wp2_with fail
    refine (fback_any D G _  _ HFL.out).mono ?_
    rintro r w2 ⟨rfl, hm⟩
    have HE2 : Hid (Mv (En C) w w2 lab ({ Em.start203 (Em.stop200 e) with fl := Wm.backT (Em.start203 (Em.stop200 e)).fl })) := HMV.out _ _ hm
    clear HE1 hm HFL HMV fc fC fD
    have ha2 := HE2.out.cells
    have k20 := ha2.c0
    have l2 := ha2.lt
    have g2 := ha2.f 0 (by decide)
    clear ha2
    have HE3 : Hid (Mv (En C) w (w2.setCell ⟨C, 0, none⟩ (.int .i64 7)) lab ({ Em.start203 (Em.stop200 e) with fl := Wm.backT (Em.start203 (Em.stop200 e)).fl, state := 7 })) := HE2.out.trans fun _ hx => hx.setState 7
    go_wp2_with fail
    refine (HE3.out.call fun lab1 h1 => goOn_any C lab1 _  _ h1 (by have := Em.len_rest e; show (Em.start203 (Em.stop200 e)).out.length ≤ _; omega) (by show Em.FlOk (Wm.backT (Em.start203 (Em.stop200 e)).fl); rw [Em.rest_fl]; exact ok.back)).mono ?_
    rintro r w4 ⟨rfl, hm⟩
    have HE4 : Hid (Mv (En C) w w4 lab (Em.goOn { Em.start203 (Em.stop200 e) with fl := Wm.backT (Em.start203 (Em.stop200 e)).fl, state := 7 })) := hm
    clear HE3 hm
    go_wp2
    go_end0
    exact ⟨rfl, HE4.out⟩

theorem drewN_cs {C : Nat} {lab : Nat → Nat} {e : Em.St} {w : World} (h : En C w lab e) (n : Nat) : En C (w.drewN n) lab e := h.below (fdrewN_blw (Below.refl _ _) n)

set_option maxHeartbeats 1000000 in
theorem tryAgain_any (C : Nat) (lab : Nat → Nat) (e : Em.St) (k : Int) (l : ByteArray) (g : Int) (w : World) (h : En C w lab e) (hl : e.out.length ≤ 400000) (r0 : 0 ≤ e.tries) (r1 : e.tries ≤ 32) :
    Calls Tryd.prog 27 #[.pointer (some ⟨C, 0, none⟩), .int .i64 k, .string l, .int .i64 g] w fun r w' => r = .returned (.tuple #[]) ∧ Mv (En C) w w' lab (Em.again e k l g) := by
  have c4 := h.cs.c4
  have hlt := h.cs.lt
  have HN : ∀ n, Calls Tryd.prog 45 #[.pointer (some ⟨C, 0, none⟩)] (w.drewN n) fun r w' => r = .returned (.int .i64 e.most) ∧ w.drewN n = w' := fun n => mostTries_any C lab e _ (drewN_cs h n)
  have HE : Hid (∀ n, Mv (En C) w (w.drewN n) lab e) := fun n => h.same (fdrewN_blw (Below.refl _ _) n)
  clear h
  unfold Em.again
  by_cases ht : e.tries = e.most
  · rw [if_pos ht]
    have heq : (e.tries == e.most) = true := by simp; exact ht
    clear ht
    generalize e.most = mo at HN heq
    generalize e.tries = tr at c4 heq
    go_enter Tryd.func27, Tryd.ntmps27
    go_wp2_with fail
    go_quiet ((go_at_call 45; exact Calls.quiet_of_same ((HN _).mono fun e w' h => ⟨h.1, h.2.symm⟩)))
    have HE0 : Hid (Mv (En C) w (w.drewN nq) lab e) := HE.out nq
    clear HE HN c4 hlt r0 r1 heq
    generalize w.drewN nq = w0 at HE0 ⊢
    go_wp2_with fail
    refine (HE0.out.call fun lab1 h1 => err_any C lab1 _ l _ h1 (by omega)).mono ?_
    rintro r w1 ⟨rfl, hm⟩
    have HE1 : Hid (Mv (En C) w w1 lab (Em.tell e 7 l)) := hm
    clear HE0 hm
    go_wp2_with fail
    refine (HE1.out.call fun lab1 h1 => tell_any C lab1 _ ⟨g, Em.fr0, ByteArray.empty, 0⟩ _ h1 (by rw [Em.len_tell]; omega)).mono ?_
    rintro r w2 ⟨rfl, hm⟩
    have HE2 : Hid (Mv (En C) w w2 lab (Em.tell (Em.tell e 7 l) g ByteArray.empty)) := hm
    clear HE1 hm
    go_wp2_with fail
    refine (HE2.out.call fun lab1 h1 => end_any C lab1 _  _ h1 (by rw [Em.len_tell, Em.len_tell]; omega)).mono ?_
    rintro r w3 ⟨rfl, hm⟩
    have HE3 : Hid (Mv (En C) w w3 lab (Em.end' (Em.tell (Em.tell e 7 l) g ByteArray.empty))) := hm
    clear HE2 hm
    go_wp2
    refine bodyPost_ret (v := .tuple #[]) (results_none rfl _ _ _) rfl ?_
    exact ⟨rfl, HE3.out⟩
  · rw [if_neg ht]
    have heq : (e.tries == e.most) = false := by simp; exact ht
    clear ht
    obtain ⟨tr, htr⟩ : ∃ tr, e.tries = tr := ⟨_, rfl⟩
    rw [htr] at c4 heq r0 r1 ⊢
    have HT : Hid (e.tries = tr) := htr
    clear htr
    go_enter Tryd.func27, Tryd.ntmps27
    go_wp2_with fail
    go_quiet ((go_at_call 45; exact Calls.quiet_of_same ((HN _).mono fun e w' h => ⟨h.1, h.2.symm⟩)))
    have HE0 : Hid (Mv (En C) w (w.drewN nq) lab e) := HE.out nq
    clear HE HN c4 hlt heq
    generalize w.drewN nq = w0 at HE0 ⊢
    have ha0 := HE0.out.cells
    have k04 := ha0.c4
    rw [HT.out] at k04
    have g0 := ha0.f 4 (by decide)
    have l0 := ha0.lt
    clear ha0
    have HE1 : Hid (Mv (En C) w (w0.setCell ⟨C, 4, none⟩ (.int .i64 (tr + 1))) lab { e with tries := tr + 1 }) := HE0.out.trans fun _ hx => hx.setTries (tr + 1)
    go_wp2_with fail
    refine (HE1.out.call fun lab1 h1 => command_any C lab1 _ k _ h1 (by show e.out.length ≤ _; omega)).mono ?_
    rintro r w2 ⟨rfl, hm⟩
    have HE2 : Hid (Mv (En C) w w2 lab (Em.send { e with tries := tr + 1 } (Em.bare true k true))) := hm
    clear HE1 hm
    go_wp2_with fail
    refine (HE2.out.call fun lab1 h1 => start_any C lab1 _ 200 _ h1 (by rw [Em.len_send]; show e.out.length + 1 ≤ _; omega) (Or.inl rfl)).mono ?_
    rintro r w3 ⟨rfl, hm⟩
    have HE3 : Hid (Mv (En C) w w3 lab (Em.start200 (Em.send { e with tries := tr + 1 } (Em.bare true k true)))) := hm
    clear HE2 hm
    go_wp2
    go_end0
    exact ⟨rfl, HE3.out⟩

/-- nobody told how far the peer is -/
def Em.askAgain (e : Em.St) : Em.St := if e.tries = e.most then Em.anew e (Em.letter 73) else Em.inquire { e with tries := e.tries + 1 }
set_option maxHeartbeats 1000000 in
theorem inquireAgain_any (C : Nat) (lab : Nat → Nat) (e : Em.St) (w : World) (h : En C w lab e) (hl : e.out.length ≤ 400000) (r0 : 0 ≤ e.tries) (r1 : e.tries ≤ 32) :
    Calls Tryd.prog 29 #[.pointer (some ⟨C, 0, none⟩)] w fun r w' => r = .returned (.tuple #[]) ∧ Mv (En C) w w' lab (Em.askAgain e) := by
  have c4 := h.cs.c4
  have hlt := h.cs.lt
  have HN : ∀ n, Calls Tryd.prog 45 #[.pointer (some ⟨C, 0, none⟩)] (w.drewN n) fun r w' => r = .returned (.int .i64 e.most) ∧ w.drewN n = w' := fun n => mostTries_any C lab e _ (drewN_cs h n)
  have HE : Hid (∀ n, Mv (En C) w (w.drewN n) lab e) := fun n => h.same (fdrewN_blw (Below.refl _ _) n)
  clear h
  unfold Em.askAgain
  by_cases ht : e.tries = e.most
  · rw [if_pos ht]
    have heq : (e.tries == e.most) = true := by simp; exact ht
    clear ht
    generalize e.most = mo at HN heq
    generalize e.tries = tr at c4 heq
    go_enter Tryd.func29, Tryd.ntmps29
    go_wp2_with fail
    go_quiet ((go_at_call 45; exact Calls.quiet_of_same ((HN _).mono fun e w' h => ⟨h.1, h.2.symm⟩)))
    have HE0 : Hid (Mv (En C) w (w.drewN nq) lab e) := HE.out nq
    clear HE HN c4 hlt r0 r1 heq
    generalize w.drewN nq = w0 at HE0 ⊢
    go_wp2_with fail
    refine (HE0.out.call fun lab1 h1 => callAnew_any C lab1 _ (Em.letter 73) _ h1 (by omega)).mono ?_
    rintro r w1 ⟨rfl, hm⟩
    have HE1 : Hid (Mv (En C) w w1 lab (Em.anew e (Em.letter 73))) := hm
    clear HE0 hm
    go_wp2
    refine bodyPost_ret (v := .tuple #[]) (results_none rfl _ _ _) rfl ?_
    exact ⟨rfl, HE1.out⟩
  · rw [if_neg ht]
    have heq : (e.tries == e.most) = false := by simp; exact ht
    clear ht
    obtain ⟨tr, htr⟩ : ∃ tr, e.tries = tr := ⟨_, rfl⟩
    rw [htr] at c4 heq r0 r1 ⊢
    have HT : Hid (e.tries = tr) := htr
    clear htr
    go_enter Tryd.func29, Tryd.ntmps29
    go_wp2_with fail
    go_quiet ((go_at_call 45; exact Calls.quiet_of_same ((HN _).mono fun e w' h => ⟨h.1, h.2.symm⟩)))
    have HE0 : Hid (Mv (En C) w (w.drewN nq) lab e) := HE.out nq
    clear HE HN c4 hlt heq
    generalize w.drewN nq = w0 at HE0 ⊢
    have ha0 := HE0.out.cells
    have k04 := ha0.c4
    rw [HT.out] at k04
    have g0 := ha0.f 4 (by decide)
    have l0 := ha0.lt
    clear ha0
    have HE1 : Hid (Mv (En C) w (w0.setCell ⟨C, 4, none⟩ (.int .i64 (tr + 1))) lab { e with tries := tr + 1 }) := HE0.out.trans fun _ hx => hx.setTries (tr + 1)
    go_wp2_with fail
    refine (HE1.out.call fun lab1 h1 => inquire_any C lab1 _  _ h1 (by show e.out.length ≤ _; omega)).mono ?_
    rintro r w2 ⟨rfl, hm⟩
    have HE2 : Hid (Mv (En C) w w2 lab (Em.inquire { e with tries := tr + 1 })) := hm
    clear HE1 hm
    go_wp2
    go_end0
    exact ⟨rfl, HE2.out⟩
end Go.Proofs.YtdfoicngcahajaaDoor
