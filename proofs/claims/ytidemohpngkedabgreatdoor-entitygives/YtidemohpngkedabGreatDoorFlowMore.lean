/-
  The walks of a flow's methods Ack, Back, Come, SetPeer, SetOwn, Reset, Clear.
-/
import Derived.Test.YtidemohpngkedabGreatDoorFlowWalks
namespace Go.Proofs.YtidemohpngkedabGreatDoor
open Go.RowKit
set_option linter.unusedVariables false
set_option maxRecDepth 100000
set_option linter.unusedSimpArgs false

set_option maxHeartbeats 1000000 in
theorem fpeer_any (C : Nat) (G : Option Nat) (σ : Wm.St) (b : Bool) (w : World) (h : Fl w C G σ) :
    Calls Tryz.prog 150 #[.pointer (some ⟨C, 0, none⟩), .bool b] w fun e w' => e = .returned (.tuple #[]) ∧ Mvf w w' C G (Wm.peerT σ b) := by
  have c3 := h.fr.c3
  have f3 := h.fr.f 3 (by decide)
  have hlt := h.lt
  have HE : Hid (Mvf w (w.setCell ⟨C, 3, none⟩ (.bool b)) C G (Wm.peerT σ b)) :=
    h.set 3 (by decide) _ (fun i hi => seven (P := fun i => fval (Wm.peerT σ b) i = if i = 3 then .bool b else fval σ i) rfl rfl rfl rfl rfl rfl rfl i hi) rfl rfl rfl
  clear h
  go_enter Tryz.func150, Tryz.ntmps150
  go_wp2
  go_end0
  exact ⟨rfl, HE.out⟩

set_option maxHeartbeats 1000000 in
theorem fown_any (C : Nat) (G : Option Nat) (σ : Wm.St) (b : Bool) (w : World) (h : Fl w C G σ) :
    Calls Tryz.prog 123 #[.pointer (some ⟨C, 0, none⟩), .bool b] w fun e w' => e = .returned (.bool (σ.ow != b)) ∧ Mvf w w' C G (Wm.ownT σ b) := by
  have c4 := h.fr.c4
  have f4 := h.fr.f 4 (by decide)
  have hlt := h.lt
  by_cases he : σ.ow = b
  · have HE : Hid (Mvf w w C G (Wm.ownT σ b)) := by
      have : Wm.ownT σ b = σ := by rw [← he]; rfl
      rw [this]
      exact h.same (Below.refl _ _)
    have HX : Hid ((σ.ow != b) = false) := by rw [he]; show _ = _; simp
    have t : (b == b) = true := by simp
    rw [he] at c4
    clear h he
    go_enter Tryz.func123, Tryz.ntmps123
    go_wp2
    go_ret
    exact ⟨by rw [HX.out]; rfl, HE.out⟩
  · have HE : Hid (Mvf w (w.setCell ⟨C, 4, none⟩ (.bool b)) C G (Wm.ownT σ b)) :=
      h.set 4 (by decide) _ (fun i hi => seven (P := fun i => fval (Wm.ownT σ b) i = if i = 4 then .bool b else fval σ i) rfl rfl rfl rfl rfl rfl rfl i hi) rfl rfl rfl
    have HX : Hid ((σ.ow != b) = true) := by show _ = _; simpa using he
    have t : (σ.ow == b) = false := by simpa using he
    clear h he
    go_enter Tryz.func123, Tryz.ntmps123
    go_wp2
    go_ret
    exact ⟨by rw [HX.out]; rfl, HE.out⟩

theorem back_vs (σ : Wm.St) : ∀ i, i < 7 → fval { σ with vs := σ.va } i = if i = 0 then .int .i64 σ.va else fval σ i :=
  fun i hi => seven (P := fun i => fval { σ with vs := σ.va } i = if i = 0 then .int .i64 σ.va else fval σ i) rfl rfl rfl rfl rfl rfl rfl i hi

/-- the queue's Back(0), of a flow -/
theorem qback_fl {C : Nat} {G : Option Nat} {σ : Wm.St} {w : World} (h : Fl w C G σ) :
    Calls Tryz.prog 164 #[.pointer (some ⟨C, 7, none⟩), .int .i64 0] w fun e w' => e = .returned (.bool true) ∧ Mvf w w' C G { σ with sn := 0 } := by
  refine (oback_any C σ.sn G σ.mo σ.L 0 w h.qu).mono fun e w' hx => ?_
  have e1 : Qm.okN σ.sn 0 = true := decide_eq_true ⟨Int.le_refl 0, by omega⟩
  have e2 : Qm.backS σ.sn 0 = 0 := by unfold Qm.backS; rw [e1]; rfl
  rw [e1, e2] at hx
  exact ⟨hx.1, h.queue hx.2⟩

set_option maxHeartbeats 1000000 in
theorem fback_any (C : Nat) (G : Option Nat) (σ : Wm.St) (w : World) (h : Fl w C G σ) :
    Calls Tryz.prog 169 #[.pointer (some ⟨C, 0, none⟩)] w fun e w' => e = .returned (.tuple #[]) ∧ Mvf w w' C G (Wm.backT σ) := by
  have c0 := h.fr.c0
  have c1 := h.fr.c1
  have f0 := h.fr.f 0 (by decide)
  have hlt := h.lt
  have HM : Hid (Mvf w (w.setCell ⟨C, 0, none⟩ (.int .i64 σ.va)) C G { σ with vs := σ.va }) := h.set (σ' := { σ with vs := σ.va }) 0 (by decide) (.int .i64 σ.va) (back_vs σ) rfl rfl rfl
  have HB : Hid (∀ W, W = w.setCell ⟨C, 0, none⟩ (.int .i64 σ.va) → Calls Tryz.prog 164 #[.pointer (some ⟨C, 7, none⟩), .int .i64 0] W fun e w' => e = .returned (.bool true) ∧ Mvf w w' C G (Wm.backT σ)) := by
    intro W hW
    subst hW
    exact HM.out.call fun G1 h1 => qback_fl h1
  clear h
  go_enter Tryz.func169, Tryz.ntmps169
  go_wp2_with fail
  refine (HB.out _ rfl).mono ?_
  rintro e w1 ⟨rfl, hm⟩
  have HE : Hid (Mvf w w1 C G (Wm.backT σ)) := hm
  clear HB HM hm
  go_wp2
  go_end0
  exact ⟨rfl, HE.out⟩

set_option maxHeartbeats 1000000 in
theorem fclear_any (C : Nat) (G : Option Nat) (σ : Wm.St) (w : World) (h : Fl w C G σ) :
    Calls Tryz.prog 63 #[.pointer (some ⟨C, 0, none⟩)] w fun e w' => e = .returned (.int .i64 σ.L.length) ∧ Mvf w w' C G (Wm.clearT σ) := by
  have c0 := h.fr.c0
  have c1 := h.fr.c1
  have f0 := h.fr.f 0 (by decide)
  have hlt := h.lt
  have HM : Hid (Mvf w (w.setCell ⟨C, 0, none⟩ (.int .i64 σ.va)) C G { σ with vs := σ.va }) := h.set (σ' := { σ with vs := σ.va }) 0 (by decide) (.int .i64 σ.va) (back_vs σ) rfl rfl rfl
  have HB : Hid (∀ W, W = w.setCell ⟨C, 0, none⟩ (.int .i64 σ.va) → Calls Tryz.prog 111 #[.pointer (some ⟨C, 7, none⟩)] W fun e w' => e = .returned (.int .i64 σ.L.length) ∧ Mvf w w' C G (Wm.clearT σ)) := by
    intro W hW
    subst hW
    exact HM.out.call fun G1 h1 => (oclear_any C _ G1 _ _ _ h1.qu).mono fun e w' hx => ⟨hx.1, h1.queue hx.2⟩
  clear h
  go_enter Tryz.func63, Tryz.ntmps63
  go_wp2_with fail
  refine (HB.out _ rfl).mono ?_
  rintro e w1 ⟨rfl, hm⟩
  have HE : Hid (Mvf w w1 C G (Wm.clearT σ)) := hm
  clear HB HM hm
  go_wp2
  go_ret
  exact ⟨rfl, HE.out⟩

set_option maxHeartbeats 1000000 in
theorem fcome_any (C : Nat) (G : Option Nat) (σ : Wm.St) (ns : Int) (w : World) (h : Fl w C G σ) (ok : σ.Ok) (h0 : -9223372036854775808 ≤ ns) (h1 : ns ≤ 9223372036854775807) :
    Calls Tryz.prog 147 #[.pointer (some ⟨C, 0, none⟩), .int .i64 ns] w fun e w' => e = .returned (.int .i64 (Wm.comeN σ ns)) ∧ Mvf w w' C G (Wm.comeT σ ns) := by
  have c2 := h.fr.c2
  have c4 := h.fr.c4
  have c5 := h.fr.c5
  have f2 := h.fr.f 2 (by decide)
  have f5 := h.fr.f 5 (by decide)
  have hlt := h.lt
  have HF : Hid (Fl w C G σ) := h
  have hN := fun W => snorm_any ns W h0 h1
  have lo := ok.vr0
  have hi := ok.vr1
  have hA := fun W => sadd_any σ.vr 1 W (by omega) (by omega) (by omega) (by omega)
  clear h
  cases hp : σ.ow with
  | true =>
    rw [hp] at c4
    have e1 : Wm.comeN σ ns = 3 := by unfold Wm.comeN; rw [hp]; rfl
    have e2 : Wm.comeT σ ns = σ := by unfold Wm.comeT; rw [hp]; rfl
    rw [e1, e2]
    clear c2 c5 f2 f5 hN hA hp e1 e2 ok
    go_enter Tryz.func147, Tryz.ntmps147
    go_wp2
    go_ret
    exact ⟨rfl, HF.out.same (Below.refl _ _)⟩
  | false =>
    rw [hp] at c4
    by_cases hv : Sm.nm ns = σ.vr
    · have e1 : Wm.comeN σ ns = 0 := by unfold Wm.comeN; rw [hp, if_pos hv]; rfl
      have e2 : Wm.comeT σ ns = { σ with vr := Sm.ad σ.vr 1, re := false } := by unfold Wm.comeT; rw [hp, if_pos hv]; rfl
      rw [e1, e2]
      rw [hv] at hN
      have t : (σ.vr == σ.vr) = true := by simp
      have HE : Hid (∀ W, Below w.heap.size w W → Mvf w ((W.setCell ⟨C, 2, none⟩ (.int .i64 (Sm.ad σ.vr 1))).setCell ⟨C, 5, none⟩ (.bool false)) C G { σ with vr := Sm.ad σ.vr 1, re := false }) := by
        intro W hb
        have hm := (HF.out.below hb).set (σ' := { σ with vr := Sm.ad σ.vr 1 }) 2 (by decide) (.int .i64 (Sm.ad σ.vr 1)) (fun i hi => seven (P := fun i => fval { σ with vr := Sm.ad σ.vr 1 } i = if i = 2 then .int .i64 (Sm.ad σ.vr 1) else fval σ i) rfl rfl rfl rfl rfl rfl rfl i hi) rfl rfl rfl
        refine Mvf.ahead hb (hm.trans fun G1 h1 => ?_)
        exact h1.set (σ' := { σ with vr := Sm.ad σ.vr 1, re := false }) 5 (by decide) (.bool false) (fun i hi => seven (P := fun i => fval { σ with vr := Sm.ad σ.vr 1, re := false } i = if i = 5 then .bool false else fval { σ with vr := Sm.ad σ.vr 1 } i) rfl rfl rfl rfl rfl rfl rfl i hi) rfl rfl rfl
      clear hp hv e1 e2 ok
      go_enter Tryz.func147, Tryz.ntmps147
      go_wp2_with fail
      go_quiet ((go_at_call 165; exact Calls.quiet_of_same ((hN _).mono fun e w' h => ⟨h.1, h.2.symm⟩)))
      have HB : Hid (Below w.heap.size w (w.drewN nq)) := fdrewN_blw (Below.refl _ _) nq
      go_wp2_with fail
      refine (hA _).mono ?_
      rintro e w2 ⟨rfl, rfl⟩
      clear hA hN
      go_wp2
      go_ret
      exact ⟨rfl, HE.out _ HB.out⟩
    · have t : (Sm.nm ns == σ.vr) = false := by simpa using hv
      cases hr : σ.re with
      | true =>
        rw [hr] at c5
        have e1 : Wm.comeN σ ns = 2 := by unfold Wm.comeN; rw [hp, if_neg hv, hr]; rfl
        have e2 : Wm.comeT σ ns = σ := by
          have e : ({ σ with re := true } : Wm.St) = σ := by rw [← hr]
          unfold Wm.comeT
          rw [hp, if_neg hv, if_neg (by decide)]
          rw [hp] at e
          exact e
        rw [e1, e2]
        clear hp hv e1 e2 ok hr hA
        go_enter Tryz.func147, Tryz.ntmps147
        go_wp2_with fail
        go_quiet ((go_at_call 165; exact Calls.quiet_of_same ((hN _).mono fun e w' h => ⟨h.1, h.2.symm⟩)))
        have HB : Hid (Below w.heap.size w (w.drewN nq)) := fdrewN_blw (Below.refl _ _) nq
        go_wp2
        go_ret
        exact ⟨rfl, HF.out.same HB.out⟩
      | false =>
        rw [hr] at c5
        have e1 : Wm.comeN σ ns = 1 := by unfold Wm.comeN; rw [hp, if_neg hv, hr]; rfl
        have e2 : Wm.comeT σ ns = { σ with re := true } := by unfold Wm.comeT; rw [hp, if_neg hv, if_neg (by decide)]
        rw [e1, e2]
        have HE : Hid (∀ W, Below w.heap.size w W → Mvf w (W.setCell ⟨C, 5, none⟩ (.bool true)) C G { σ with re := true }) := by
          intro W hb
          exact Mvf.ahead hb ((HF.out.below hb).set (σ' := { σ with re := true }) 5 (by decide) (.bool true) (fun i hi => seven (P := fun i => fval { σ with re := true } i = if i = 5 then .bool true else fval σ i) rfl rfl rfl rfl rfl rfl rfl i hi) rfl rfl rfl)
        clear hp hv e1 e2 ok hr hA
        go_enter Tryz.func147, Tryz.ntmps147
        go_wp2_with fail
        go_quiet ((go_at_call 165; exact Calls.quiet_of_same ((hN _).mono fun e w' h => ⟨h.1, h.2.symm⟩)))
        have HB : Hid (Below w.heap.size w (w.drewN nq)) := fdrewN_blw (Below.refl _ _) nq
        go_wp2
        go_ret
        exact ⟨rfl, HE.out _ HB.out⟩

set_option maxHeartbeats 1000000 in
theorem fack_any (C : Nat) (G : Option Nat) (σ : Wm.St) (nr : Int) (w : World) (h : Fl w C G σ) (ok : σ.Ok) (h0 : -9223372036854775808 ≤ nr) (h1 : nr ≤ 9223372036854775807) :
    Calls Tryz.prog 148 #[.pointer (some ⟨C, 0, none⟩), .int .i64 nr] w fun e w' => e = .returned (.tuple #[.int .i64 (Wm.ackN σ nr), .int .i64 (Wm.ackE σ nr)]) ∧ Mvf w w' C G (Wm.ackT σ nr) := by
  have c0 := h.fr.c0
  have c1 := h.fr.c1
  have f1 := h.fr.f 1 (by decide)
  have hlt := h.lt
  have HF : Hid (Fl w C G σ) := h
  have hN := fun W => snorm_any nr W h0 h1
  have o1 := ok.va0
  have o2 := ok.va1
  have o3 := ok.vs0
  have o4 := ok.vs1
  have hV := fun W => svalid_any σ.va nr σ.vs W (by omega) (by omega) h0 h1 (by omega) (by omega)
  have hS := fun W => ssub_any nr σ.va W h0 h1 (by omega) (by omega)
  clear h
  cases hb : Wm.ackB σ nr with
  | false =>
    have hb' := hb
    unfold Wm.ackB at hb'
    rw [hb'] at hV
    have e1 : Wm.ackN σ nr = 0 := by unfold Wm.ackN; rw [hb]; rfl
    have e2 : Wm.ackE σ nr = 2 := by unfold Wm.ackE; rw [hb]; rfl
    have e3 : Wm.ackT σ nr = σ := by unfold Wm.ackT; rw [hb]; rfl
    rw [e1, e2, e3]
    clear hb hb' e1 e2 e3 hN hS f1 ok
    go_enter Tryz.func148, Tryz.ntmps148
    go_wp2_with fail
    go_quiet ((go_at_call 166; exact Calls.quiet_of_same ((hV _).mono fun e w' h => ⟨h.1, h.2.symm⟩)))
    go_wp2
    go_ret2
    exact ⟨rfl, HF.out.same (fdrewN_blw (Below.refl _ _) _)⟩
  | true =>
    have hb' := hb
    unfold Wm.ackB at hb'
    rw [hb'] at hV
    have e1 : Wm.ackN σ nr = Sm.sb nr σ.va := by unfold Wm.ackN; rw [hb]; rfl
    have e2 : Wm.ackE σ nr = 0 := by unfold Wm.ackE; rw [hb]; rfl
    have e3 : Wm.ackT σ nr = { σ with va := Sm.nm nr, L := Qm.doneL σ.L σ.sn (Sm.sb nr σ.va), sn := Qm.doneS σ.sn (Sm.sb nr σ.va) } := by unfold Wm.ackT; rw [hb]; rfl
    rw [e1, e2, e3]
    have hD : ∀ W, Below w.heap.size w W → Calls Tryz.prog 168 #[.pointer (some ⟨C, 7, none⟩), .int .i64 (Sm.sb nr σ.va)] W fun e w' => e = .returned (.bool true) ∧ Mvf w w' C G { σ with L := Qm.doneL σ.L σ.sn (Sm.sb nr σ.va), sn := Qm.doneS σ.sn (Sm.sb nr σ.va) } := by
      intro W hbl
      have h' := HF.out.below hbl
      refine (odone_any C σ.sn G σ.mo σ.L (Sm.sb nr σ.va) W h'.qu).mono fun e w' hx => ?_
      rw [Wm.ack_okN ok hb] at hx
      exact ⟨hx.1, Mvf.ahead hbl (h'.queue hx.2)⟩
    clear hb hb' e1 e2 e3 ok
    generalize Sm.sb nr σ.va = d at hS hD ⊢
    go_enter Tryz.func148, Tryz.ntmps148
    go_wp2_with fail
    go_quiet ((go_at_call 166; exact Calls.quiet_of_same ((hV _).mono fun e w' h => ⟨h.1, h.2.symm⟩)))
    have HB : Hid (Below w.heap.size w (w.drewN nq)) := fdrewN_blw (Below.refl _ _) nq
    go_wp2_with fail
    refine (hS _).mono ?_
    rintro e w2 ⟨rfl, rfl⟩
    clear hS hV
    have HD := hD _ HB.out
    clear hD c0 c1 f1 HF
    generalize w.drewN nq = w0 at HD HB ⊢
    go_wp2_with fail
    refine HD.mono ?_
    rintro e w1 ⟨rfl, hm⟩
    clear HD
    have HM : Hid (Mvf w w1 C G { σ with L := Qm.doneL σ.L σ.sn d, sn := Qm.doneS σ.sn d }) := hm
    obtain ⟨G1, hq, -⟩ := hm
    have d1 : w1.cell? ⟨C, 1, none⟩ = some (.int .i64 σ.va) := hq.fr.c1
    have g1 := hq.fr.f 1 (by decide)
    have hlt1 := hq.lt
    have HE : Hid (Mvf w (w1.setCell ⟨C, 1, none⟩ (.int .i64 (Sm.nm nr))) C G { σ with va := Sm.nm nr, L := Qm.doneL σ.L σ.sn d, sn := Qm.doneS σ.sn d }) :=
      HM.out.trans fun G2 h2 => h2.set 1 (by decide) _ (fun i hi => seven (P := fun i => fval { σ with va := Sm.nm nr, L := Qm.doneL σ.L σ.sn d, sn := Qm.doneS σ.sn d } i = if i = 1 then .int .i64 (Sm.nm nr) else fval { σ with L := Qm.doneL σ.L σ.sn d, sn := Qm.doneS σ.sn d } i) rfl rfl rfl rfl rfl rfl rfl i hi) rfl rfl rfl
    clear hq HM HB
    go_wp2_with fail
    refine (hN _).mono ?_
    rintro e w2 ⟨rfl, rfl⟩
    clear hN
    go_wp2
    go_ret2
    exact ⟨rfl, HE.out⟩

theorem reset_1 (σ : Wm.St) : ∀ i, i < 7 → fval { σ with vs := 0 } i = if i = 0 then .int .i64 0 else fval σ i :=
  fun i hi => seven (P := fun i => fval { σ with vs := 0 } i = if i = 0 then .int .i64 0 else fval σ i) rfl rfl rfl rfl rfl rfl rfl i hi
theorem reset_2 (σ : Wm.St) : ∀ i, i < 7 → fval { σ with va := 0 } i = if i = 1 then .int .i64 0 else fval σ i :=
  fun i hi => seven (P := fun i => fval { σ with va := 0 } i = if i = 1 then .int .i64 0 else fval σ i) rfl rfl rfl rfl rfl rfl rfl i hi
theorem reset_3 (σ : Wm.St) : ∀ i, i < 7 → fval { σ with vr := 0 } i = if i = 2 then .int .i64 0 else fval σ i :=
  fun i hi => seven (P := fun i => fval { σ with vr := 0 } i = if i = 2 then .int .i64 0 else fval σ i) rfl rfl rfl rfl rfl rfl rfl i hi
theorem reset_4 (σ : Wm.St) : ∀ i, i < 7 → fval { σ with pe := false } i = if i = 3 then .bool false else fval σ i :=
  fun i hi => seven (P := fun i => fval { σ with pe := false } i = if i = 3 then .bool false else fval σ i) rfl rfl rfl rfl rfl rfl rfl i hi
theorem reset_5 (σ : Wm.St) : ∀ i, i < 7 → fval { σ with ow := false } i = if i = 4 then .bool false else fval σ i :=
  fun i hi => seven (P := fun i => fval { σ with ow := false } i = if i = 4 then .bool false else fval σ i) rfl rfl rfl rfl rfl rfl rfl i hi
theorem reset_6 (σ : Wm.St) : ∀ i, i < 7 → fval { σ with re := false } i = if i = 5 then .bool false else fval σ i :=
  fun i hi => seven (P := fun i => fval { σ with re := false } i = if i = 5 then .bool false else fval σ i) rfl rfl rfl rfl rfl rfl rfl i hi

/-- the six stores of a Reset -/
def zero6 (w : World) (C : Nat) : World :=
  (((((w.setCell ⟨C, 0, none⟩ (.int .i64 0)).setCell ⟨C, 1, none⟩ (.int .i64 0)).setCell ⟨C, 2, none⟩ (.int .i64 0)).setCell ⟨C, 3, none⟩ (.bool false)).setCell ⟨C, 4, none⟩ (.bool false)).setCell ⟨C, 5, none⟩ (.bool false)
def clean (σ : Wm.St) : Wm.St := { σ with vs := 0, va := 0, vr := 0, pe := false, ow := false, re := false }
theorem Fl.zero6 {w : World} {C : Nat} {G : Option Nat} {σ : Wm.St} (h : Fl w C G σ) : Mvf w (zero6 w C) C G (clean σ) :=
  (((((h.set (σ' := { σ with vs := 0 }) 0 (by decide) _ (reset_1 σ) rfl rfl rfl).trans fun _ h => h.set (σ' := { σ with vs := 0, va := 0 }) 1 (by decide) _ (reset_2 { σ with vs := 0 }) rfl rfl rfl).trans fun _ h => h.set (σ' := { σ with vs := 0, va := 0, vr := 0 }) 2 (by decide) _ (reset_3 { σ with vs := 0, va := 0 }) rfl rfl rfl).trans fun _ h => h.set (σ' := { σ with vs := 0, va := 0, vr := 0, pe := false }) 3 (by decide) _ (reset_4 { σ with vs := 0, va := 0, vr := 0 }) rfl rfl rfl).trans fun _ h => h.set (σ' := { σ with vs := 0, va := 0, vr := 0, pe := false, ow := false }) 4 (by decide) _ (reset_5 { σ with vs := 0, va := 0, vr := 0, pe := false }) rfl rfl rfl).trans fun _ h => h.set (σ' := { σ with vs := 0, va := 0, vr := 0, pe := false, ow := false, re := false }) 5 (by decide) _ (reset_6 { σ with vs := 0, va := 0, vr := 0, pe := false, ow := false }) rfl rfl rfl

set_option maxHeartbeats 1000000 in
theorem freset_any (C : Nat) (G : Option Nat) (σ : Wm.St) (w : World) (h : Fl w C G σ) :
    Calls Tryz.prog 145 #[.pointer (some ⟨C, 0, none⟩)] w fun e w' => e = .returned (.tuple #[]) ∧ Mvf w w' C G (Wm.resetT σ) := by
  have c0 := h.fr.c0
  have c1 := h.fr.c1
  have c2 := h.fr.c2
  have c3 := h.fr.c3
  have c4 := h.fr.c4
  have c5 := h.fr.c5
  have f0 := h.fr.f 0 (by decide)
  have f1 := h.fr.f 1 (by decide)
  have f2 := h.fr.f 2 (by decide)
  have f3 := h.fr.f 3 (by decide)
  have f4 := h.fr.f 4 (by decide)
  have f5 := h.fr.f 5 (by decide)
  have hlt := h.lt
  have HM : Hid (Mvf w (zero6 w C) C G (clean σ)) := h.zero6
  have HB : Hid (∀ W, Hid (W = zero6 w C) → Calls Tryz.prog 164 #[.pointer (some ⟨C, 7, none⟩), .int .i64 0] W fun e w' => e = .returned (.bool true) ∧ Mvf w w' C G (Wm.resetT σ)) := by
    intro W hW
    rw [hW.out]
    exact HM.out.call fun G1 h1 => qback_fl h1
  clear h
  go_enter Tryz.func145, Tryz.ntmps145
  go_wp2_with fail
  refine (HB.out _ (by show _ = _; rfl)).mono ?_
  rintro e w1 ⟨rfl, hm⟩
  have HE : Hid (Mvf w w1 C G (Wm.resetT σ)) := hm
  clear HB HM hm
  go_wp2
  go_end0
  exact ⟨rfl, HE.out⟩
end Go.Proofs.YtidemohpngkedabGreatDoor
