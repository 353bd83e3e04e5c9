/-
  The walks of the document's flow: New, Take, Ack, Back, Come, Reset, Clear.
-/
import Derived.Test.YtidemohpngkedabGreatDoorFlowRow
import Derived.Test.YtidemohpngkedabGreatDoorQueRef
import Derived.Test.YtidemohpngkedabGreatDoorRefSeqValid
import Derived.OwnWalk
import Derived.BigQuiet
namespace Go.Proofs.YtidemohpngkedabGreatDoor
open Go.RowKit
set_option linter.unusedVariables false
set_option maxRecDepth 100000
set_option linter.unusedSimpArgs false

theorem gdrewN_blw {B : Nat} {a b : World} (h : Below B a b) : ∀ n, Below B a (b.drewN n)
  | 0 => h
  | n + 1 => (gdrewN_blw h n).drew

theorem new_rf {w w1 : World} {D : Nat} (T : TypeId) (k mo : Int) (hq : Qu w1 D none (Qm.takes mo : Nat) [] 0) : Rf (w1.alloc (.cells #[.int .i64 0, .int .i64 0, .int .i64 0, .bool false, .bool false, .bool false, .int .i64 k, .pointer (some ⟨D, 0, none⟩)] T)) w1.heap.size D none (Wm.new k mo) := by
  have hb : Below w1.heap.size w1 (w1.alloc (.cells #[.int .i64 0, .int .i64 0, .int .i64 0, .bool false, .bool false, .bool false, .int .i64 k, .pointer (some ⟨D, 0, none⟩)] T)) := (Below.refl _ _).alloc (Nat.le_refl _) _
  refine ⟨fun j hj => ?_, by simp, by simp, hq.below hb, by have := hq.lt; omega, fun e => by cases e⟩
  refine seven (P := fun j => World.cell? _ ⟨w1.heap.size, j, none⟩ = some (fval (Wm.new k mo) j) ∧ World.frozen? _ ⟨w1.heap.size, j, none⟩ = false) ?_ ?_ ?_ ?_ ?_ ?_ ?_ j hj
  all_goals
    refine ⟨?_, by simp⟩
    simp [fval, Wm.new]

set_option maxHeartbeats 1000000 in
theorem rfnew_any (k mo : Int) (w : World) : Calls Tryz.prog 26 #[.int .i64 k, .int .i64 mo] w fun e w' => ∃ R D, e = .returned (.pointer (some ⟨R, 0, none⟩)) ∧ w.heap.size ≤ R ∧ w.heap.size ≤ D ∧ Rf w' R D none (Wm.new k mo) ∧ Below w.heap.size w w' := by
  go_enter Tryz.func26, Tryz.ntmps26
  go_wp2_with fail
  refine (rnew_any mo w).mono ?_
  rintro e w1 ⟨rfl, hq, hb⟩
  have hle : w.heap.size ≤ w1.heap.size := hb.size
  have HB : Hid (Below w.heap.size w w1) := hb
  have HQ : Hid (Qu w1 w.heap.size none (Qm.takes mo : Nat) [] 0) := hq
  clear hb hq
  go_wp2
  go_ret
  exact ⟨_, _, rfl, hle, Nat.le_refl _, new_rf (w := w) _ k mo HQ.out, HB.out.alloc hle _⟩

set_option maxHeartbeats 1000000 in
theorem rftake_any (R D : Nat) (H : Option Nat) (σ : Wm.St) (w : World) (h : Rf w R D H σ) (ok : σ.Ok) :
    Calls Tryz.prog 137 #[.pointer (some ⟨R, 0, none⟩)] w fun e w' => e = .returned (.tuple #[.int .i64 (Wm.takeN σ), .string (Wm.takeS σ), .bool (Wm.takeB σ)]) ∧ Mvr w w' R D H (Wm.takeT σ) := by
  have c0 := h.fr.c0
  have c1 := h.fr.c1
  have c3 := h.fr.c3
  have c6 := h.fr.c6
  have c7 := h.c7
  have f0 := h.fr.f 0 (by decide)
  have hlt := h.lt
  have HF : Hid (Rf w R D H σ) := h
  have hR := fun W => ref_sroom_any σ.va σ.vs σ.k W (by have := ok.va0; omega) (by have := ok.va1; omega) (by have := ok.vs0; omega) (by have := ok.vs1; omega) ok.k0 ok.k1
  clear h
  cases hp : σ.pe with
  | true =>
    rw [hp] at c3
    obtain ⟨t1, t2, t3⟩ := Wm.take_no (Wm.takeB_pe hp)
    rw [Wm.takeB_pe hp, t1, t2, t3]
    clear f0 hp t1 t2 t3 ok c7
    go_enter Tryz.func137, Tryz.ntmps137
    go_wp2_with fail
    go_quiet ((go_at_call 153; exact Calls.quiet_of_same ((hR _).mono fun e w' h => ⟨h.1, h.2.symm⟩)))
    go_wp2
    go_ret3
    exact ⟨rfl, HF.out.same (gdrewN_blw (Below.refl _ _) _)⟩
  | false =>
    rw [hp] at c3
    by_cases hw : (σ.sn : Int) < Wm.win σ.k
    · have hne : (Sm.rm σ.va σ.vs σ.k == 0) = false := by
        have := Wm.room_zero ok
        simp
        omega
      have lo := ok.vs0
      have hi := ok.vs1
      by_cases hL : σ.sn < σ.L.length
      · obtain ⟨t1, t2, t3⟩ := Wm.take_yes (Wm.takeB_all hp hw hL)
        rw [Wm.takeB_all hp hw hL, t1, t2, t3]
        have HT : ∀ W, Below w.heap.size w W → Calls Tryz.prog 154 #[.pointer (some ⟨D, 0, none⟩)] W fun e w' => e = .returned (.tuple #[.string (σ.L.getD σ.sn ByteArray.empty), .bool true]) ∧ Mvr W w' R D H { σ with sn := σ.sn + 1 } := by
          intro W hb
          have h' := HF.out.below hb
          refine (rtake_any D σ.sn H _ σ.L W h'.qu).mono fun e w' hx => ?_
          have e1 : Qm.takeB σ.L σ.sn = true := decide_eq_true hL
          have e2 : Qm.takeN σ.L σ.sn = σ.sn + 1 := by unfold Qm.takeN; rw [if_pos hL]
          rw [e1, e2] at hx
          exact ⟨hx.1, h'.queue hx.2⟩
        clear hp hw hL t1 t2 t3 ok
        generalize σ.L.getD σ.sn ByteArray.empty = x at HT ⊢
        go_enter Tryz.func137, Tryz.ntmps137
        go_wp2_with fail
        go_quiet ((go_at_call 153; exact Calls.quiet_of_same ((hR _).mono fun e w' h => ⟨h.1, h.2.symm⟩)))
        have hb : Below w.heap.size w (w.drewN nq) := gdrewN_blw (Below.refl _ _) nq
        have HT' := HT _ hb
        have HB : Hid (Below w.heap.size w (w.drewN nq)) := hb
        clear hb HT hR
        go_wp2_with fail
        refine HT'.mono ?_
        rintro e w1 ⟨rfl, hm⟩
        clear HT' hne c0 c1 c3 c6 f0 c7
        have HM : Hid (Mvr w w1 R D H { σ with sn := σ.sn + 1 }) := Mvr.ahead HB.out hm
        obtain ⟨G1, hq, -⟩ := hm
        have d0 : w1.cell? ⟨R, 0, none⟩ = some (.int .i64 σ.vs) := hq.fr.c0
        have g0 := hq.fr.f 0 (by decide)
        have hlt1 := hq.lt
        have hA := ref_sadd_any σ.vs 1 w1 (by omega) (by omega) (by omega) (by omega)
        have HE : Hid (Mvr w (w1.setCell ⟨R, 0, none⟩ (.int .i64 (Sm.ad σ.vs 1))) R D H { σ with vs := Sm.ad σ.vs 1, sn := σ.sn + 1 }) :=
          HM.out.trans fun G2 h2 => h2.set 0 (by decide) _ (fun i hi => seven (P := fun i => fval { σ with vs := Sm.ad σ.vs 1, sn := σ.sn + 1 } i = if i = 0 then .int .i64 (Sm.ad σ.vs 1) else fval { σ with sn := σ.sn + 1 } i) rfl rfl rfl rfl rfl rfl rfl i hi) rfl rfl rfl
        clear hq HM HB
        go_wp2_with fail
        refine hA.mono ?_
        rintro e w2 ⟨rfl, rfl⟩
        clear hA
        go_wp2
        go_ret3
        exact ⟨rfl, HE.out⟩
      · obtain ⟨t1, t2, t3⟩ := Wm.take_no (Wm.takeB_len hL)
        rw [Wm.takeB_len hL, t1, t2, t3]
        have HT : ∀ W, Below w.heap.size w W → Calls Tryz.prog 154 #[.pointer (some ⟨D, 0, none⟩)] W fun e w' => e = .returned (.tuple #[.string ByteArray.empty, .bool false]) ∧ Mvr W w' R D H σ := by
          intro W hb
          have h' := HF.out.below hb
          refine (rtake_any D σ.sn H _ σ.L W h'.qu).mono fun e w' hx => ?_
          have e1 : Qm.takeB σ.L σ.sn = false := decide_eq_false hL
          have e2 : Qm.takeN σ.L σ.sn = σ.sn := by unfold Qm.takeN; rw [if_neg hL]
          have e3 : Qm.takeS σ.L σ.sn = ByteArray.empty := by unfold Qm.takeS; simp [List.getD, List.getElem?_eq_none (show σ.L.length ≤ σ.sn by omega)]
          rw [e1, e2, e3] at hx
          exact ⟨hx.1, h'.queue hx.2⟩
        clear hp hw hL t1 t2 t3 ok
        go_enter Tryz.func137, Tryz.ntmps137
        go_wp2_with fail
        go_quiet ((go_at_call 153; exact Calls.quiet_of_same ((hR _).mono fun e w' h => ⟨h.1, h.2.symm⟩)))
        have hb : Below w.heap.size w (w.drewN nq) := gdrewN_blw (Below.refl _ _) nq
        have HT' := HT _ hb
        have HB : Hid (Below w.heap.size w (w.drewN nq)) := hb
        clear hb HT hR
        go_wp2_with fail
        refine HT'.mono ?_
        rintro e w1 ⟨rfl, hm⟩
        clear HT'
        have HM : Hid (Mvr w w1 R D H σ) := Mvr.ahead HB.out hm
        clear hm HB hne c0 c1 c3 c6 f0 c7
        go_wp2
        go_ret3
        exact ⟨rfl, HM.out⟩
    · have hz : Sm.rm σ.va σ.vs σ.k = 0 := (Wm.room_zero ok).2 hw
      rw [hz] at hR
      obtain ⟨t1, t2, t3⟩ := Wm.take_no (Wm.takeB_win hw)
      rw [Wm.takeB_win hw, t1, t2, t3]
      clear f0 hp hw hz t1 t2 t3 ok c7
      go_enter Tryz.func137, Tryz.ntmps137
      go_wp2_with fail
      go_quiet ((go_at_call 153; exact Calls.quiet_of_same ((hR _).mono fun e w' h => ⟨h.1, h.2.symm⟩)))
      go_wp2
      go_ret3
      exact ⟨rfl, HF.out.same (gdrewN_blw (Below.refl _ _) _)⟩

/-- the queue's Back(0), of a flow -/
theorem rback_rf {R D : Nat} {H : Option Nat} {σ : Wm.St} {w : World} (h : Rf w R D H σ) :
    Calls Tryz.prog 156 #[.pointer (some ⟨D, 0, none⟩), .int .i64 0] w fun e w' => e = .returned (.bool true) ∧ Mvr w w' R D H { σ with sn := 0 } := by
  refine (rback_any D σ.sn H _ σ.L 0 w h.qu).mono fun e w' hx => ?_
  have e1 : Qm.okN σ.sn 0 = true := decide_eq_true ⟨Int.le_refl 0, by omega⟩
  have e2 : Qm.backS σ.sn 0 = 0 := by unfold Qm.backS; rw [e1]; rfl
  rw [e1, e2] at hx
  exact ⟨hx.1, h.queue hx.2⟩
theorem rback_vs (σ : Wm.St) : ∀ i, i < 7 → fval { σ with vs := σ.va } i = if i = 0 then .int .i64 σ.va else fval σ i :=
  fun i hi => seven (P := fun i => fval { σ with vs := σ.va } i = if i = 0 then .int .i64 σ.va else fval σ i) rfl rfl rfl rfl rfl rfl rfl i hi

set_option maxHeartbeats 1000000 in
theorem rfback_any (R D : Nat) (H : Option Nat) (σ : Wm.St) (w : World) (h : Rf w R D H σ) :
    Calls Tryz.prog 142 #[.pointer (some ⟨R, 0, none⟩)] w fun e w' => e = .returned (.tuple #[]) ∧ Mvr w w' R D H (Wm.backT σ) := by
  have c7 := h.c7
  have hlt := h.lt
  have hB := rback_rf h
  clear h
  go_enter Tryz.func142, Tryz.ntmps142
  go_wp2_with fail
  refine hB.mono ?_
  rintro e w1 ⟨rfl, hm⟩
  have HM : Hid (Mvr w w1 R D H { σ with sn := 0 }) := hm
  obtain ⟨G1, hq, -⟩ := hm
  have d0 : w1.cell? ⟨R, 0, none⟩ = some (.int .i64 σ.vs) := hq.fr.c0
  have d1 : w1.cell? ⟨R, 1, none⟩ = some (.int .i64 σ.va) := hq.fr.c1
  have g0 := hq.fr.f 0 (by decide)
  have hlt1 := hq.lt
  have HE : Hid (Mvr w (w1.setCell ⟨R, 0, none⟩ (.int .i64 σ.va)) R D H (Wm.backT σ)) :=
    HM.out.trans fun G2 h2 => h2.set (σ' := Wm.backT σ) 0 (by decide) _ (rback_vs { σ with sn := 0 }) rfl rfl rfl
  clear hB hq HM c7
  go_wp2
  go_end0
  exact ⟨rfl, HE.out⟩

set_option maxHeartbeats 1000000 in
theorem rfclear_any (R D : Nat) (H : Option Nat) (σ : Wm.St) (w : World) (h : Rf w R D H σ) :
    Calls Tryz.prog 105 #[.pointer (some ⟨R, 0, none⟩)] w fun e w' => e = .returned (.int .i64 σ.L.length) ∧ Mvr w w' R D H (Wm.clearT σ) := by
  have c0 := h.fr.c0
  have c1 := h.fr.c1
  have c7 := h.c7
  have f0 := h.fr.f 0 (by decide)
  have hlt := h.lt
  have HM : Hid (Mvr w (w.setCell ⟨R, 0, none⟩ (.int .i64 σ.va)) R D H { σ with vs := σ.va }) := h.set (σ' := { σ with vs := σ.va }) 0 (by decide) (.int .i64 σ.va) (rback_vs σ) rfl rfl rfl
  have HB : Hid (∀ W, W = w.setCell ⟨R, 0, none⟩ (.int .i64 σ.va) → Calls Tryz.prog 135 #[.pointer (some ⟨D, 0, none⟩)] W fun e w' => e = .returned (.int .i64 σ.L.length) ∧ Mvr w w' R D H (Wm.clearT σ)) := by
    intro W hW
    subst hW
    exact HM.out.call fun G1 h1 => (rclear_any D _ G1 _ _ _ h1.qu).mono fun e w' hx => ⟨hx.1, h1.queue hx.2⟩
  clear h
  go_enter Tryz.func105, Tryz.ntmps105
  go_wp2_with fail
  refine (HB.out _ rfl).mono ?_
  rintro e w1 ⟨rfl, hm⟩
  have HE : Hid (Mvr w w1 R D H (Wm.clearT σ)) := hm
  clear HB HM hm
  go_wp2
  go_ret
  exact ⟨rfl, HE.out⟩

set_option maxHeartbeats 1000000 in
theorem rfcome_any (R D : Nat) (H : Option Nat) (σ : Wm.St) (ns : Int) (w : World) (h : Rf w R D H σ) (ok : σ.Ok) (h0 : -9223372036854775808 ≤ ns) (h1 : ns ≤ 9223372036854775807) :
    Calls Tryz.prog 139 #[.pointer (some ⟨R, 0, none⟩), .int .i64 ns] w fun e w' => e = .returned (.int .i64 (Wm.comeN σ ns)) ∧ Mvr w w' R D H (Wm.comeT σ ns) := by
  have c2 := h.fr.c2
  have c4 := h.fr.c4
  have c5 := h.fr.c5
  have f2 := h.fr.f 2 (by decide)
  have f5 := h.fr.f 5 (by decide)
  have hlt := h.lt
  have HF : Hid (Rf w R D H σ) := h
  have hN := fun W => ref_snorm_any ns W h0 h1
  have lo := ok.vr0
  have hi := ok.vr1
  have hA := fun W => ref_sadd_any σ.vr 1 W (by omega) (by omega) (by omega) (by omega)
  clear h
  cases hp : σ.ow with
  | true =>
    rw [hp] at c4
    have e1 : Wm.comeN σ ns = 3 := by unfold Wm.comeN; rw [hp]; rfl
    have e2 : Wm.comeT σ ns = σ := by unfold Wm.comeT; rw [hp]; rfl
    rw [e1, e2]
    clear c2 c5 f2 f5 hN hA hp e1 e2 ok
    go_enter Tryz.func139, Tryz.ntmps139
    go_wp2
    go_ret
    exact ⟨rfl, HF.out.same (Below.refl _ _)⟩
  | false =>
    rw [hp] at c4
    by_cases hv : Sm.nm ns = σ.vr
    · have e1 : Wm.comeN σ ns = 0 := by unfold Wm.comeN; rw [hp, if_pos hv]; rfl
      have e2 : Wm.comeT σ ns = { σ with vr := Sm.ad σ.vr 1, re := false } := by unfold Wm.comeT; rw [hp, if_pos hv]; rfl
      rw [e1, e2]
      rw [hv] at hN
      have t : (σ.vr == σ.vr) = true := by simp
      have HE : Hid (∀ W, Below w.heap.size w W → Mvr w ((W.setCell ⟨R, 2, none⟩ (.int .i64 (Sm.ad σ.vr 1))).setCell ⟨R, 5, none⟩ (.bool false)) R D H { σ with vr := Sm.ad σ.vr 1, re := false }) := by
        intro W hb
        have hm := (HF.out.below hb).set (σ' := { σ with vr := Sm.ad σ.vr 1 }) 2 (by decide) (.int .i64 (Sm.ad σ.vr 1)) (fun i hi => seven (P := fun i => fval { σ with vr := Sm.ad σ.vr 1 } i = if i = 2 then .int .i64 (Sm.ad σ.vr 1) else fval σ i) rfl rfl rfl rfl rfl rfl rfl i hi) rfl rfl rfl
        refine Mvr.ahead hb (hm.trans fun G1 h1 => ?_)
        exact h1.set (σ' := { σ with vr := Sm.ad σ.vr 1, re := false }) 5 (by decide) (.bool false) (fun i hi => seven (P := fun i => fval { σ with vr := Sm.ad σ.vr 1, re := false } i = if i = 5 then .bool false else fval { σ with vr := Sm.ad σ.vr 1 } i) rfl rfl rfl rfl rfl rfl rfl i hi) rfl rfl rfl
      clear hp hv e1 e2 ok
      go_enter Tryz.func139, Tryz.ntmps139
      go_wp2_with fail
      refine (hN _).mono ?_
      rintro e w2 ⟨rfl, rfl⟩
      have HB : Hid (Below w.heap.size w w) := Below.refl _ _
      go_wp2_with fail
      refine (hA _).mono ?_
      rintro e w2 ⟨rfl, rfl⟩
      clear hA hN
      go_wp2
      go_ret
      exact ⟨rfl, HE.out _ HB.out⟩
    · have t : (Sm.nm ns == σ.vr) = false := by simpa using hv
      cases hr : σ.re with
      | true =>
        rw [hr] at c5
        have e1 : Wm.comeN σ ns = 2 := by unfold Wm.comeN; rw [hp, if_neg hv, hr]; rfl
        have e2 : Wm.comeT σ ns = σ := by
          have e : ({ σ with re := true } : Wm.St) = σ := by rw [← hr]
          unfold Wm.comeT
          rw [hp, if_neg hv, if_neg (by decide)]
          rw [hp] at e
          exact e
        rw [e1, e2]
        clear hp hv e1 e2 ok hr hA
        go_enter Tryz.func139, Tryz.ntmps139
        go_wp2_with fail
        refine (hN _).mono ?_
        rintro e w2 ⟨rfl, rfl⟩
        have HB : Hid (Below w.heap.size w w) := Below.refl _ _
        go_wp2
        go_ret
        exact ⟨rfl, HF.out.same HB.out⟩
      | false =>
        rw [hr] at c5
        have e1 : Wm.comeN σ ns = 1 := by unfold Wm.comeN; rw [hp, if_neg hv, hr]; rfl
        have e2 : Wm.comeT σ ns = { σ with re := true } := by unfold Wm.comeT; rw [hp, if_neg hv, if_neg (by decide)]
        rw [e1, e2]
        have HE : Hid (∀ W, Below w.heap.size w W → Mvr w (W.setCell ⟨R, 5, none⟩ (.bool true)) R D H { σ with re := true }) := by
          intro W hb
          exact Mvr.ahead hb ((HF.out.below hb).set (σ' := { σ with re := true }) 5 (by decide) (.bool true) (fun i hi => seven (P := fun i => fval { σ with re := true } i = if i = 5 then .bool true else fval σ i) rfl rfl rfl rfl rfl rfl rfl i hi) rfl rfl rfl)
        clear hp hv e1 e2 ok hr hA
        go_enter Tryz.func139, Tryz.ntmps139
        go_wp2_with fail
        refine (hN _).mono ?_
        rintro e w2 ⟨rfl, rfl⟩
        have HB : Hid (Below w.heap.size w w) := Below.refl _ _
        go_wp2
        go_ret
        exact ⟨rfl, HE.out _ HB.out⟩

set_option maxHeartbeats 1000000 in
theorem rfack_any (R D : Nat) (H : Option Nat) (σ : Wm.St) (nr : Int) (w : World) (h : Rf w R D H σ) (ok : σ.Ok) (h0 : -9223372036854775808 ≤ nr) (h1 : nr ≤ 9223372036854775807) :
    Calls Tryz.prog 140 #[.pointer (some ⟨R, 0, none⟩), .int .i64 nr] w fun e w' => e = .returned (.tuple #[.int .i64 (Wm.ackN σ nr), .int .i64 (Wm.ackE σ nr)]) ∧ Mvr w w' R D H (Wm.ackT σ nr) := by
  have c0 := h.fr.c0
  have c1 := h.fr.c1
  have f1 := h.fr.f 1 (by decide)
  have hlt := h.lt
  have c7 := h.c7
  have HF : Hid (Rf w R D H σ) := h
  have hN := fun W => ref_snorm_any nr W h0 h1
  have o1 := ok.va0
  have o2 := ok.va1
  have o3 := ok.vs0
  have o4 := ok.vs1
  have hV := fun W => ref_svalid_any σ.va nr σ.vs W (by omega) (by omega) h0 h1 (by omega) (by omega)
  have hS := fun W => ref_ssub_any nr σ.va W h0 h1 (by omega) (by omega)
  clear h
  cases hb : Wm.ackB σ nr with
  | false =>
    have hb' := hb
    unfold Wm.ackB at hb'
    rw [hb'] at hV
    have e1 : Wm.ackN σ nr = 0 := by unfold Wm.ackN; rw [hb]; rfl
    have e2 : Wm.ackE σ nr = 2 := by unfold Wm.ackE; rw [hb]; rfl
    have e3 : Wm.ackT σ nr = σ := by unfold Wm.ackT; rw [hb]; rfl
    rw [e1, e2, e3]
    clear hb hb' e1 e2 e3 hN hS f1 ok
    go_enter Tryz.func140, Tryz.ntmps140
    go_wp2_with fail
    go_quiet ((go_at_call 157; exact Calls.quiet_of_same ((hV _).mono fun e w' h => ⟨h.1, h.2.symm⟩)))
    go_wp2
    go_ret2
    exact ⟨rfl, HF.out.same (gdrewN_blw (Below.refl _ _) _)⟩
  | true =>
    have hb' := hb
    unfold Wm.ackB at hb'
    rw [hb'] at hV
    have e1 : Wm.ackN σ nr = Sm.sb nr σ.va := by unfold Wm.ackN; rw [hb]; rfl
    have e2 : Wm.ackE σ nr = 0 := by unfold Wm.ackE; rw [hb]; rfl
    have e3 : Wm.ackT σ nr = { σ with va := Sm.nm nr, L := Qm.doneL σ.L σ.sn (Sm.sb nr σ.va), sn := Qm.doneS σ.sn (Sm.sb nr σ.va) } := by unfold Wm.ackT; rw [hb]; rfl
    rw [e1, e2, e3]
    have hD : ∀ W, Below w.heap.size w W → Calls Tryz.prog 159 #[.pointer (some ⟨D, 0, none⟩), .int .i64 (Sm.sb nr σ.va)] W fun e w' => e = .returned (.bool true) ∧ Mvr w w' R D H { σ with L := Qm.doneL σ.L σ.sn (Sm.sb nr σ.va), sn := Qm.doneS σ.sn (Sm.sb nr σ.va) } := by
      intro W hbl
      have h' := HF.out.below hbl
      refine (rdone_any D σ.sn H _ σ.L (Sm.sb nr σ.va) W h'.qu).mono fun e w' hx => ?_
      rw [Wm.ack_okN ok hb] at hx
      exact ⟨hx.1, Mvr.ahead hbl (h'.queue hx.2)⟩
    clear hb hb' e1 e2 e3 ok
    generalize Sm.sb nr σ.va = d at hS hD ⊢
    go_enter Tryz.func140, Tryz.ntmps140
    go_wp2_with fail
    go_quiet ((go_at_call 157; exact Calls.quiet_of_same ((hV _).mono fun e w' h => ⟨h.1, h.2.symm⟩)))
    have HB : Hid (Below w.heap.size w (w.drewN nq)) := gdrewN_blw (Below.refl _ _) nq
    go_wp2_with fail
    refine (hS _).mono ?_
    rintro e w2 ⟨rfl, rfl⟩
    clear hS hV
    have HD := hD _ HB.out
    clear hD
    go_wp2_with fail
    refine HD.mono ?_
    rintro e w1 ⟨rfl, hm⟩
    clear HD c0 c1 f1 HF c7
    have HM : Hid (Mvr w w1 R D H { σ with L := Qm.doneL σ.L σ.sn d, sn := Qm.doneS σ.sn d }) := hm
    obtain ⟨G1, hq, -⟩ := hm
    have d1 : w1.cell? ⟨R, 1, none⟩ = some (.int .i64 σ.va) := hq.fr.c1
    have g1 := hq.fr.f 1 (by decide)
    have hlt1 := hq.lt
    have HE : Hid (Mvr w (w1.setCell ⟨R, 1, none⟩ (.int .i64 (Sm.nm nr))) R D H { σ with va := Sm.nm nr, L := Qm.doneL σ.L σ.sn d, sn := Qm.doneS σ.sn d }) :=
      HM.out.trans fun G2 h2 => h2.set 1 (by decide) _ (fun i hi => seven (P := fun i => fval { σ with va := Sm.nm nr, L := Qm.doneL σ.L σ.sn d, sn := Qm.doneS σ.sn d } i = if i = 1 then .int .i64 (Sm.nm nr) else fval { σ with L := Qm.doneL σ.L σ.sn d, sn := Qm.doneS σ.sn d } i) rfl rfl rfl rfl rfl rfl rfl i hi) rfl rfl rfl
    clear hq HM HB
    go_wp2_with fail
    refine (hN _).mono ?_
    rintro e w2 ⟨rfl, rfl⟩
    clear hN
    go_wp2
    go_ret2
    exact ⟨rfl, HE.out⟩

/-- the six stores of a Reset -/
def rzero6 (w : World) (C : Nat) : World :=
  (((((w.setCell ⟨C, 0, none⟩ (.int .i64 0)).setCell ⟨C, 1, none⟩ (.int .i64 0)).setCell ⟨C, 2, none⟩ (.int .i64 0)).setCell ⟨C, 3, none⟩ (.bool false)).setCell ⟨C, 4, none⟩ (.bool false)).setCell ⟨C, 5, none⟩ (.bool false)

theorem rreset_1 (σ : Wm.St) : ∀ i, i < 7 → fval { σ with vs := 0 } i = if i = 0 then .int .i64 0 else fval σ i :=
  fun i hi => seven (P := fun i => fval { σ with vs := 0 } i = if i = 0 then .int .i64 0 else fval σ i) rfl rfl rfl rfl rfl rfl rfl i hi
theorem rreset_2 (σ : Wm.St) : ∀ i, i < 7 → fval { σ with va := 0 } i = if i = 1 then .int .i64 0 else fval σ i :=
  fun i hi => seven (P := fun i => fval { σ with va := 0 } i = if i = 1 then .int .i64 0 else fval σ i) rfl rfl rfl rfl rfl rfl rfl i hi
theorem rreset_3 (σ : Wm.St) : ∀ i, i < 7 → fval { σ with vr := 0 } i = if i = 2 then .int .i64 0 else fval σ i :=
  fun i hi => seven (P := fun i => fval { σ with vr := 0 } i = if i = 2 then .int .i64 0 else fval σ i) rfl rfl rfl rfl rfl rfl rfl i hi
theorem rreset_4 (σ : Wm.St) : ∀ i, i < 7 → fval { σ with pe := false } i = if i = 3 then .bool false else fval σ i :=
  fun i hi => seven (P := fun i => fval { σ with pe := false } i = if i = 3 then .bool false else fval σ i) rfl rfl rfl rfl rfl rfl rfl i hi
theorem rreset_5 (σ : Wm.St) : ∀ i, i < 7 → fval { σ with ow := false } i = if i = 4 then .bool false else fval σ i :=
  fun i hi => seven (P := fun i => fval { σ with ow := false } i = if i = 4 then .bool false else fval σ i) rfl rfl rfl rfl rfl rfl rfl i hi
theorem rreset_6 (σ : Wm.St) : ∀ i, i < 7 → fval { σ with re := false } i = if i = 5 then .bool false else fval σ i :=
  fun i hi => seven (P := fun i => fval { σ with re := false } i = if i = 5 then .bool false else fval σ i) rfl rfl rfl rfl rfl rfl rfl i hi

def rclean (σ : Wm.St) : Wm.St := { σ with vs := 0, va := 0, vr := 0, pe := false, ow := false, re := false }
theorem Rf.zero6 {w : World} {R D : Nat} {H : Option Nat} {σ : Wm.St} (h : Rf w R D H σ) : Mvr w (rzero6 w R) R D H (rclean σ) :=
  (((((h.set (σ' := { σ with vs := 0 }) 0 (by decide) _ (rreset_1 σ) rfl rfl rfl).trans fun _ h => h.set (σ' := { σ with vs := 0, va := 0 }) 1 (by decide) _ (rreset_2 { σ with vs := 0 }) rfl rfl rfl).trans fun _ h => h.set (σ' := { σ with vs := 0, va := 0, vr := 0 }) 2 (by decide) _ (rreset_3 { σ with vs := 0, va := 0 }) rfl rfl rfl).trans fun _ h => h.set (σ' := { σ with vs := 0, va := 0, vr := 0, pe := false }) 3 (by decide) _ (rreset_4 { σ with vs := 0, va := 0, vr := 0 }) rfl rfl rfl).trans fun _ h => h.set (σ' := { σ with vs := 0, va := 0, vr := 0, pe := false, ow := false }) 4 (by decide) _ (rreset_5 { σ with vs := 0, va := 0, vr := 0, pe := false }) rfl rfl rfl).trans fun _ h => h.set (σ' := { σ with vs := 0, va := 0, vr := 0, pe := false, ow := false, re := false }) 5 (by decide) _ (rreset_6 { σ with vs := 0, va := 0, vr := 0, pe := false, ow := false }) rfl rfl rfl

set_option maxHeartbeats 1000000 in
theorem rfreset_any (R D : Nat) (H : Option Nat) (σ : Wm.St) (w : World) (h : Rf w R D H σ) :
    Calls Tryz.prog 138 #[.pointer (some ⟨R, 0, none⟩)] w fun e w' => e = .returned (.tuple #[]) ∧ Mvr w w' R D H (Wm.resetT σ) := by
  have c7 := h.c7
  have hlt := h.lt
  have hB := rback_rf h
  clear h
  go_enter Tryz.func138, Tryz.ntmps138
  go_wp2_with fail
  refine hB.mono ?_
  rintro e w1 ⟨rfl, hm⟩
  have HM : Hid (Mvr w (rzero6 w1 R) R D H (Wm.resetT σ)) := hm.trans fun G2 h2 => h2.zero6
  obtain ⟨G1, hq, -⟩ := hm
  have d0 := hq.fr.c0
  have d1 := hq.fr.c1
  have d2 := hq.fr.c2
  have d3 := hq.fr.c3
  have d4 := hq.fr.c4
  have d5 := hq.fr.c5
  have f0 := hq.fr.f 0 (by decide)
  have f1 := hq.fr.f 1 (by decide)
  have f2 := hq.fr.f 2 (by decide)
  have f3 := hq.fr.f 3 (by decide)
  have f4 := hq.fr.f 4 (by decide)
  have f5 := hq.fr.f 5 (by decide)
  have hlt1 := hq.lt
  clear hB hq c7
  go_wp2
  go_end0
  exact ⟨rfl, HM.out⟩
end Go.Proofs.YtidemohpngkedabGreatDoor
