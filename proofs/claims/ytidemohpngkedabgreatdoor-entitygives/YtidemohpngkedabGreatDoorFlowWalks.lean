/-
  The walks of a flow's methods: New, Push, Take, Ack, Back, Come, SetPeer, SetOwn, Reset, Clear.
-/
import Derived.Test.YtidemohpngkedabGreatDoorFlowRow
import Derived.Test.YtidemohpngkedabGreatDoorQoWalks
import Derived.Test.YtidemohpngkedabGreatDoorSeqSmall
import Derived.BigQuiet
import Derived.OwnWalk
namespace Go.Proofs.YtidemohpngkedabGreatDoor
open Go.RowKit
set_option linter.unusedVariables false
set_option maxRecDepth 100000
set_option linter.unusedSimpArgs false

theorem fdrewN_blw {B : Nat} {a b : World} (h : Below B a b) : ∀ n, Below B a (b.drewN n)
  | 0 => h
  | n + 1 => (fdrewN_blw h n).drew

set_option maxHeartbeats 1000000 in
theorem fpush_any (C : Nat) (G : Option Nat) (σ : Wm.St) (s : ByteArray) (w : World) (h : Fl w C G σ) (hs : s.size ≤ 9223372036854775807) :
    Calls Tryz.prog 121 #[.pointer (some ⟨C, 0, none⟩), .string s] w fun e w' => e = .returned (.int .i64 (Qm.pushN σ.mo σ.L s)) ∧ Mvf w w' C G (Wm.pushT σ s) := by
  have HP := (opush_any C σ.sn G σ.mo σ.L s w h.qu hs).mono fun e w' h' => (⟨h'.1, h.queue h'.2⟩ : _ ∧ Mvf w w' C G (Wm.pushT σ s))
  have hlt := h.lt
  clear h
  go_enter Tryz.func121, Tryz.ntmps121
  go_wp2_with fail
  refine HP.mono ?_
  rintro e w1 ⟨rfl, hm⟩
  have HM : Hid (Mvf w w1 C G (Wm.pushT σ s)) := hm
  clear HP hm
  go_wp2
  go_ret
  exact ⟨rfl, HM.out⟩

set_option maxHeartbeats 1000000 in
theorem ftake_any (C : Nat) (G : Option Nat) (σ : Wm.St) (w : World) (h : Fl w C G σ) (ok : σ.Ok) :
    Calls Tryz.prog 144 #[.pointer (some ⟨C, 0, none⟩)] w fun e w' => e = .returned (.tuple #[.int .i64 (Wm.takeN σ), .string (Wm.takeS σ), .bool (Wm.takeB σ)]) ∧ Mvf w w' C G (Wm.takeT σ) := by
  have c0 := h.fr.c0
  have c1 := h.fr.c1
  have c3 := h.fr.c3
  have c6 := h.fr.c6
  have f0 := h.fr.f 0 (by decide)
  have hlt := h.lt
  have HF : Hid (Fl w C G σ) := h
  have hR := fun W => sroom_any σ.va σ.vs σ.k W (by have := ok.va0; omega) (by have := ok.va1; omega) (by have := ok.vs0; omega) (by have := ok.vs1; omega) ok.k0 ok.k1
  clear h
  cases hp : σ.pe with
  | true =>
    rw [hp] at c3
    obtain ⟨t1, t2, t3⟩ := Wm.take_no (Wm.takeB_pe hp)
    rw [Wm.takeB_pe hp, t1, t2, t3]
    clear c0 c1 c6 f0 hR hp t1 t2 t3 ok
    go_enter Tryz.func144, Tryz.ntmps144
    go_wp2_with fail
    go_quiet (fail)
    go_wp2
    go_ret3
    exact ⟨rfl, HF.out.same (fdrewN_blw (Below.refl _ _) _)⟩
  | false =>
    rw [hp] at c3
    by_cases hw : (σ.sn : Int) < Wm.win σ.k
    · have hne : (Sm.rm σ.va σ.vs σ.k == 0) = false := by
        have := Wm.room_zero ok
        simp
        omega
      have lo := ok.vs0
      have hi := ok.vs1
      by_cases hL : σ.sn < σ.L.length
      · obtain ⟨t1, t2, t3⟩ := Wm.take_yes (Wm.takeB_all hp hw hL)
        rw [Wm.takeB_all hp hw hL, t1, t2, t3]
        have HT : ∀ W, Below w.heap.size w W → Calls Tryz.prog 162 #[.pointer (some ⟨C, 7, none⟩)] W fun e w' => e = .returned (.tuple #[.string (σ.L.getD σ.sn ByteArray.empty), .bool true]) ∧ Mvf W w' C G { σ with sn := σ.sn + 1 } := by
          intro W hb
          have h' := HF.out.below hb
          refine (otake_any C σ.sn G σ.mo σ.L W h'.qu).mono fun e w' hx => ?_
          have e1 : Qm.takeB σ.L σ.sn = true := decide_eq_true hL
          have e2 : Qm.takeN σ.L σ.sn = σ.sn + 1 := by unfold Qm.takeN; rw [if_pos hL]
          rw [e1, e2] at hx
          exact ⟨hx.1, h'.queue hx.2⟩
        clear hp hw hL t1 t2 t3 ok
        generalize σ.L.getD σ.sn ByteArray.empty = x at HT ⊢
        go_enter Tryz.func144, Tryz.ntmps144
        go_wp2_with fail
        go_quiet ((go_at_call 161; exact Calls.quiet_of_same ((hR _).mono fun e w' h => ⟨h.1, h.2.symm⟩)))
        have hb : Below w.heap.size w (w.drewN nq) := fdrewN_blw (Below.refl _ _) nq
        have HT' := HT _ hb
        have HB : Hid (Below w.heap.size w (w.drewN nq)) := hb
        clear hb HT hR hne c0 c1 c3 c6 f0
        generalize w.drewN nq = w0 at HT' HB ⊢
        go_wp2_with fail
        refine HT'.mono ?_
        rintro e w1 ⟨rfl, hm⟩
        clear HT'
        have HM : Hid (Mvf w w1 C G { σ with sn := σ.sn + 1 }) := Mvf.ahead HB.out hm
        obtain ⟨G1, hq, -⟩ := hm
        have d0 : w1.cell? ⟨C, 0, none⟩ = some (.int .i64 σ.vs) := hq.fr.c0
        have g0 := hq.fr.f 0 (by decide)
        have hlt1 := hq.lt
        have hA := sadd_any σ.vs 1 w1 (by omega) (by omega) (by omega) (by omega)
        have HE : Hid (Mvf w (w1.setCell ⟨C, 0, none⟩ (.int .i64 (Sm.ad σ.vs 1))) C G { σ with vs := Sm.ad σ.vs 1, sn := σ.sn + 1 }) :=
          HM.out.trans fun G2 h2 => h2.set 0 (by decide) _ (fun i hi => seven (P := fun i => fval { σ with vs := Sm.ad σ.vs 1, sn := σ.sn + 1 } i = if i = 0 then .int .i64 (Sm.ad σ.vs 1) else fval { σ with sn := σ.sn + 1 } i) rfl rfl rfl rfl rfl rfl rfl i hi) rfl rfl rfl
        clear hq HM HB
        go_wp2_with fail
        refine hA.mono ?_
        rintro e w2 ⟨rfl, rfl⟩
        clear hA
        go_wp2
        go_ret3
        exact ⟨rfl, HE.out⟩
      · obtain ⟨t1, t2, t3⟩ := Wm.take_no (Wm.takeB_len hL)
        rw [Wm.takeB_len hL, t1, t2, t3]
        have HT : ∀ W, Below w.heap.size w W → Calls Tryz.prog 162 #[.pointer (some ⟨C, 7, none⟩)] W fun e w' => e = .returned (.tuple #[.string ByteArray.empty, .bool false]) ∧ Mvf W w' C G σ := by
          intro W hb
          have h' := HF.out.below hb
          refine (otake_any C σ.sn G σ.mo σ.L W h'.qu).mono fun e w' hx => ?_
          have e1 : Qm.takeB σ.L σ.sn = false := decide_eq_false hL
          have e2 : Qm.takeN σ.L σ.sn = σ.sn := by unfold Qm.takeN; rw [if_neg hL]
          have e3 : Qm.takeS σ.L σ.sn = ByteArray.empty := by unfold Qm.takeS; simp [List.getD, List.getElem?_eq_none (show σ.L.length ≤ σ.sn by omega)]
          rw [e1, e2, e3] at hx
          exact ⟨hx.1, h'.queue hx.2⟩
        clear hp hw hL t1 t2 t3 ok
        go_enter Tryz.func144, Tryz.ntmps144
        go_wp2_with fail
        go_quiet ((go_at_call 161; exact Calls.quiet_of_same ((hR _).mono fun e w' h => ⟨h.1, h.2.symm⟩)))
        have hb : Below w.heap.size w (w.drewN nq) := fdrewN_blw (Below.refl _ _) nq
        have HT' := HT _ hb
        have HB : Hid (Below w.heap.size w (w.drewN nq)) := hb
        clear hb HT hR hne c0 c1 c3 c6 f0
        generalize w.drewN nq = w0 at HT' HB ⊢
        go_wp2_with fail
        refine HT'.mono ?_
        rintro e w1 ⟨rfl, hm⟩
        clear HT'
        have HM : Hid (Mvf w w1 C G σ) := Mvf.ahead HB.out hm
        clear hm HB
        go_wp2
        go_ret3
        exact ⟨rfl, HM.out⟩
    · have hz : Sm.rm σ.va σ.vs σ.k = 0 := (Wm.room_zero ok).2 hw
      rw [hz] at hR
      obtain ⟨t1, t2, t3⟩ := Wm.take_no (Wm.takeB_win hw)
      rw [Wm.takeB_win hw, t1, t2, t3]
      clear f0 hp hw hz t1 t2 t3 ok
      go_enter Tryz.func144, Tryz.ntmps144
      go_wp2_with fail
      go_quiet ((go_at_call 161; exact Calls.quiet_of_same ((hR _).mono fun e w' h => ⟨h.1, h.2.symm⟩)))
      go_wp2
      go_ret3
      exact ⟨rfl, HF.out.same (fdrewN_blw (Below.refl _ _) _)⟩
end Go.Proofs.YtidemohpngkedabGreatDoor
