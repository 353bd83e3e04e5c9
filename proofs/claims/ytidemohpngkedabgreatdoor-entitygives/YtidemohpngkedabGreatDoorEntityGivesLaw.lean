/-
  The law EntityGives' walk: a link that nobody answers is given up behind just so many calls, or releases; its user is told.
-/
import Derived.Test.YtidemohpngkedabGreatDoorEntAfter
namespace Go.Proofs.YtidemohpngkedabGreatDoor
open Go.RowKit
set_option linter.unusedVariables false
set_option maxRecDepth 100000
set_option linter.unusedSimpArgs false

theorem open_EntityGives1 {H : Type} {enc : TypeId × Value → H} {w : World} {a : Option Addr} {len cap : Nat} {d : DataW H} {p : List MemPlace}
    (h : DataW.Trod enc Tryz.prog w 0 (fun _ => true) true 22 (.slice a len cap) d p) : ∃ ps, RowE w a len cap ps := open_actse h
/-- calls behind v of a row's effects -/
def callN (i v : Nat) : Nat := if v = 0 then i else i + 1
def relInt (r : Bool) : Int := if r then 1 else 0
/-- a call goes out, nobody is told -/
def RowA (kd td : Int) (l : List Em.Eff) : Prop := ∀ i, i < l.length → (l.getD i eff0).kind ≠ td ∧ (i = 0 → (l.getD i eff0).kind = 0 ∧ (l.getD i eff0).f.k = kd) ∧ (0 < i → (l.getD i eff0).kind ≠ 0)
/-- it is given up: its user is told -/
def RowZ (td : Int) (l : List Em.Eff) : Prop := l.length = 2 ∧ (l.getD 0 eff0).kind = 7 ∧ (l.getD 1 eff0).kind = td
theorem rowA_ask (e : Em.St) (kd td : Int) (ht : td = 3 ∨ td = 4) : RowA kd td (Em.askOut e kd) ∧ 0 < (Em.askOut e kd).length := by
  unfold Em.askOut
  cases e.t203 with
  | false =>
    refine ⟨fun i hi => ?_, by simp⟩
    match i, hi with
    | 0, _ => exact ⟨by show (0 : Int) ≠ td; omega, fun _ => ⟨rfl, rfl⟩, fun h => absurd h (by omega)⟩
    | 1, _ => exact ⟨by show (9 : Int) ≠ td; omega, fun h => absurd h (by omega), fun _ => by show (9 : Int) ≠ 0; decide⟩
    | n + 2, hi => exfalso; simp at hi; try omega
  | true =>
    refine ⟨fun i hi => ?_, by simp⟩
    match i, hi with
    | 0, _ => exact ⟨by show (0 : Int) ≠ td; omega, fun _ => ⟨rfl, rfl⟩, fun h => absurd h (by omega)⟩
    | 1, _ => exact ⟨by show (10 : Int) ≠ td; omega, fun h => absurd h (by omega), fun _ => by show (10 : Int) ≠ 0; decide⟩
    | 2, _ => exact ⟨by show (9 : Int) ≠ td; omega, fun h => absurd h (by omega), fun _ => by show (9 : Int) ≠ 0; decide⟩
    | n + 3, hi => exfalso; simp at hi; try omega
theorem rowA_more (e : Em.St) (kd td : Int) (ht : td = 3 ∨ td = 4) : RowA kd td [⟨0, Em.askF e kd, ByteArray.empty, 0⟩, ⟨9, Em.fr0, ByteArray.empty, 200⟩] := by
  intro i hi
  match i, hi with
  | 0, _ => exact ⟨by show (0 : Int) ≠ td; omega, fun _ => ⟨rfl, rfl⟩, fun h => absurd h (by omega)⟩
  | 1, _ => exact ⟨by show (9 : Int) ≠ td; omega, fun h => absurd h (by omega), fun _ => by show (9 : Int) ≠ 0; decide⟩
  | n + 2, hi => exfalso; simp at hi; try omega
/-- where the calls stand: i of them are out but for this row's -/
def Go14 (m kd td s : Int) (i : Nat) (l : List Em.Eff) (e : Em.St) : Prop :=
  ((i : Int) ≤ m ∧ Em.Waits e s i ∧ e.most = m ∧ RowA kd td l ∧ 0 < l.length) ∨ ((i : Int) = m + 1 ∧ e.state = 4 ∧ e.t200 = false ∧ RowZ td l)
def Way14 (kd td s : Int) : Prop := (kd = 4 ∧ td = 3 ∧ s = 5) ∨ (kd = 7 ∧ td = 4 ∧ s = 6)
theorem go_next {m kd td s : Int} {i : Nat} {e : Em.St} (hw : Way14 kd td s) (h1 : (i : Int) ≤ m) (h2 : Em.Waits e s i) (h3 : e.most = m) : Go14 m kd td s (i + 1) (Em.timeout e 200).out (Em.rest (Em.timeout e 200)) := by
  have hs : s = 5 ∨ s = 6 := by rcases hw with ⟨_, _, h⟩ | ⟨_, _, h⟩ <;> omega
  have ht : td = 3 ∨ td = 4 := by rcases hw with ⟨_, h, _⟩ | ⟨_, h, _⟩ <;> omega
  by_cases hj : (i : Int) = e.most
  · obtain ⟨q1, q2, q3⟩ := Em.try_last h2 hs hj
    refine Or.inr ⟨by omega, q1, q2, ?_⟩
    rw [q3]
    refine ⟨rfl, rfl, ?_⟩
    rcases hw with ⟨_, rfl, rfl⟩ | ⟨_, rfl, rfl⟩ <;> rfl
  · obtain ⟨q1, q2, q3⟩ := Em.try_more h2 hs hj
    refine Or.inl ⟨by omega, ⟨q1.state, q1.tries, q1.t2, q1.t3⟩, q2.trans h3, ?_, by rw [q3]; simp⟩
    rw [q3]
    rcases hw with ⟨rfl, rfl, rfl⟩ | ⟨rfl, rfl, rfl⟩
    · exact rowA_more e 4 3 (Or.inl rfl)
    · exact rowA_more e 7 4 (Or.inr rfl)
theorem assign_high {e : Em.St} (h3 : e.state ≤ 3) : 4 ≤ (Em.assign e 70).1.state := by
  unfold Em.assign
  simp only []
  rw [if_neg (by omega), if_neg (by show ¬ (4 ≤ e.state); omega)]
  show 4 ≤ (if e.state = 3 then _ else _ : Em.St).state
  split
  · show (4 : Int) ≤ 5; decide
  · have := (Em.unitsOut_keep e.units { e with out := [], tei := 70, state := 4 }).state
    show (4 : Int) ≤ (Em.unitsOut { e with out := [], tei := 70, state := 4 } e.units).state
    rw [this]
    show (4 : Int) ≤ 4; decide
section
variable {b : Nat} {W0 w w' : World} {F : Nat → Prop} {C : Nat} {e : Em.St}
theorem eh_assign (t : Int) (t0 : -9223372036854775808 ≤ t) (t1 : t ≤ 9223372036854775807) (h : EH b W0 w F C e) :
    Calls Tryz.prog 22 #[.pointer (some ⟨C, 0, none⟩), .int .i64 t] w fun r w' => ∃ v, r = .returned v ∧ EH b W0 w' F C (Em.rest (Em.assign e t).1) := by
  obtain ⟨lab, h1, h2, h3⟩ := h.en
  refine (eassign_any C lab e t w h1 t0 t1).mono ?_
  rintro r w' ⟨x, rfl, ht⟩
  exact ⟨_, rfl, (EH.told (F := F) h.bs h.bel h2 h3 ht).1.weak (fun k hk => Or.inl hk)⟩
end
theorem efield1 (W : World) (a b c d e f g h i j k l m n o : Value) : (Instr.field 64 (.agg #[a, b, c, d, e, f, g, h, i, j, k, l, m, n, o]) 1).run Tryz.prog W = .ok b W := by kernel_rfl
theorem efield0g (W : World) (a b c d e f g h i j k l m n o : Value) : (Instr.field 64 (.agg #[a, b, c, d, e, f, g, h, i, j, k, l, m, n, o]) 0).run Tryz.prog W = .ok a W := by kernel_rfl
theorem efield4 (W : World) (a b c d e f g h i j k l m n o : Value) : (Instr.field 64 (.agg #[a, b, c, d, e, f, g, h, i, j, k, l, m, n, o]) 4).run Tryz.prog W = .ok e W := by kernel_rfl
set_option maxHeartbeats 8000000 in
theorem walk_EntityGives (n2 : Int) (a : Option Addr) (len cap : Nat) (ps : List ActE) (rel : Bool) (w : World) (hn : -9223372036854775808 ≤ n2 ∧ n2 ≤ 9223372036854775807) (hr : RowE w a len cap ps) (hWy : Ways w) :
    Calls Tryz.prog 6 #[.int .i64 n2, .slice a len cap, .bool rel] w fun r w' => r = .returned (.bool true) ∧ Below w.heap.size w w' := by
  have HWy : Hid (Ways w) := hWy
  have HAF := after_any 7 n2 a len cap ps w (by omega) hr hWy
  have hC : Em.Cst (Em.mostOf n2) (Em.new 7 n2).fl.k (Em.run (Em.new 7 n2) (ps.take (capN len 60))) := Em.run_c _ ⟨rfl, rfl⟩
  have HCS : Hid ((Em.run (Em.new 7 n2) (ps.take (capN len 60))).most = Em.mostOf n2) := hC.1
  generalize Em.run (Em.new 7 n2) (ps.take (capN len 60)) = e at HAF HCS
  obtain ⟨m, hm⟩ : ∃ m, m = Em.mostOf n2 := ⟨_, rfl⟩
  rw [← hm] at HCS
  have HMM : Hid (1 ≤ m ∧ m ≤ 32 ∧ m = min (max n2 1) 32) := by
    have : m = min (max n2 1) 32 := hm
    show _ ∧ _ ∧ _
    omega
  clear hC hm hr hWy
  go_enter Tryz.func6, Tryz.ntmps6
  go_wp2_with fail
  refine HAF.mono ?_
  rintro r w1 ⟨C, R, o, rfl, hP⟩
  have HE1 : Hid (EH w.heap.size w w1 (fun _ => False) C e) := eh_pr hP
  clear hP HAF
  obtain ⟨b, hb⟩ : ∃ b, b = w.heap.size := ⟨_, rfl⟩
  rw [← hb] at HE1
  have HC : Hid (b = w.heap.size) := hb
  clear hb
  have HWK : Hid (∀ W e, EH b w W (fun _ => False) C e → Calls Tryz.prog 11 #[] W fun r w' => r = .returned (.bool true) ∧ Below W.heap.size W w') := fun W e h => ewakes_any W (HWy.out.later (by have := h.bel; rw [HC.out] at this; exact this))
  have HFI : Hid (∀ W e, EH b w W (fun _ => False) C e → Below w.heap.size w W) := fun W e h => by have := h.bel; rw [HC.out] at this; exact this
  clear HWy
  have HV := eh_view HE1.out
  unfold evV at HV
  go_wp2_with fail
  refine HV.mono ?_
  rintro r w2 ⟨rfl, hb2⟩
  have hfv := efield1 w2
  have HE2 : Hid (EH b w w2 (fun _ => False) C e) := HE1.out.same hb2
  clear hb2 HE1 HV
  go_upto_if 28 with fail
  clear hfv
  go_cut [] from 28 to 30 (fun wx => ∃ e2, Hid (EH b w wx (fun _ => False) C e2) ∧ Hid (4 ≤ e2.state ∧ e2.most = m))
  case first =>
    by_cases ht : e.tei < 0
    · have h3 : e.state ≤ 3 := by
        rcases (show e.state ≤ 3 ∨ 4 ≤ e.state by omega) with h | h
        · exact h
        · have := (HE2.out.ok.hi h).1; omega
      have HA := eh_assign 70 (by omega) (by omega) HE2.out
      have HS : Hid (4 ≤ (Em.rest (Em.assign e 70).1).state ∧ (Em.rest (Em.assign e 70).1).most = m) := ⟨assign_high h3, (Em.assign_c (m := m) (kk := e.fl.k) ⟨HCS.out, rfl⟩ 70).1⟩
      clear h3 HE2
      go_wp2_with fail
      refine HA.mono ?_
      rintro r w3 ⟨v, rfl, hE⟩
      have HE3 := (show Hid _ from hE)
      clear hE HA
      go_wp2
      go_meet
      case rel => exact ⟨_, HE3, HS⟩
    · have HS : Hid (4 ≤ e.state ∧ e.most = m) := ⟨by
        rcases (show e.state ≤ 3 ∨ 4 ≤ e.state by omega) with h | h
        · have := HE2.out.ok.lo h; omega
        · exact h, HCS.out⟩
      go_wp2
      go_meet
      case rel => exact ⟨e, HE2, HS⟩
  obtain ⟨e2, HE3, HS⟩ := hcut
  clear HE2 HCS
  go_upto_if 31 with fail
  go_cut [9, 10, 11] from 32 to 41 (fun s9 s10 s11 wx => ∃ kd td s : Int, s9 = .int .i64 kd ∧ s10 = .int .i64 td ∧ Hid (EH b w wx (fun _ => False) C e2) ∧ Hid (Way14 kd td s ∧ ((rel = false ∧ s = 5) ∨ (rel = true ∧ s = 6 ∧ (e2.state = 7 ∨ e2.state = 8)))))
  case first =>
    cases rel with
    | false =>
      go_wp2
      go_meet
      case rel => exact ⟨4, 3, 5, rfl, rfl, HE3, (show Way14 4 3 5 ∧ _ from ⟨Or.inl ⟨rfl, rfl, rfl⟩, by first | exact Or.inl ⟨rfl, rfl⟩ | exact Or.inl ⟨trivial, rfl⟩⟩)⟩
    | true =>
      have HV := eh_view HE3.out
      unfold evV at HV
      go_wp2_with fail
      refine HV.mono ?_
      rintro r w4 ⟨rfl, hb4⟩
      have HE4 : Hid (EH b w w4 (fun _ => False) C e2) := HE3.out.same hb4
      have HEa : Hid (∀ o, EH b w (w4.alloc o) (fun _ => False) C e2) := fun o => HE4.out.same ((Below.refl _ _).alloc (Nat.le_refl _) _)
      clear HV hb4 HE3 HE4
      by_cases h7 : e2.state = 7
      · have h7' := (show Hid (e2.state = 7) from h7)
        have n7 : (e2.state != 7) = false := by rw [h7]; rfl
        clear h7
        go_wp2
        go_meet
        case rel => exact ⟨7, 4, 6, rfl, rfl, HEa.out _, (show Way14 7 4 6 ∧ _ from ⟨Or.inr ⟨rfl, rfl, rfl⟩, by first | exact Or.inr ⟨rfl, rfl, Or.inl h7'.out⟩ | exact Or.inr ⟨trivial, rfl, Or.inl h7'.out⟩⟩)⟩
      · by_cases h8 : e2.state = 8
        · have n7 : (e2.state != 7) = true := by simpa using h7
          have n8 : (e2.state != 8) = false := by rw [h8]; rfl
          have h8' := (show Hid (e2.state = 8) from h8)
          clear h7 h8
          go_wp2
          go_meet
          case rel => exact ⟨7, 4, 6, rfl, rfl, HEa.out _, (show Way14 7 4 6 ∧ _ from ⟨Or.inr ⟨rfl, rfl, rfl⟩, by first | exact Or.inr ⟨rfl, rfl, Or.inr h8'.out⟩ | exact Or.inr ⟨trivial, rfl, Or.inr h8'.out⟩⟩)⟩
        · have n7 : (e2.state != 7) = true := by simpa using h7
          have n8 : (e2.state != 8) = true := by simpa using h8
          clear h7 h8
          go_wp2_with fail
          refine (HWK.out _ e2 (HEa.out _)).mono ?_
          rintro r w5 ⟨rfl, hb5⟩
          have HB5 : Hid (Below w.heap.size w w5) := HFI.out _ e2 ((HEa.out _).same hb5)
          clear hb5 HEa
          go_wp2
          go_ret
          exact ⟨rfl, HB5.out⟩
  obtain ⟨kd, td, s, rfl, rfl, HE5, HWy2⟩ := hcut
  obtain ⟨w5, hw5⟩ : ∃ w5, w5 = wc := ⟨_, rfl⟩
  rw [← hw5] at HE5 ⊢
  clear hw5 wc HE3
  go_upto_if 43 with fail
  go_cut [12] from 44 to 44 (fun s12 wx => ∃ cd : Int, s12 = .int .i64 cd ∧ Hid (cd = relInt rel) ∧ wx = w5)
  case first =>
    cases rel with
    | false =>
      go_wp2
      go_meet
      case rel => exact ⟨0, rfl, (show (0 : Int) = relInt false from rfl), rfl⟩
    | true =>
      go_wp2
      go_meet
      case rel => exact ⟨1, rfl, (show (1 : Int) = relInt true from rfl), rfl⟩
  obtain ⟨cd, rfl, HCD, hwc⟩ := hcut
  rw [hwc]
  clear hwc wc
  have HV := eh_view HE5.out
  unfold evV at HV
  go_wp2_with fail
  refine HV.mono ?_
  rintro r w6 ⟨rfl, hb6⟩
  have hfv := efield0g w6
  have HE6 : Hid (EH b w w6 (fun _ => False) C e2) := HE5.out.same hb6
  clear HV hb6 HE5
  by_cases h6 : e2.state = 6
  · have n6 : (e2.state == 6) = true := by rw [h6]; rfl
    clear h6
    go_wp2_with fail
    refine (HWK.out _ e2 HE6.out).mono ?_
    rintro r w7 ⟨rfl, hb7⟩
    have HB7 : Hid (Below w.heap.size w w7) := HFI.out _ e2 (HE6.out.same hb7)
    clear hb7
    go_wp2
    go_ret
    exact ⟨rfl, HB7.out⟩
  by_cases h5 : e2.state = 5
  · have n6 : (e2.state == 6) = false := by rw [h5]; rfl
    have n5 : (e2.state == 5) = true := by rw [h5]; rfl
    clear h6 h5
    go_wp2_with fail
    refine (HWK.out _ e2 HE6.out).mono ?_
    rintro r w7 ⟨rfl, hb7⟩
    have HB7 : Hid (Below w.heap.size w w7) := HFI.out _ e2 (HE6.out.same hb7)
    clear hb7
    go_wp2
    go_ret
    exact ⟨rfl, HB7.out⟩
  have n6 : (e2.state == 6) = false := by simpa using h6
  have n5 : (e2.state == 5) = false := by simpa using h5
  obtain ⟨hw14, hrs⟩ := HWy2.out
  obtain ⟨k1, k2, k3, k4, k5, k6⟩ : (Em.ask e2 (relInt rel) ByteArray.empty).2 = 0 ∧ Em.Waits (Em.ask e2 (relInt rel) ByteArray.empty).1 s 0 ∧ (Em.ask e2 (relInt rel) ByteArray.empty).1.most = m ∧ RowA kd td (Em.ask e2 (relInt rel) ByteArray.empty).1.out ∧ 0 < (Em.ask e2 (relInt rel) ByteArray.empty).1.out.length ∧ True := by
    rcases hrs with ⟨rfl, rfl⟩ | ⟨rfl, rfl, h78⟩
    · obtain ⟨rfl, rfl⟩ : kd = 4 ∧ td = 3 := by rcases hw14 with ⟨h, h', _⟩ | ⟨_, _, h⟩ <;> first | exact ⟨h, h'⟩ | (exfalso; omega)
      have := HE6.out.ok.s1
      obtain ⟨q1, q2, q3, q4⟩ := Em.establish_waits HE6.out.ok (by have := HS.out.1; omega) ByteArray.empty
      have hra := rowA_ask e2 4 3 (Or.inl rfl)
      refine ⟨q1, q2, q3.trans HS.out.2, ?_, ?_, trivial⟩
      · show RowA 4 3 (Em.ask e2 0 ByteArray.empty).1.out
        rw [q4]; exact hra.1
      · show 0 < (Em.ask e2 0 ByteArray.empty).1.out.length
        rw [q4]; exact hra.2
    · obtain ⟨rfl, rfl⟩ : kd = 7 ∧ td = 4 := by rcases hw14 with ⟨_, _, h⟩ | ⟨h, h', _⟩ <;> first | exact ⟨h, h'⟩ | (exfalso; omega)
      obtain ⟨q1, q2, q3, q4⟩ := Em.release_waits h78 ByteArray.empty
      have hra := rowA_ask e2 7 4 (Or.inr rfl)
      refine ⟨q1, q2, q3.trans HS.out.2, ?_, ?_, trivial⟩
      · show RowA 7 4 (Em.ask e2 1 ByteArray.empty).1.out
        rw [q4]; exact hra.1
      · show 0 < (Em.ask e2 1 ByteArray.empty).1.out.length
        rw [q4]; exact hra.2
  have HGO : Hid (Go14 m kd td s 0 (Em.ask e2 (relInt rel) ByteArray.empty).1.out (Em.rest (Em.ask e2 (relInt rel) ByteArray.empty).1)) := Or.inl ⟨by have := HMM.out.1; omega, ⟨k2.state, k2.tries, k2.t2, k2.t3⟩, k3, k4, k5⟩
  have HW14 := (show Hid (Way14 kd td s) from hw14)
  have HA := eh_ask (relInt rel) ByteArray.empty (by decide) HE6.out
  rw [k1] at HA
  clear k1 k2 k3 k4 k5 k6 h5 h6 hw14 hrs HWy2 HS
  generalize (Em.rest (Em.ask e2 (relInt rel) ByteArray.empty).1) = e3 at HGO HA
  generalize (Em.ask e2 (relInt rel) ByteArray.empty).1.out = l3 at HGO HA
  rw [← HCD.out] at HA
  go_wp2_with fail
  refine HA.mono ?_
  rintro r w7 ⟨x3, c3, rfl, ho, hE, -⟩
  have HE7 : Hid (EH b w w7 (fun _ => False) C e3) := hE.weak (fun _ hk => hk.elim)
  have HO7 : Hid (w7.ownsRow b 57 11 (.slice x3 l3.length c3) l3.length (effsL l3)) := owns_low ho HE6.out.bs
  clear ho hE HA HE6 n5 n6
  go_wp2
  go_loopw [14, 16, 60] (fun sl sc c wr => ∃ (i : Nat) (l : List Em.Eff) (e : Em.St) (x : Option Addr) (cp : Nat), i ≤ 33 ∧ sl = .slice x l.length cp ∧ sc = .int .i64 i ∧ c = .int .i64 i ∧ Hid (Go14 m kd td s i l e) ∧ Hid (EH b w wr (fun _ => False) C e) ∧ Hid (wr.ownsRow b 57 11 (.slice x l.length cp) l.length (effsL l))) (fun _ _ c _ => 40 - (intOf c).toNat)
  case atStart => exact ⟨0, l3, e3, x3, c3, by omega, rfl, rfl, rfl, HGO, HE7, HO7⟩
  case round =>
    obtain ⟨i, l, e4, x, cp, hi33, rfl, rfl, rfl, HG, HE, HO⟩ := hrel
    clear HGO HE7 HO7
    have hle : l.length ≤ cp := owns_le HO.out
    have hmx : cp ≤ 9223372036854775807 := owns_cap HO.out
    have htd : td = 3 ∨ td = 4 := by rcases HW14.out with ⟨_, h, _⟩ | ⟨_, h, _⟩ <;> omega
    have hd0 : ((0 : Int) == td) = false := by rcases htd with rfl | rfl <;> rfl
    have hd7 : ((7 : Int) == td) = false := by rcases htd with rfl | rfl <;> rfl
    have ht0 : (td == 0) = false := by rcases htd with rfl | rfl <;> rfl
    clear htd
    generalize wr = wo at HE HO ⊢
    rcases HG.out with ⟨g1, g2, g3, g4, g5⟩ | ⟨g1, g2, g3, g4⟩
    · have HGA := (show Hid (RowA kd td l) from g4)
      have HN0 := (show Hid (0 < l.length) from g5)
      have HNX : Hid (Go14 m kd td s (i + 1) (Em.timeout e4 200).out (Em.rest (Em.timeout e4 200))) := go_next HW14.out g1 g2 g3
      have him : (i : Int) ≤ 32 := by have := HMM.out.2.1; omega
      clear g1 g2 g3 g4 g5 HG
      obtain ⟨N, hN⟩ : ∃ N, N = l.length := ⟨_, rfl⟩
      rw [← hN] at HO hle HN0 ⊢
      have HN : Hid (N = l.length) := hN
      clear hN
      go_wp2
      go_loopw [16, 64] (fun sc c ws => ∃ (v cN : Nat), v ≤ N ∧ sc = .int .i64 cN ∧ c = .int .i64 v ∧ Hid (cN = callN i v) ∧ Hid (EH b w ws (fun _ => False) C e4) ∧ Hid (ws.ownsRow b 57 11 (.slice x N cp) N (effsL l))) (fun _ c _ => N - (intOf c).toNat)
      case atStart => exact ⟨0, i, Nat.zero_le _, rfl, rfl, (show i = callN i 0 from rfl), HE, HO⟩
      case round =>
        obtain ⟨v, cN, hvN, rfl, rfl, HCN, HE2, HO2⟩ := hrel
        clear HE HO
        by_cases hin : v < N
        · obtain ⟨g, rfl, hg, hat⟩ := eff_row (w := wr) (b := b) (x := x) (cap := cp) (l := l) (by have := HO2.out; rw [HN.out] at this; exact this) v (by rw [← HN.out]; exact hin)
          obtain ⟨h1, h2, h3⟩ := HGA.out v (by rw [← HN.out]; exact hin)
          generalize l.getD v eff0 = q at hat h1 h2 h3
          have HEb : Hid (∀ o, EH b w (wr.alloc o) (fun _ => False) C e4) := fun o => HE2.out.same ((Below.refl _ _).alloc (Nat.le_refl _) _)
          have HOb : Hid (∀ o, (wr.alloc o).ownsRow b 57 11 (.slice (some ⟨g, 0, none⟩) N cp) N (effsL l)) := fun o => owns_bel HO2.out ((Below.refl _ _).alloc (Nat.le_refl _) _)
          clear HE2 HO2
          have z0 : wr.cell? ⟨g, v * 11, none⟩ = some (.int .i64 q.kind) := hat 0 _ rfl
          have z1 : wr.cell? ⟨g, v * 11 + 1, none⟩ = some (.int .i64 q.f.sapi) := hat 1 _ rfl
          have z2 : wr.cell? ⟨g, v * 11 + 2, none⟩ = some (.int .i64 q.f.tei) := hat 2 _ rfl
          have z3 : wr.cell? ⟨g, v * 11 + 3, none⟩ = some (.bool q.f.c) := hat 3 _ rfl
          have z4 : wr.cell? ⟨g, v * 11 + 4, none⟩ = some (.int .i64 q.f.k) := hat 4 _ rfl
          have z5 : wr.cell? ⟨g, v * 11 + 5, none⟩ = some (.bool q.f.pf) := hat 5 _ rfl
          have z6 : wr.cell? ⟨g, v * 11 + 6, none⟩ = some (.int .i64 q.f.ns) := hat 6 _ rfl
          have z7 : wr.cell? ⟨g, v * 11 + 7, none⟩ = some (.int .i64 q.f.nr) := hat 7 _ rfl
          have z8 : wr.cell? ⟨g, v * 11 + 8, none⟩ = some (.string q.f.info) := hat 8 _ rfl
          have z9 : wr.cell? ⟨g, v * 11 + 9, none⟩ = some (.string q.data) := hat 9 _ rfl
          have z10 : wr.cell? ⟨g, v * 11 + 10, none⟩ = some (.int .i64 q.timer) := hat 10 _ rfl
          clear hat
          obtain ⟨qk, ⟨f0, f1, f2, f3, f4, f5, f6, f7⟩, qd, qt⟩ := q
          simp only [] at z0 z1 z2 z3 z4 z5 z6 z7 z8 z9 z10 h1 h2 h3
          by_cases hv0 : v = 0
          · obtain ⟨rfl, rfl⟩ := h2 hv0
            subst hv0
            have hcN : cN = i := HCN.out
            subst hcN
            have HC1 : Hid (cN + 1 = callN cN 1) := rfl
            clear h1 h2 h3 HCN
            go_wp2
            go_roundw
            case rel => exact ⟨1, cN + 1, by omega, by go_num, by go_num, HC1, HEb.out _, HOb.out _⟩
            case measure => simp [intOf]; omega
          · have hq0 : (qk == 0) = false := by simpa using h3 (by omega)
            have hqt : (qk == td) = false := by simpa using h1
            have HC1 : Hid (cN = callN i (v + 1)) := by
              have := HCN.out
              show cN = callN i (v + 1)
              rw [this]
              unfold callN
              rw [if_neg hv0, if_neg (by omega)]
            clear h1 h2 h3 HCN hv0
            go_wp2
            go_roundw
            case rel => exact ⟨v + 1, cN, by omega, rfl, by go_num, HC1, HEb.out _, HOb.out _⟩
            case measure => simp [intOf]; omega
        · have hve : v = N := by omega
          subst hve
          have hcN : cN = i + 1 := by
            have := HCN.out
            rw [this]
            unfold callN
            rw [if_neg (by have := HN0.out; omega)]
          subst hcN
          have HT := eh_time 200 (by omega) (by omega) HE2.out
          have hbs := HE2.out.bs
          clear HCN HO2 hin
          generalize (Em.rest (Em.timeout e4 200)) = e5 at HT HNX
          generalize (Em.timeout e4 200).out = l5 at HT HNX
          go_wp2_with fail
          refine HT.mono ?_
          rintro r w8 ⟨x5, c5, rfl, ho, hE, -⟩
          have HE8 : Hid (EH b w w8 (fun _ => False) C e5) := hE.weak (fun _ hk => hk.elim)
          have HO8 : Hid (w8.ownsRow b 57 11 (.slice x5 l5.length c5) l5.length (effsL l5)) := owns_low ho hbs
          clear ho hE HT HE2
          go_wp2
          go_roundw
          case rel => exact ⟨i + 1, l5, e5, x5, c5, by omega, rfl, by go_num, by go_num, HNX, HE8, HO8⟩
          case measure => simp [intOf]; omega
    · obtain ⟨m1, m2, m3⟩ := HMM.out
      obtain ⟨r1, r2, r3⟩ := g4
      have HRZ : Hid ((l.getD 0 eff0).kind = 7 ∧ (l.getD 1 eff0).kind = td) := ⟨r2, r3⟩
      have HST : Hid (e4.state = 4 ∧ e4.t200 = false) := ⟨g2, g3⟩
      have him : ((i : Int) == m + 1) = true := by rw [g1]; simp
      obtain ⟨a32, h32⟩ : ∃ a32, (if (32 : Int) < n2 then (32 : Int) else n2) = a32 := ⟨_, rfl⟩
      have h1m : (if (1 : Int) < a32 then a32 else (1 : Int)) = m := by
        rw [← h32, m3]
        split <;> split <;> omega
      clear m3 g1 g2 g3 r2 r3 HG
      rw [r1] at HO hle ⊢
      have HL : Hid (l.length = 2) := r1
      clear r1
      go_wp2
      go_loopw [16, 64] (fun sc c ws => ∃ (v : Nat), v ≤ 1 ∧ sc = .int .i64 i ∧ c = .int .i64 v ∧ Hid (EH b w ws (fun _ => False) C e4) ∧ Hid (ws.ownsRow b 57 11 (.slice x 2 cp) 2 (effsL l))) (fun _ c _ => 2 - (intOf c).toNat)
      case atStart => exact ⟨0, Nat.zero_le _, rfl, rfl, HE, HO⟩
      case round =>
        obtain ⟨v, hv1, rfl, rfl, HE2, HO2⟩ := hrel
        clear HE HO
        obtain ⟨g, rfl, hg, hat⟩ := eff_row (w := wr) (b := b) (x := x) (cap := cp) (l := l) (by have := HO2.out; rw [HL.out]; exact this) v (by rw [HL.out]; omega)
        have HEb : Hid (∀ o, EH b w (wr.alloc o) (fun _ => False) C e4) := fun o => HE2.out.same ((Below.refl _ _).alloc (Nat.le_refl _) _)
        have HOb : Hid (∀ o, (wr.alloc o).ownsRow b 57 11 (.slice (some ⟨g, 0, none⟩) 2 cp) 2 (effsL l)) := fun o => owns_bel HO2.out ((Below.refl _ _).alloc (Nat.le_refl _) _)
        clear HE2 HO2
        have hk : (l.getD v eff0).kind = if v = 0 then 7 else td := by
          obtain ⟨h1, h2⟩ := HRZ.out
          rcases (show v = 0 ∨ v = 1 by omega) with rfl | rfl
          · exact h1
          · exact h2
        generalize l.getD v eff0 = q at hat hk
        have z0 : wr.cell? ⟨g, v * 11, none⟩ = some (.int .i64 q.kind) := hat 0 _ rfl
        have z1 : wr.cell? ⟨g, v * 11 + 1, none⟩ = some (.int .i64 q.f.sapi) := hat 1 _ rfl
        have z2 : wr.cell? ⟨g, v * 11 + 2, none⟩ = some (.int .i64 q.f.tei) := hat 2 _ rfl
        have z3 : wr.cell? ⟨g, v * 11 + 3, none⟩ = some (.bool q.f.c) := hat 3 _ rfl
        have z4 : wr.cell? ⟨g, v * 11 + 4, none⟩ = some (.int .i64 q.f.k) := hat 4 _ rfl
        have z5 : wr.cell? ⟨g, v * 11 + 5, none⟩ = some (.bool q.f.pf) := hat 5 _ rfl
        have z6 : wr.cell? ⟨g, v * 11 + 6, none⟩ = some (.int .i64 q.f.ns) := hat 6 _ rfl
        have z7 : wr.cell? ⟨g, v * 11 + 7, none⟩ = some (.int .i64 q.f.nr) := hat 7 _ rfl
        have z8 : wr.cell? ⟨g, v * 11 + 8, none⟩ = some (.string q.f.info) := hat 8 _ rfl
        have z9 : wr.cell? ⟨g, v * 11 + 9, none⟩ = some (.string q.data) := hat 9 _ rfl
        have z10 : wr.cell? ⟨g, v * 11 + 10, none⟩ = some (.int .i64 q.timer) := hat 10 _ rfl
        clear hat
        obtain ⟨qk, ⟨f0, f1, f2, f3, f4, f5, f6, f7⟩, qd, qt⟩ := q
        simp only [] at z0 z1 z2 z3 z4 z5 z6 z7 z8 z9 z10 hk
        by_cases hv0 : v = 0
        · rw [if_pos hv0] at hk
          subst hk hv0
          clear h32 h1m him
          go_wp2
          go_roundw
          case rel => exact ⟨1, by omega, rfl, by go_num, HEb.out _, HOb.out _⟩
          case measure => simp [intOf]
        · rw [if_neg hv0] at hk
          have hv : v = 1 := by omega
          subst hk hv
          clear hv0 HOb
          go_wp2_with fail
          refine (HWK.out _ e4 (HEb.out _)).mono ?_
          rintro r w8 ⟨rfl, hb8⟩
          have HE8 : Hid (EH b w w8 (fun _ => False) C e4) := (HEb.out _).same hb8
          clear hb8 HEb z0 z1 z2 z3 z4 z5 z6 z7 z8 z9 z10
          have HV := eh_view HE8.out
          unfold evV at HV
          rw [HST.out.1, HST.out.2] at HV
          go_wp2_with fail
          refine HV.mono ?_
          rintro r w9 ⟨rfl, hb9⟩
          have hf0 := efield0g w9
          have HE9 : Hid (EH b w w9 (fun _ => False) C e4) := HE8.out.same hb9
          clear hb9 HE8 HV
          have HV := eh_view HE9.out
          unfold evV at HV
          rw [HST.out.1, HST.out.2] at HV
          go_wp2_with fail
          refine HV.mono ?_
          rintro r w10 ⟨rfl, hb10⟩
          have hf4 := efield4 w10
          have HB10 : Hid (Below w.heap.size w w10) := HFI.out _ e4 (HE9.out.same hb10)
          clear hb10 HE9 HV hf0
          go_wp2
          go_ret
          exact ⟨rfl, HB10.out⟩
end Go.Proofs.YtidemohpngkedabGreatDoor
