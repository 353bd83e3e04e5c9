/-
  The law QueuePlays' walk: behind every calls a queue answers, and has, what the document says, step by step.
-/
import Derived.Test.YteppelahpbgmjaaQuePair
import Derived.Test.YteppelahpbgmjaaQueWakes
import Derived.Deep.CutBlock
import Derived.BigQuiet
namespace Go.Proofs.Yteppelahpbgmjaa
open Go.RowKit
set_option linter.unusedVariables false
set_option linter.unusedSimpArgs false

theorem push_as {R : Nat} {H : Option Nat} {mo : Int} {L : List ByteArray} {x : ByteArray} {sn : Nat} {w : World} (h : Calls Try.prog 20 #[.pointer (some ⟨R, 0, none⟩), .string x] w fun e w' => e = .returned (.int .i64 (Qm.pushN (Qm.takes mo : Nat) L x)) ∧ Mvq w w' R H (Qm.takes mo : Nat) (Qm.pushL (Qm.takes mo : Nat) L x) sn) :
    Calls Try.prog 20 #[.pointer (some ⟨R, 0, none⟩), .string x] w fun e w' => e = .returned (.int .i64 (Qm.pushN mo L x)) ∧ Mvq w w' R H (Qm.takes mo : Nat) (Qm.pushL mo L x) sn := by
  obtain ⟨e1, e2⟩ := pushN_takes mo L x
  rw [e1, e2] at h
  exact h

set_option maxHeartbeats 8000000 in
set_option maxRecDepth 100000 in
theorem walk_QueuePlays (mo : Int) (a : Option Addr) (len cap : Nat) (ps : List ActV) (w : World) (hmo : -9223372036854775808 ≤ mo ∧ mo ≤ 9223372036854775807) (hr : RowA w a len cap ps) :
    Calls Try.prog 3 #[.int .i64 mo, .slice a len cap] w fun e w' => e = .returned (.bool true) ∧ Below w.heap.size w w' := by
  have hlc : len ≤ cap := hr.2.1
  have hcm : cap ≤ 9223372036854775807 := by have := hr.2.2.1; unfold maxLen at this; exact this
  have HR : Hid (RowA w a len cap ps) := hr
  clear hr hmo
  obtain ⟨m, hmin, hm60, hml⟩ : ∃ m : Nat, min (len : Int) 60 = (m : Int) ∧ m ≤ 60 ∧ m ≤ len := ⟨(min (len : Int) 60).toNat, by omega, by omega, by omega⟩
  have hfr : a.map (·.add 0) = a := by
    cases a with
    | none => rfl
    | some x => simp [Addr.add]
  have hmm : (if (60 : Int) < (len : Int) then (60 : Int) else (len : Int)) = (m : Int) := by split <;> omega
  have HTT : Hid (((Qm.takes ((Qm.takes mo : Nat) : Int) : Nat) : Int) = ((Qm.takes mo : Nat) : Int)) := by show _ = _; rw [Qm.takes_takes]
  go_enter Try.func3, Try.ntmps3
  go_wp2_with fail
  refine (new_any mo _).mono ?_
  rintro e w1 ⟨rfl, hq1, hb1⟩
  go_wp2_with fail
  refine (rnew_any mo _).mono ?_
  rintro e w2 ⟨rfl, hq2, hb2⟩
  have hR1 : w.heap.size < w1.heap.size := hq1.lt
  have hP2 : Pr w.heap.size w w2 w.heap.size w1.heap.size mo [] 0 [] 0 := by
    refine ⟨⟨none, none, hq1.below hb2, hq2, ?_, ?_, ?_⟩, hb1.trans (hb2.mono (by omega))⟩
    · rintro k (rfl | hk)
      · exact Nat.le_refl _
      · cases hk
    · rintro k (rfl | hk)
      · omega
      · cases hk
    · rintro k (rfl | hk) (hk2 | hk2)
      · omega
      · cases hk2
      · cases hk
      · cases hk
  clear hq1 hq2 hb1 hb2
  obtain ⟨C, hC⟩ : ∃ C, C = w.heap.size := ⟨_, rfl⟩
  obtain ⟨R, hR⟩ : ∃ R, R = w1.heap.size := ⟨_, rfl⟩
  rw [← hC, ← hR] at hP2 ⊢
  have HC : Hid (C = w.heap.size) := hC
  clear hC hR hR1
  go_wp2_with fail
  refine (wakes_any _).mono ?_
  rintro e w3 ⟨rfl, hb3⟩
  have HP3 : Hid (Pr C w w3 C R mo [] 0 [] 0) := hP2.below hb3
  clear hP2 hb3
  go_wp2
  clear hmin hfr hmm
  go_loopw [27] (fun c wr => ∃ (j : Nat) (L : List ByteArray) (sn : Nat), j ≤ m ∧ c = .int .i64 j ∧ Hid (Pr C w wr C R mo L sn L sn)) (fun c _ => m - (intOf c).toNat)
  case atStart => exact ⟨0, [], 0, Nat.zero_le _, rfl, HP3⟩
  case round =>
    obtain ⟨j, L, sn, hjm, rfl, HP⟩ := hrel
    clear HP3
    by_cases hlt : j < m
    · obtain ⟨bb, off, q, rfl, hbb, hqe, hat, hok⟩ := HR.out.at j (by omega)
      have hat' := hat.below HP.out.bel (by rw [HC.out]; exact hbb)
      have hbr : bb < wr.heap.size := by have := HP.out.bs; have := HC.out; omega
      obtain ⟨d0, d1, d2, d3⟩ := hat'
      have HOk : Hid q.Ok := hok
      clear hat hqe hok hbb
      obtain ⟨Wq, hWq⟩ : ∃ Wq, Wq = wr.alloc (.cells #[.int .i64 q.d, .int .i64 q.n, .int .i64 q.o, .string q.s] 29) := ⟨_, rfl⟩
      have HPq : Hid (Two C w Wq C R mo wr.heap.size q L sn L sn) := HP.out.act hWq
      go_upto_block 2 with fail
      rw [← hWq]
      clear hWq HP d0 d1 d2 d3 hbr
      generalize wr.heap.size = s at HPq ⊢
      generalize q.d.tmod 6 = r
      go_cut [9, 10, 11, 12] from 34 to 103 (fun s9 s10 s11 s12 wx => ∃ (L' : List ByteArray) (sn' : Nat), Hid (Two C w wx C R mo s q L' sn' L' sn'))
      case first =>
        by_cases e1 : r = 1 ∨ r = -1
        · rcases e1 with rfl | rfl
          all_goals
            obtain ⟨G, hq3, hn3⟩ := HPq.out.first
            have HT := (take_any C sn G mo L _ hq3).mono fun e w' h => (⟨h.1, hn3 _ _ _ h.2⟩ : _ ∧ Two C w w' C R mo s q L (Qm.takeN L sn) L sn)
            clear hq3 hn3
            go_wp2_with fail
            refine HT.mono ?_
            rintro e w4 ⟨rfl, hO4⟩
            clear HT
            obtain ⟨H, hq4, hn4⟩ := hO4.second
            have HT := (rtake_any R sn H _ L _ hq4).mono fun e w' h => (⟨h.1, hn4 _ _ _ h.2⟩ : _ ∧ Two C w w' C R mo s q L (Qm.takeN L sn) L (Qm.takeN L sn))
            clear hq4 hn4 hO4
            generalize Qm.takeS L sn = x at HT ⊢
            generalize Qm.takeB L sn = y at HT ⊢
            go_wp2_with fail
            refine HT.mono ?_
            rintro e w5 ⟨rfl, hO5⟩
            have HO5 : Hid (Two C w w5 C R mo s q L (Qm.takeN L sn) L (Qm.takeN L sn)) := hO5
            clear HT hO5 HPq
            have tb : (y == y) = true := by simp
            go_wp2_with fail
            go_meet
            exact ⟨_, _, HO5⟩
        by_cases e2 : r = 2 ∨ r = -2
        · rcases e2 with rfl | rfl
          all_goals
            go_upto_region 21 with fail
            refine region_vals (by kernel_rfl) 9 rfl doneD (bothV C R s 1 (.int .i64 q.n) (.bool (Qm.okN sn q.n))) doneD_inj ?hd ?hlow (TwJ C w C R mo s q L sn (Qm.doneL L sn q.n) (Qm.doneS sn q.n)) ?h0 ?hstep ?hdone
            case hd => exact doneD_lt
            case hlow => kernel_rfl
            case h0 => exact twJ_start _ _ (HPq.out.below (Below.refl _ _).drew)
            case hstep =>
              intro l fa wz k hk0 hJ hr hK
              have s5 : fa.eval (.tmp 5) = .pointer (some ⟨C, 0, none⟩) := hK.rest 5 (by decide)
              have s6 : fa.eval (.tmp 6) = .pointer (some ⟨R, 0, none⟩) := hK.rest 6 (by decide)
              have s8 : fa.eval (.tmp 8) = .pointer (some ⟨s, 0, none⟩) := hK.rest 8 (by decide)
              have got : ∀ i, i ∈ depsOf .any _ k → ∀ d, doneD i = some d → i < 9 → fa.eval (.tmp d) = bothV C R s 1 (.int .i64 q.n) (.bool (Qm.okN sn q.n)) i := fun i hi d hd hi' => hK.got i d hi' (ready_deps hr i hi) hd
              match k, hk0, hr, got with
              | 0, _, hr, got => exact stepw_val rfl (wanted_none rfl) (runw_move rfl s5 wz) rfl (hJ.same (by decide) (by decide))
              | 1, _, hr, got => exact stepw_val rfl (wanted_none rfl) (runy_fa rfl (by decide) s8 wz) rfl (hJ.same (by decide) (by decide))
              | 2, _, hr, got => exact stepw_val rfl (wanted_none rfl) (runy_ldi rfl (got 1 (by decide) 76 rfl (by decide)) (by have := hJ.act.n; simpa using this)) rfl (hJ.same (by decide) (by decide))
              | 3, _, hr, got =>
                obtain ⟨G, hc', hn'⟩ := hJ.first hr
                exact stepw_call rfl (wanted_none rfl) (runy_done rfl rfl (got 0 (by decide) 75 rfl (by decide)) (got 2 (by decide) 77 rfl (by decide)) wz) rfl ((done_any C _ G mo _ q.n wz hc').mono fun e w' h => ⟨h.1, hn' w' h.2⟩)
              | 4, _, hr, got => exact stepw_val rfl (wanted_none rfl) (runw_move rfl s6 wz) rfl (hJ.same (by decide) (by decide))
              | 5, _, hr, got => exact stepw_val rfl (wanted_none rfl) (runy_fa rfl (by decide) s8 wz) rfl (hJ.same (by decide) (by decide))
              | 6, _, hr, got => exact stepw_val rfl (wanted_none rfl) (runy_ldi rfl (got 5 (by decide) 80 rfl (by decide)) (by have := hJ.act.n; simpa using this)) rfl (hJ.same (by decide) (by decide))
              | 7, _, hr, got =>
                obtain ⟨G, hc', hn'⟩ := hJ.second hr
                exact stepw_call rfl (wanted_none rfl) (runy_rdone rfl rfl (got 4 (by decide) 79 rfl (by decide)) (got 6 (by decide) 81 rfl (by decide)) wz) rfl ((rdone_any R _ G _ _ q.n wz hc').mono fun e w' h => ⟨h.1, hn' w' h.2⟩)
              | 8, _, hr, got => exact stepw_val rfl (wanted_none rfl) (runy_neb rfl (got 3 (by decide) 78 rfl (by decide)) (got 7 (by decide) 82 rfl (by decide)) wz) rfl (hJ.same (by decide) (by decide))
              | j + 9, hlt, _, _ => exact absurd hlt (by omega)
            case hdone =>
              intro l w' hall hJ
              have HE : Hid (Two C w w' C R mo s q (Qm.doneL L sn q.n) (Qm.doneS sn q.n) (Qm.doneL L sn q.n) (Qm.doneS sn q.n)) := hJ.done hall
              clear hall hJ
              simp only [putsOf, doneD, bothV, Act.put, List.setIfInBounds_toArray, List.set_cons_zero, List.set_cons_succ]
              go_wp2_with fail
              go_meet
              exact ⟨_, _, HE⟩
        by_cases e3 : r = 3 ∨ r = -3
        · rcases e3 with rfl | rfl
          all_goals
            go_upto_region 25 with fail
            refine region_vals (by kernel_rfl) 9 rfl backD (bothV C R s 1 (.int .i64 q.n) (.bool (Qm.okN sn q.n))) backD_inj ?hd ?hlow (TwJ C w C R mo s q L sn (L) (Qm.backS sn q.n)) ?h0 ?hstep ?hdone
            case hd => exact backD_lt
            case hlow => kernel_rfl
            case h0 => exact twJ_start _ _ (HPq.out.below (Below.refl _ _).drew)
            case hstep =>
              intro l fa wz k hk0 hJ hr hK
              have s5 : fa.eval (.tmp 5) = .pointer (some ⟨C, 0, none⟩) := hK.rest 5 (by decide)
              have s6 : fa.eval (.tmp 6) = .pointer (some ⟨R, 0, none⟩) := hK.rest 6 (by decide)
              have s8 : fa.eval (.tmp 8) = .pointer (some ⟨s, 0, none⟩) := hK.rest 8 (by decide)
              have got : ∀ i, i ∈ depsOf .any _ k → ∀ d, backD i = some d → i < 9 → fa.eval (.tmp d) = bothV C R s 1 (.int .i64 q.n) (.bool (Qm.okN sn q.n)) i := fun i hi d hd hi' => hK.got i d hi' (ready_deps hr i hi) hd
              match k, hk0, hr, got with
              | 0, _, hr, got => exact stepw_val rfl (wanted_none rfl) (runw_move rfl s5 wz) rfl (hJ.same (by decide) (by decide))
              | 1, _, hr, got => exact stepw_val rfl (wanted_none rfl) (runy_fa rfl (by decide) s8 wz) rfl (hJ.same (by decide) (by decide))
              | 2, _, hr, got => exact stepw_val rfl (wanted_none rfl) (runy_ldi rfl (got 1 (by decide) 88 rfl (by decide)) (by have := hJ.act.n; simpa using this)) rfl (hJ.same (by decide) (by decide))
              | 3, _, hr, got =>
                obtain ⟨G, hc', hn'⟩ := hJ.first hr
                exact stepw_call rfl (wanted_none rfl) (runy_back rfl rfl (got 0 (by decide) 87 rfl (by decide)) (got 2 (by decide) 89 rfl (by decide)) wz) rfl ((back_any C _ G mo _ q.n wz hc').mono fun e w' h => ⟨h.1, hn' w' h.2⟩)
              | 4, _, hr, got => exact stepw_val rfl (wanted_none rfl) (runw_move rfl s6 wz) rfl (hJ.same (by decide) (by decide))
              | 5, _, hr, got => exact stepw_val rfl (wanted_none rfl) (runy_fa rfl (by decide) s8 wz) rfl (hJ.same (by decide) (by decide))
              | 6, _, hr, got => exact stepw_val rfl (wanted_none rfl) (runy_ldi rfl (got 5 (by decide) 92 rfl (by decide)) (by have := hJ.act.n; simpa using this)) rfl (hJ.same (by decide) (by decide))
              | 7, _, hr, got =>
                obtain ⟨G, hc', hn'⟩ := hJ.second hr
                exact stepw_call rfl (wanted_none rfl) (runy_rback rfl rfl (got 4 (by decide) 91 rfl (by decide)) (got 6 (by decide) 93 rfl (by decide)) wz) rfl ((rback_any R _ G _ _ q.n wz hc').mono fun e w' h => ⟨h.1, hn' w' h.2⟩)
              | 8, _, hr, got => exact stepw_val rfl (wanted_none rfl) (runy_neb rfl (got 3 (by decide) 90 rfl (by decide)) (got 7 (by decide) 94 rfl (by decide)) wz) rfl (hJ.same (by decide) (by decide))
              | j + 9, hlt, _, _ => exact absurd hlt (by omega)
            case hdone =>
              intro l w' hall hJ
              have HE : Hid (Two C w w' C R mo s q (L) (Qm.backS sn q.n) (L) (Qm.backS sn q.n)) := hJ.done hall
              clear hall hJ
              simp only [putsOf, backD, bothV, Act.put, List.setIfInBounds_toArray, List.set_cons_zero, List.set_cons_succ]
              go_wp2_with fail
              go_meet
              exact ⟨_, _, HE⟩
        by_cases e4 : r = 4 ∨ r = -4
        · rcases e4 with rfl | rfl
          all_goals
            obtain ⟨G, hq3, hn3⟩ := HPq.out.first
            have HT := (clear_any C sn G mo L _ hq3).mono fun e w' h => (⟨h.1, hn3 _ _ _ h.2⟩ : _ ∧ Two C w w' C R mo s q [] 0 L sn)
            clear hq3 hn3
            go_wp2_with fail
            refine HT.mono ?_
            rintro e w4 ⟨rfl, hO4⟩
            clear HT
            obtain ⟨H, hq4, hn4⟩ := hO4.second
            have HT := (rclear_any R sn H _ L _ hq4).mono fun e w' h => (⟨h.1, hn4 _ _ _ h.2⟩ : _ ∧ Two C w w' C R mo s q [] 0 [] 0)
            clear hq4 hn4 hO4
            generalize L.length = n at HT ⊢
            go_wp2_with fail
            refine HT.mono ?_
            rintro e w5 ⟨rfl, hO5⟩
            have HO5 : Hid (Two C w w5 C R mo s q [] 0 [] 0) := hO5
            clear HT hO5 HPq
            go_wp2_with fail
            go_meet
            exact ⟨_, _, HO5⟩
        have n1 : (r == 1) = false := by simp; omega
        have n2 : (r == -1) = false := by simp; omega
        have n3 : (r == 2) = false := by simp; omega
        have n4 : (r == -2) = false := by simp; omega
        have n5 : (r == 3) = false := by simp; omega
        have n6 : (r == -3) = false := by simp; omega
        have n7 : (r == 4) = false := by simp; omega
        have n8 : (r == -4) = false := by simp; omega
        clear e1 e2 e3 e4
        have y2 := HPq.out.act.o
        have yl := HPq.out.lt
        simp only [Nat.zero_add] at y2
        go_upto_region 8 with fail
        go_cut [38, 39] from 34 to 37 (fun s38 s39 wx => ∃ T : Nat, T ≤ 100 ∧ s38 = .int .i64 T ∧ s39 = .int .i64 0 ∧ Wq = wx)
        case first =>
          by_cases hneg : q.o ≤ 0
          · go_wp2_with fail
            go_meet
            exact ⟨1, by omega, rfl, rfl, rfl⟩
          · have hpos : 0 < q.o := by omega
            have HX : Hid (∃ T : Nat, T ≤ 100 ∧ 1 + q.o % 100 = (T : Int)) := ⟨(1 + q.o % 100).toNat, by omega, by omega⟩
            have hom := HOk.out.o.2
            go_wp2_with fail
            go_meet
            obtain ⟨T, hT, hTe⟩ := HX.out
            exact ⟨T, hT, by rw [hTe], rfl, rfl⟩
        case rest =>
        obtain ⟨T, hT, rfl, rfl, rfl⟩ := hcut
        clear y2 yl n1 n2 n3 n4 n5 n6 n7 n8
        go_wp2
        go_loopw [39] (fun c wr => ∃ (t : Nat) (K : List ByteArray), t ≤ T ∧ c = .int .i64 t ∧ Hid (Two C w wr C R mo s q K sn K sn)) (fun c _ => T - (intOf c).toNat)
        case atStart => exact ⟨0, L, Nat.zero_le _, rfl, HPq⟩
        case round =>
          obtain ⟨t, K, htT, rfl, HPt⟩ := hrel
          clear HPq
          by_cases hlt4 : t < T
          · go_upto_region 10 with fail
            refine region_vals (by kernel_rfl) 9 rfl pushD (bothV C R s 3 (.string q.s) (.int .i64 (Qm.pushN mo K q.s))) pushD_inj ?hd ?hlow (TwJ C w C R mo s q K sn (Qm.pushL mo K q.s) (sn)) ?h0 ?hstep ?hdone
            case hd => exact pushD_lt
            case hlow => kernel_rfl
            case h0 => exact twJ_start _ _ (HPt.out.below (Below.refl _ _).drew)
            case hstep =>
              intro l fa wz k hk0 hJ hr hK
              have s5 : fa.eval (.tmp 5) = .pointer (some ⟨C, 0, none⟩) := hK.rest 5 (by decide)
              have s6 : fa.eval (.tmp 6) = .pointer (some ⟨R, 0, none⟩) := hK.rest 6 (by decide)
              have s8 : fa.eval (.tmp 8) = .pointer (some ⟨s, 0, none⟩) := hK.rest 8 (by decide)
              have got : ∀ i, i ∈ depsOf .any _ k → ∀ d, pushD i = some d → i < 9 → fa.eval (.tmp d) = bothV C R s 3 (.string q.s) (.int .i64 (Qm.pushN mo K q.s)) i := fun i hi d hd hi' => hK.got i d hi' (ready_deps hr i hi) hd
              match k, hk0, hr, got with
              | 0, _, hr, got => exact stepw_val rfl (wanted_none rfl) (runw_move rfl s5 wz) rfl (hJ.same (by decide) (by decide))
              | 1, _, hr, got => exact stepw_val rfl (wanted_none rfl) (runy_fa rfl (by decide) s8 wz) rfl (hJ.same (by decide) (by decide))
              | 2, _, hr, got => exact stepw_val rfl (wanted_none rfl) (runy_lds rfl (got 1 (by decide) 42 rfl (by decide)) (by have := hJ.act.s; simpa using this)) rfl (hJ.same (by decide) (by decide))
              | 3, _, hr, got =>
                obtain ⟨G, hc', hn'⟩ := hJ.first hr
                exact stepw_call rfl (wanted_none rfl) (runy_push rfl rfl (got 0 (by decide) 41 rfl (by decide)) (got 2 (by decide) 43 rfl (by decide)) wz) rfl ((push_any C _ G mo _ q.s wz hc' HOk.out.s).mono fun e w' h => ⟨h.1, hn' w' h.2⟩)
              | 4, _, hr, got => exact stepw_val rfl (wanted_none rfl) (runw_move rfl s6 wz) rfl (hJ.same (by decide) (by decide))
              | 5, _, hr, got => exact stepw_val rfl (wanted_none rfl) (runy_fa rfl (by decide) s8 wz) rfl (hJ.same (by decide) (by decide))
              | 6, _, hr, got => exact stepw_val rfl (wanted_none rfl) (runy_lds rfl (got 5 (by decide) 46 rfl (by decide)) (by have := hJ.act.s; simpa using this)) rfl (hJ.same (by decide) (by decide))
              | 7, _, hr, got =>
                obtain ⟨G, hc', hn'⟩ := hJ.second hr
                exact stepw_call rfl (wanted_none rfl) (runy_rpush rfl rfl (got 4 (by decide) 45 rfl (by decide)) (got 6 (by decide) 47 rfl (by decide)) wz) rfl ((push_as (rpush_any R _ G _ _ q.s wz hc' HTT.out HOk.out.s)).mono fun e w' h => ⟨h.1, hn' w' h.2⟩)
              | 8, _, hr, got => exact stepw_val rfl (wanted_none rfl) (runy_nei rfl (got 3 (by decide) 44 rfl (by decide)) (got 7 (by decide) 48 rfl (by decide)) wz) rfl (hJ.same (by decide) (by decide))
              | j + 9, hlt, _, _ => exact absurd hlt (by omega)
            case hdone =>
              intro l w' hall hJ
              have HE : Hid (Two C w w' C R mo s q (Qm.pushL mo K q.s) (sn) (Qm.pushL mo K q.s) (sn)) := hJ.done hall
              clear hall hJ
              simp only [putsOf, pushD, bothV, Act.put, List.setIfInBounds_toArray, List.set_cons_zero, List.set_cons_succ]
              go_wp2
              go_roundw
              case rel => exact ⟨t + 1, _, by omega, by go_num, HE⟩
              case measure => simp [intOf]; omega
          · go_wp2_with fail
            go_meet
            exact ⟨_, _, HPt⟩
      case rest =>
        obtain ⟨L', sn', HE⟩ := hcut
        obtain ⟨G0, hq0, -⟩ := HE.out.first
        have HL := list_any C sn' G0 mo L' _ hq0
        clear HPq hq0
        go_wp2_with fail
        refine HL.mono ?_
        rintro e w5 ⟨v, rfl, hrow, hb5⟩
        clear HL
        obtain ⟨la, lc, Gl, rfl, hSl, -⟩ := own_srow rfl hrow
        have HP5 : Hid (Pr C w w5 C R mo L' sn' L' sn') := HE.out.pr.below hb5
        clear HE hrow hb5
        obtain ⟨G, H, h1, h2, -⟩ := HP5.out.qu
        obtain ⟨a1, cap1, x1, -⟩ := h1.c1
        obtain ⟨a2, cap2, x2, hS2⟩ := h2.c1
        have hn := h1.le
        have hsn := h1.sn
        have x3 := h2.c2
        have hRl := h2.lt
        have HSl : Hid (SRow w5 la lc Gl L') := hSl
        have HS2 : Hid (SRow w5 a2 cap2 H L') := hS2
        have hl1 := hSl.le
        have hl2 := hS2.le
        obtain ⟨n, hnn⟩ : ∃ n : Nat, n = L'.length := ⟨_, rfl⟩
        have HN : Hid (n = L'.length) := hnn
        rw [← hnn] at x1 x2 hn hsn hl1 hl2
        have HQS : Hid (∀ k, Calls Try.prog 22 #[.pointer (some ⟨C, 0, none⟩)] (w5.drewN k) fun e w' => e = .returned (.int .i64 sn') ∧ w' = w5.drewN k) := by
          intro k
          have hb := drewN_blw (Below.refl w5.heap.size w5) k
          exact (sent_any C sn' _ ((hb.cell (p := ⟨C, 2, none⟩) h1.lt).trans h1.c2) (Nat.lt_of_lt_of_le h1.lt hb.size)).mono fun e w' h => ⟨h.1, h.2.symm⟩
        have HQL : Hid (∀ k, Calls Try.prog 23 #[.pointer (some ⟨C, 0, none⟩)] (w5.drewN k) fun e w' => e = .returned (.int .i64 ((n : Int) - (sn' : Int))) ∧ ∃ m, w' = (w5.drewN k).drewN m) := by
          intro k
          have hb := drewN_blw (Below.refl w5.heap.size w5) k
          have := left_any C sn' n cap1 a1 _ ((hb.cell (p := ⟨C, 2, none⟩) h1.lt).trans h1.c2) ((hb.cell (p := ⟨C, 1, none⟩) h1.lt).trans x1) (Nat.lt_of_lt_of_le h1.lt hb.size) hsn (by omega)
          rw [Int.ofNat_sub hsn] at this
          exact this
        rw [← hnn]
        clear hnn h1 h2 hSl hS2 x1
        go_wp2_with fail
        go_quiet ((first | (go_at_call 22; exact Calls.quiet_of_same (HQS.out _)) | (go_at_call 23; exact Calls.quiet_of (HQL.out _))))
        have HB6 : Hid (Below w5.heap.size w5 (w5.drewN nq)) := drewN_blw (Below.refl _ _) nq
        generalize w5.drewN nq = w6 at HB6 ⊢
        clear HQS HQL
        go_wp2
        go_loopw [140] (fun c wr => ∃ t : Nat, t ≤ n ∧ c = .int .i64 t ∧ Hid (Below w5.heap.size w5 wr)) (fun c _ => n - (intOf c).toNat)
        case atStart => exact ⟨0, Nat.zero_le _, rfl, HB6⟩
        case round =>
          obtain ⟨t, htn, rfl, HBt⟩ := hrel
          clear HB6
          by_cases hlt5 : t < n
          · obtain ⟨g1, off1, rfl, -, hg1, hc1⟩ := HSl.out.nth t (by rw [← HN.out]; exact hlt5)
            obtain ⟨g2, off2, rfl, -, hg2, hc2⟩ := HS2.out.nth t (by rw [← HN.out]; exact hlt5)
            have z1 := (HBt.out.cell (p := ⟨g1, off1 + t, none⟩) hg1).trans hc1
            have z2 := (HBt.out.cell (p := ⟨g2, off2 + t, none⟩) hg2).trans hc2
            have z3 := (HBt.out.cell (p := ⟨R, 1, none⟩) hRl).trans x2
            have zs := HBt.out.size
            generalize L'.getD t ByteArray.empty = y at z1 z2
            clear hc1 hc2 x2 x3
            go_wp2_with fail
            go_quiet (fail)
            have HBu : Hid (Below w5.heap.size w5 (wr.drewN nq)) := drewN_blw HBt.out nq
            clear z1 z2 z3 HBt
            generalize wr.drewN nq = w7 at HBu ⊢
            go_wp2
            go_roundw
            case rel => exact ⟨t + 1, by omega, by go_num, HBu⟩
            case measure => simp [intOf]; omega
          · have HP6 : Hid (Pr C w wr C R mo L' sn' L' sn') := HP5.out.below HBt.out
            clear HBt x2 x3
            go_wp2
            go_roundw
            case rel => exact ⟨j + 1, L', sn', by omega, by go_num, HP6⟩
            case measure => simp [intOf]; omega
    · have HB : Hid (Below C w wr) := HP.out.bel
      clear HP
      go_wp2
      go_ret
      exact ⟨rfl, by have := HB.out; rw [HC.out] at this; exact this⟩
end Go.Proofs.Yteppelahpbgmjaa
