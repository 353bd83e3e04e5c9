/-
  The law PoolPlays' walk: behind every calls a pool answers, and has, what the document says, step by step.
-/
import Derived.Test.YtdojkaliohcckaaPoolPair
import Derived.Test.YtdojkaliohcckaaPoolWakes
import Derived.Deep.CutBlock
import Derived.BigQuiet
namespace Go.Proofs.Ytdojkaliohcckaa
open Go.RowKit
set_option linter.unusedVariables false
set_option linter.unusedSimpArgs false

theorem pdrewN_blw {B : Nat} {a b : World} (h : Below B a b) : ∀ n, Below B a (b.drewN n)
  | 0 => h
  | n + 1 => (pdrewN_blw h n).drew

theorem zero_rp (W : World) : (zeroValue 28).run Try.prog W = .ok (.agg ((Array.replicate 128 (Value.bool false)).push (.int .i64 0))) W := by kernel_rfl

set_option maxHeartbeats 8000000 in
set_option maxRecDepth 100000 in
theorem walk_PoolPlays (a : Option Addr) (len cap : Nat) (ps : List ActV) (ask : Int) (w : World) (hr : RowA w a len cap ps) (hask : -9223372036854775808 ≤ ask ∧ ask ≤ 9223372036854775807) :
    Calls Try.prog 3 #[.slice a len cap, .int .i64 ask] w fun e w' => e = .returned (.bool true) ∧ Below w.heap.size w w' := by
  have hlc : len ≤ cap := hr.2.1
  have hcm : cap ≤ 9223372036854775807 := by have := hr.2.2.1; unfold maxLen at this; exact this
  have HR : Hid (RowA w a len cap ps) := hr
  clear hr hask
  obtain ⟨m, hmin, hm60, hml⟩ : ∃ m : Nat, min (len : Int) 60 = (m : Int) ∧ m ≤ 60 ∧ m ≤ len := ⟨(min (len : Int) 60).toNat, by omega, by omega, by omega⟩
  have hfr : a.map (·.add 0) = a := by
    cases a with
    | none => rfl
    | some x => simp [Addr.add]
  have hmm : (if (60 : Int) < (len : Int) then (60 : Int) else (len : Int)) = (m : Int) := by split <;> omega
  go_enter Try.func3, Try.ntmps3
  go_wp2_with fail
  refine (pnew_any _).mono ?_
  rintro e w1 ⟨rfl, hq1, hb1⟩
  have hz := zero_rp w1
  go_wp2_with fail
  have hq2 := new_rp w1 28
  have hb2 : Below w1.heap.size w1 (w1.alloc (.cells ((Array.replicate 128 (Value.bool false)).push (.int .i64 0)) 28)) := (Below.refl _ _).alloc (Nat.le_refl _) _
  generalize w1.alloc (.cells ((Array.replicate 128 (Value.bool false)).push (.int .i64 0)) 28) = w2 at hq2 hb2 ⊢
  have hR1 : w.heap.size < w1.heap.size := hq1.lt
  have hP2 : Pr w.heap.size w w2 w.heap.size w1.heap.size (fun _ => false) 0 (fun _ => false) 0 :=
    ⟨hq1.below hb2, hq2, Nat.le_refl _, by omega, by omega, hb1.trans (hb2.mono (by omega))⟩
  clear hq1 hq2 hb1 hb2 hz
  obtain ⟨C, hC⟩ : ∃ C, C = w.heap.size := ⟨_, rfl⟩
  obtain ⟨R, hR⟩ : ∃ R, R = w1.heap.size := ⟨_, rfl⟩
  rw [← hC, ← hR] at hP2 ⊢
  have HC : Hid (C = w.heap.size) := hC
  clear hC hR hR1
  refine (pwakes_any _).mono ?_
  rintro e w3 ⟨rfl, hb3⟩
  have HP3 : Hid (Pr C w w3 C R (fun _ => false) 0 (fun _ => false) 0) := hP2.below hb3
  clear hP2 hb3
  go_wp2
  clear hmin hfr hmm
  go_loopw [27] (fun c wr => ∃ (j : Nat) (f : Nat → Bool) (nx : Nat), j ≤ m ∧ c = .int .i64 j ∧ Hid (Pr C w wr C R f nx f nx)) (fun c _ => m - (intOf c).toNat)
  case atStart => exact ⟨0, _, _, Nat.zero_le _, rfl, HP3⟩
  case round =>
    obtain ⟨j, f, nx, hjm, rfl, HP⟩ := hrel
    clear HP3
    by_cases hlt : j < m
    · obtain ⟨bb, off, q, rfl, hbb, hqe, hat, hok⟩ := HR.out.at j (by omega)
      have hat' := hat.below HP.out.bel (by rw [HC.out]; exact hbb)
      have hbr : bb < wr.heap.size := by have := HP.out.bs; have := HC.out; omega
      obtain ⟨d0, d1, d2⟩ := hat'
      have HOk : Hid q.Ok := hok
      clear hat hqe hok hbb
      obtain ⟨Wq, hWq⟩ : ∃ Wq, Wq = wr.alloc (.cells #[.int .i64 q.d, .int .i64 q.n, .int .i64 q.o] 31) := ⟨_, rfl⟩
      have HPq : Hid (Two C w Wq C R wr.heap.size q f nx f nx) := HP.out.act hWq
      go_upto_block 2 with fail
      rw [← hWq]
      clear hWq HP d0 d1 d2 hbr
      generalize wr.heap.size = s at HPq ⊢
      generalize q.d.tmod 4 = r
      go_cut [9, 10, 11, 12] from 34 to 83 (fun s9 s10 s11 s12 wx => ∃ (g : Nat → Bool) (ny : Nat), Hid (Two C w wx C R s q g ny g ny))
      case first =>
        by_cases e1 : r = 1 ∨ r = -1
        · rcases e1 with rfl | rfl
          all_goals
            go_upto_region 17 with fail
            refine region_vals (by kernel_rfl) 9 rfl claimD (bothV C R s (.int .i64 q.n) (.int .i64 (Pm.clN f q.n))) claimD_inj ?hd ?hlow (TwJ C w C R s q nx f (Pm.clF f q.n)) ?h0 ?hstep ?hdone
            case hd => exact claimD_lt
            case hlow => kernel_rfl
            case h0 => exact twJ_start _ (HPq.out.below (Below.refl _ _).drew)
            case hstep =>
              intro l fa wz k hk0 hJ hr hK
              have s5 : fa.eval (.tmp 5) = .pointer (some ⟨C, 0, none⟩) := hK.rest 5 (by decide)
              have s6 : fa.eval (.tmp 6) = .pointer (some ⟨R, 0, none⟩) := hK.rest 6 (by decide)
              have s8 : fa.eval (.tmp 8) = .pointer (some ⟨s, 0, none⟩) := hK.rest 8 (by decide)
              have got : ∀ i, i ∈ depsOf .any _ k → ∀ d, claimD i = some d → i < 9 → fa.eval (.tmp d) = bothV C R s (.int .i64 q.n) (.int .i64 (Pm.clN f q.n)) i := fun i hi d hd hi' => hK.got i d hi' (ready_deps hr i hi) hd
              match k, hk0, hr, got with
              | 0, _, hr, got => exact stepw_val rfl (wanted_none rfl) (runw_move rfl s5 wz) rfl (hJ.same (by decide) (by decide))
              | 1, _, hr, got => exact stepw_val rfl (wanted_none rfl) (runy_fa rfl s8 wz) rfl (hJ.same (by decide) (by decide))
              | 2, _, hr, got => exact stepw_val rfl (wanted_none rfl) (runy_ldi rfl (got 1 (by decide) 64 rfl (by decide)) (by have := hJ.act.n; simpa using this)) rfl (hJ.same (by decide) (by decide))
              | 3, _, hr, got =>
                obtain ⟨hc', hn'⟩ := hJ.first hr
                exact stepw_call rfl (wanted_none rfl) (runy_claim rfl rfl (got 0 (by decide) 63 rfl (by decide)) (got 2 (by decide) 65 rfl (by decide)) wz) rfl ((pclaim_any C nx f q.n wz hc').mono fun e w' h => ⟨h.1, hn' w' h.2.1 h.2.2⟩)
              | 4, _, hr, got => exact stepw_val rfl (wanted_none rfl) (runw_move rfl s6 wz) rfl (hJ.same (by decide) (by decide))
              | 5, _, hr, got => exact stepw_val rfl (wanted_none rfl) (runy_fa rfl s8 wz) rfl (hJ.same (by decide) (by decide))
              | 6, _, hr, got => exact stepw_val rfl (wanted_none rfl) (runy_ldi rfl (got 5 (by decide) 68 rfl (by decide)) (by have := hJ.act.n; simpa using this)) rfl (hJ.same (by decide) (by decide))
              | 7, _, hr, got =>
                obtain ⟨hc', hn'⟩ := hJ.second hr
                exact stepw_call rfl (wanted_none rfl) (runy_rclaim rfl rfl (got 4 (by decide) 67 rfl (by decide)) (got 6 (by decide) 69 rfl (by decide)) wz) rfl ((rclaim_any R nx f q.n wz hc').mono fun e w' h => ⟨h.1, hn' w' h.2.1 h.2.2⟩)
              | 8, _, hr, got => exact stepw_val rfl (wanted_none rfl) (runy_nei rfl (got 3 (by decide) 66 rfl (by decide)) (got 7 (by decide) 70 rfl (by decide)) wz) rfl (hJ.same (by decide) (by decide))
              | j + 9, hlt, _, _ => exact absurd hlt (by omega)
            case hdone =>
              intro l w' hall hJ
              have HE : Hid (Two C w w' C R s q (Pm.clF f q.n) nx (Pm.clF f q.n) nx) := hJ.done hall
              clear hall hJ
              simp only [putsOf, claimD, bothV, Act.put, List.setIfInBounds_toArray, List.set_cons_zero, List.set_cons_succ]
              go_wp2_with fail
              go_meet
              exact ⟨_, _, HE⟩
        by_cases e2 : r = 2 ∨ r = -2
        · rcases e2 with rfl | rfl
          all_goals
            go_upto_region 21 with fail
            refine region_vals (by kernel_rfl) 9 rfl freeD (bothV C R s (.int .i64 q.n) (.bool (Pm.has f q.n))) freeD_inj ?hd ?hlow (TwJ C w C R s q nx f (Pm.frF f q.n)) ?h0 ?hstep ?hdone
            case hd => exact freeD_lt
            case hlow => kernel_rfl
            case h0 => exact twJ_start _ (HPq.out.below (Below.refl _ _).drew)
            case hstep =>
              intro l fa wz k hk0 hJ hr hK
              have s5 : fa.eval (.tmp 5) = .pointer (some ⟨C, 0, none⟩) := hK.rest 5 (by decide)
              have s6 : fa.eval (.tmp 6) = .pointer (some ⟨R, 0, none⟩) := hK.rest 6 (by decide)
              have s8 : fa.eval (.tmp 8) = .pointer (some ⟨s, 0, none⟩) := hK.rest 8 (by decide)
              have got : ∀ i, i ∈ depsOf .any _ k → ∀ d, freeD i = some d → i < 9 → fa.eval (.tmp d) = bothV C R s (.int .i64 q.n) (.bool (Pm.has f q.n)) i := fun i hi d hd hi' => hK.got i d hi' (ready_deps hr i hi) hd
              match k, hk0, hr, got with
              | 0, _, hr, got => exact stepw_val rfl (wanted_none rfl) (runw_move rfl s5 wz) rfl (hJ.same (by decide) (by decide))
              | 1, _, hr, got => exact stepw_val rfl (wanted_none rfl) (runy_fa rfl s8 wz) rfl (hJ.same (by decide) (by decide))
              | 2, _, hr, got => exact stepw_val rfl (wanted_none rfl) (runy_ldi rfl (got 1 (by decide) 76 rfl (by decide)) (by have := hJ.act.n; simpa using this)) rfl (hJ.same (by decide) (by decide))
              | 3, _, hr, got =>
                obtain ⟨hc', hn'⟩ := hJ.first hr
                exact stepw_call rfl (wanted_none rfl) (runy_free rfl rfl (got 0 (by decide) 75 rfl (by decide)) (got 2 (by decide) 77 rfl (by decide)) wz) rfl ((pfree_any C nx f q.n wz hc').mono fun e w' h => ⟨h.1, hn' w' h.2.1 h.2.2⟩)
              | 4, _, hr, got => exact stepw_val rfl (wanted_none rfl) (runw_move rfl s6 wz) rfl (hJ.same (by decide) (by decide))
              | 5, _, hr, got => exact stepw_val rfl (wanted_none rfl) (runy_fa rfl s8 wz) rfl (hJ.same (by decide) (by decide))
              | 6, _, hr, got => exact stepw_val rfl (wanted_none rfl) (runy_ldi rfl (got 5 (by decide) 80 rfl (by decide)) (by have := hJ.act.n; simpa using this)) rfl (hJ.same (by decide) (by decide))
              | 7, _, hr, got =>
                obtain ⟨hc', hn'⟩ := hJ.second hr
                exact stepw_call rfl (wanted_none rfl) (runy_rfree rfl rfl (got 4 (by decide) 79 rfl (by decide)) (got 6 (by decide) 81 rfl (by decide)) wz) rfl ((rfree_any R nx f q.n wz hc').mono fun e w' h => ⟨h.1, hn' w' h.2.1 h.2.2⟩)
              | 8, _, hr, got => exact stepw_val rfl (wanted_none rfl) (runy_neb rfl (got 3 (by decide) 78 rfl (by decide)) (got 7 (by decide) 82 rfl (by decide)) wz) rfl (hJ.same (by decide) (by decide))
              | j + 9, hlt, _, _ => exact absurd hlt (by omega)
            case hdone =>
              intro l w' hall hJ
              have HE : Hid (Two C w w' C R s q (Pm.frF f q.n) nx (Pm.frF f q.n) nx) := hJ.done hall
              clear hall hJ
              simp only [putsOf, freeD, bothV, Act.put, List.setIfInBounds_toArray, List.set_cons_zero, List.set_cons_succ]
              go_wp2_with fail
              go_meet
              exact ⟨_, _, HE⟩
        have n1 : (r == 1) = false := by simp; omega
        have n2 : (r == -1) = false := by simp; omega
        have n3 : (r == 2) = false := by simp; omega
        have n4 : (r == -2) = false := by simp; omega
        clear e1 e2
        have y2 := HPq.out.act.o
        have yl := HPq.out.lt
        simp only [Nat.zero_add] at y2
        go_upto_region 8 with fail
        go_cut [38, 39] from 34 to 37 (fun s38 s39 wx => ∃ T : Nat, T ≤ 70 ∧ s38 = .int .i64 T ∧ s39 = .int .i64 0 ∧ Wq = wx)
        case first =>
          by_cases hneg : q.o ≤ 0
          · go_wp2_with fail
            go_meet
            exact ⟨1, by omega, rfl, rfl, rfl⟩
          · have hpos : 0 < q.o := by omega
            have HX : Hid (∃ T : Nat, T ≤ 70 ∧ 1 + q.o % 70 = (T : Int)) := ⟨(1 + q.o % 70).toNat, by omega, by omega⟩
            have hom := HOk.out.o.2
            go_wp2_with fail
            go_meet
            obtain ⟨T, hT, hTe⟩ := HX.out
            exact ⟨T, hT, by rw [hTe], rfl, rfl⟩
        case rest =>
        obtain ⟨T, hT, rfl, rfl, rfl⟩ := hcut
        clear y2 yl n1 n2 n3 n4
        go_wp2
        go_loopw [39] (fun c wr => ∃ (t : Nat) (g : Nat → Bool) (ny : Nat), t ≤ T ∧ c = .int .i64 t ∧ Hid (Two C w wr C R s q g ny g ny)) (fun c _ => T - (intOf c).toNat)
        case atStart => exact ⟨0, f, nx, Nat.zero_le _, rfl, HPq⟩
        case round =>
          obtain ⟨t, g, ny, htT, rfl, HPt⟩ := hrel
          clear HPq
          by_cases hlt4 : t < T
          · have H1 := (passign_any C ny g _ HPt.out.pr.pl).mono fun e w' h => (⟨h.1, HPt.out.first h.2.1 h.2.2⟩ : _ ∧ Two C w w' C R s q (Pm.asF g ny) (Pm.asX g ny) g ny)
            clear HPt
            go_wp2_with fail
            refine H1.mono ?_
            rintro e w4 ⟨rfl, hO4⟩
            clear H1
            have H1 := (rassign_any R ny g _ hO4.pr.rp).mono fun e w' h => (⟨h.1, hO4.second h.2.1 h.2.2⟩ : _ ∧ Two C w w' C R s q (Pm.asF g ny) (Pm.asX g ny) (Pm.asF g ny) (Pm.asX g ny))
            clear hO4
            generalize Pm.asT g ny = x at H1 ⊢
            generalize Pm.asE g ny = y at H1 ⊢
            go_wp2_with fail
            refine H1.mono ?_
            rintro e w5 ⟨rfl, hO5⟩
            have HO5 : Hid (Two C w w5 C R s q (Pm.asF g ny) (Pm.asX g ny) (Pm.asF g ny) (Pm.asX g ny)) := hO5
            clear H1 hO5
            go_wp2
            go_roundw
            case rel => exact ⟨t + 1, _, _, by omega, by go_num, HO5⟩
            case measure => simp [intOf]; omega
          · go_wp2_with fail
            go_meet
            exact ⟨_, _, HPt⟩
      case rest =>
        obtain ⟨g, ny, HE⟩ := hcut
        have HP4 : Hid (Pr C w wc C R g ny g ny) := HE.out.pr
        clear HE HPq
        have H1 := plist_any C ny g wc HP4.out.pl
        have hct := Pm.ct_le g 63
        obtain ⟨N, hN⟩ : ∃ N, N = Pm.ct g 63 := ⟨_, rfl⟩
        have HN : Hid (N = (Pm.ls g 63).length) := hN
        have HN2 : Hid (N = Pm.ct g 63) := hN
        rw [← hN] at hct
        rw [← hN] at H1
        clear hN
        go_wp2_with fail
        refine H1.mono ?_
        rintro e w5 ⟨la, lc, rfl, hL⟩
        obtain ⟨G1, hS1, -⟩ := hL.row
        have HP5 : Hid (Pr C w w5 C R g ny g ny) := HP4.out.below hL.bel
        clear H1 hL HP4
        have H1 := rlist_any R ny g w5 HP5.out.rp
        rw [← HN2.out] at H1
        go_wp2_with fail
        refine H1.mono ?_
        rintro e w6 ⟨ma, mc, rfl, hM⟩
        obtain ⟨G2, hS2, -⟩ := hM.row
        have HP6 : Hid (Pr C w w6 C R g ny g ny) := HP5.out.below hM.bel
        have HS1 : Hid (IRow w6 la lc G1 (Pm.ls g 63)) := hS1.below hM.bel
        have HS2 : Hid (IRow w6 ma mc G2 (Pm.ls g 63)) := hS2
        clear H1 hM HP5 hS1 hS2 HN2
        have HA := phas_any C ny g ask w6 HP6.out.pl
        have HB := rhas_any R ny g ask w6 HP6.out.rp
        generalize Pm.has g ask = bh at HA HB
        go_wp2_with fail
        refine HA.mono ?_
        rintro e w' ⟨rfl, rfl⟩
        clear HA
        go_wp2_with fail
        refine HB.mono ?_
        rintro e w' ⟨rfl, rfl⟩
        clear HB
        have tb : (bh == bh) = true := by simp
        go_wp2
        clear tb
        go_loopw [104] (fun c wi => ∃ t : Nat, t ≤ N ∧ c = .int .i64 t ∧ Hid (Below w6.heap.size w6 wi)) (fun c _ => N - (intOf c).toNat)
        case atStart => exact ⟨0, Nat.zero_le _, rfl, Below.refl _ _⟩
        case round =>
          obtain ⟨t, htn, rfl, HBt⟩ := hrel
          by_cases hlt5 : t < N
          · obtain ⟨g1, rfl, -, hg1, hc1, -⟩ := HS1.out.nth t (by rw [← HN.out]; exact hlt5)
            obtain ⟨g2, rfl, -, hg2, hc2, -⟩ := HS2.out.nth t (by rw [← HN.out]; exact hlt5)
            have z1 := (HBt.out.cell (p := ⟨g1, t, none⟩) hg1).trans hc1
            have z2 := (HBt.out.cell (p := ⟨g2, t, none⟩) hg2).trans hc2
            have zs := HBt.out.size
            generalize (Pm.ls g 63).getD t 0 = y at z1 z2
            clear hc1 hc2
            go_wp2_with fail
            go_quiet (fail)
            have HBu : Hid (Below w6.heap.size w6 (wr.drewN nq)) := pdrewN_blw HBt.out nq
            clear z1 z2 HBt
            generalize wr.drewN nq = w7 at HBu ⊢
            go_wp2
            go_roundw
            case rel => exact ⟨t + 1, by omega, by go_num, HBu⟩
            case measure => simp [intOf]; omega
          · have HP7 : Hid (Pr C w wr C R g ny g ny) := HP6.out.below HBt.out
            clear HBt HS1 HS2
            go_wp2
            go_roundw
            case rel => exact ⟨j + 1, g, ny, by omega, by go_num, HP7⟩
            case measure => simp [intOf]; omega
    · have HB : Hid (Below C w wr) := HP.out.bel
      clear HP
      go_wp2
      go_ret
      exact ⟨rfl, by have := HB.out; rw [HC.out] at this; exact this⟩
end Go.Proofs.Ytdojkaliohcckaa
