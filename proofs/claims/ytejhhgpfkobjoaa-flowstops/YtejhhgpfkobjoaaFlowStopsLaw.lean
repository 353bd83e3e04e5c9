/-
  The law FlowStops' walk: while this side is busy nothing comes; while the peer is, nothing is sent.
-/
import Derived.Test.YtejhhgpfkobjoaaFlowStopsOps
namespace Go.Proofs.Ytejhhgpfkobjoaa
open Go.RowKit
set_option linter.unusedVariables false
set_option linter.unusedSimpArgs false

set_option maxHeartbeats 4000000 in
set_option maxRecDepth 100000 in
theorem walk_FlowStops (k : Int) (a : Option Addr) (len cap : Nat) (ps : List ActF) (ns : Int) (w : World) (hk : -9223372036854775808 ≤ k ∧ k ≤ 9223372036854775807) (hr : RowF w a len cap ps) (hns : -9223372036854775808 ≤ ns ∧ ns ≤ 9223372036854775807) :
    Calls Try.prog 8 #[.int .i64 k, .slice a len cap, .int .i64 ns] w fun e w' => e = .returned (.bool true) ∧ Below w.heap.size w w' := by
  have hlc : len ≤ cap := hr.2.1
  have hcm : cap ≤ 9223372036854775807 := by have := hr.2.2.1; unfold maxLen at this; exact this
  have HR : Hid (RowF w a len cap ps) := hr
  have HOk0 : Hid (Wm.new k 50).Ok := Wm.new_ok k 50 hk.1 hk.2
  have HNs : Hid (-9223372036854775808 ≤ ns ∧ ns ≤ 9223372036854775807) := hns
  clear hr hk hns
  obtain ⟨m, hmin, hm100, hml⟩ : ∃ m : Nat, min (len : Int) 100 = (m : Int) ∧ m ≤ 100 ∧ m ≤ len := ⟨(min (len : Int) 100).toNat, by omega, by omega, by omega⟩
  have hfr : a.map (·.add 0) = a := by
    cases a with
    | none => rfl
    | some x => simp [Addr.add]
  have hmm : (if (100 : Int) < (len : Int) then (100 : Int) else (len : Int)) = (m : Int) := by split <;> omega
  go_enter Try.func8, Try.ntmps8
  go_wp2_with fail
  refine (fnew_any k 50 _).mono ?_
  rintro e w1 ⟨C, rfl, hC, hf, hb1⟩
  go_wp2_with fail
  refine (rfnew_any k 50 _).mono ?_
  rintro e w2 ⟨R, D, rfl, hR, hD, hr2, hb2⟩
  have hP2 := prf_new hC hf hb1 hR hD hr2 hb2
  clear hC hf hb1 hR hD hr2 hb2
  obtain ⟨B, hB⟩ : ∃ B, B = w.heap.size := ⟨_, rfl⟩
  rw [← hB] at hP2
  have HC : Hid (B = w.heap.size) := hB
  clear hB
  have HP4 : Hid (PrF B w w2 C R D (Wm.new k 50) (Wm.new k 50)) := hP2
  clear hP2
  go_wp2
  clear hmin hfr hmm
  go_loopw [26] (fun c wr => ∃ (j : Nat) (σ : Wm.St), j ≤ m ∧ c = .int .i64 j ∧ Hid (PrF B w wr C R D σ σ) ∧ Hid σ.Ok ∧ Hid (σ.k = k)) (fun c _ => m - (intOf c).toNat)
  case atStart => exact ⟨0, _, Nat.zero_le _, rfl, HP4, HOk0, rfl⟩
  case round =>
    obtain ⟨j, σ, hjm, rfl, HP, HOk, HK⟩ := hrel
    clear HP4 HOk0
    by_cases hlt : j < m
    · obtain ⟨bb, off, q, rfl, hbb, hqe, hat, hok⟩ := HR.out.at j (by omega)
      have hat' := hat.below HP.out.bel (by rw [HC.out]; exact hbb)
      have hbr : bb < wr.heap.size := by have := HP.out.bs; have := HC.out; omega
      obtain ⟨d0, d1, d2, d3, d4⟩ := hat'
      have HQk : Hid q.Ok := hok
      clear hat hqe hok hbb
      have HA : Hid (Below wr.heap.size wr (wr.alloc (.cells #[.int .i64 q.d, .int .i64 q.n, .bool q.ne, .bool q.on, .string q.s] 30))) := (Below.refl _ _).alloc (Nat.le_refl _) _
      go_wp2_with fail
      refine (act_any B w C R D σ q _ (HP.out.below HA.out) HOk.out HQk.out).mono ?_
      rintro e w5 ⟨rfl, hP5⟩
      have hO5 := Wm.step_ok HOk.out q.d q.n q.ne q.on q.s
      have hK5 : (Wm.step σ q.d q.n q.ne q.on q.s).k = k := (Wm.step_k σ q.d q.n q.ne q.on q.s).1.trans HK.out
      generalize Wm.step σ q.d q.n q.ne q.on q.s = σ' at hP5 hO5 hK5
      have HK5 : Hid (σ'.k = k) := hK5
      have HO5 : Hid σ'.Ok := hO5
      have HP6 : Hid (PrF B w w5 C R D σ' σ') := hP5
      clear d0 d1 d2 d3 d4 HP HOk HA hO5 hbr hP5 hK5 HK
      go_wp2
      go_roundw
      case rel => exact ⟨j + 1, σ', by omega, by go_num, HP6, HO5, HK5⟩
      case measure => simp [intOf]; omega
    · have O0 := HP.out.own HOk.out
      clear HP HR HOk
      obtain ⟨z, hz⟩ : ∃ z, (if (127 : Int) < k then (127 : Int) else k) = z := ⟨_, rfl⟩
      obtain ⟨v, hv⟩ : ∃ v, (if (1 : Int) < z then z else (1 : Int)) = v := ⟨_, rfl⟩
      have HZ : Hid ((if (127 : Int) < k then (127 : Int) else k) = z) := hz
      have HV : Hid ((if (1 : Int) < z then z else (1 : Int)) = v) := hv
      have HVW : Hid (v = Wm.win k) := by
        show _ = _
        unfold Wm.win
        rw [← hv, ← hz]
        split <;> split <;> omega
      clear hz hv
      go_wp2_with fail
      refine (ownf_own true O0).mono ?_
      rintro e w5 ⟨rfl, O1⟩
      clear O0
      go_wp2_with fail
      refine (ownf_peer true O1).mono ?_
      rintro e w6 ⟨rfl, O2⟩
      clear O1
      obtain ⟨τ, hτ⟩ : ∃ τ, τ = Wm.peerT (Wm.ownT σ true) true := ⟨_, rfl⟩
      rw [← hτ] at O2
      have tp : τ.pe = true := by rw [hτ]; rfl
      have tw : τ.ow = true := by rw [hτ]; rfl
      have HTk : Hid (τ.k = k) := by rw [hτ]; exact HK.out
      clear hτ HK
      obtain ⟨G, hf, -⟩ := O2.fl
      go_wp2_with fail
      refine (fview_any C G τ w6 hf).mono ?_
      rintro e w7 ⟨rfl, hb7⟩
      have O3 := O2.below hb7
      have HV7 : Hid (FlV B w (w7.alloc (.cells #[.int .i64 τ.vs, .int .i64 τ.va, .int .i64 τ.vr, .bool τ.pe, .bool τ.ow, .bool τ.re, .int .i64 τ.sn, .int .i64 ((τ.L.length - τ.sn : Nat) : Int)] 34)) C τ w7.heap.size τ) := O3.vw _
      have HTP : Hid (τ.pe = true ∧ τ.ow = true) := ⟨tp, tw⟩
      clear O2 O3 hf hb7 tp tw
      unfold vwV
      go_wp2_with fail
      generalize w7.alloc (.cells #[.int .i64 τ.vs, .int .i64 τ.va, .int .i64 τ.vr, .bool τ.pe, .bool τ.ow, .bool τ.re, .int .i64 τ.sn, .int .i64 ((τ.L.length - τ.sn : Nat) : Int)] 34) = w8 at HV7 ⊢
      generalize w7.heap.size = V at HV7 ⊢
      refine (flv_come ns HV7.out HNs.out.1 HNs.out.2).mono ?_
      have ec : Wm.comeN τ ns = 3 := by unfold Wm.comeN; rw [HTP.out.2]; rfl
      have et : Wm.comeT τ ns = τ := by unfold Wm.comeT; rw [HTP.out.2]; rfl
      rw [ec, et]
      rintro e w9 ⟨rfl, hV9⟩
      clear HV7 ec et
      go_wp2_with fail
      obtain ⟨t1, t2, t3⟩ := Wm.take_no (Wm.takeB_pe HTP.out.1)
      refine (flv_take hV9).mono ?_
      rw [Wm.takeB_pe HTP.out.1, t1, t2, t3]
      rintro e w10 ⟨rfl, hV10⟩
      have HV10 : Hid (FlV B w w10 C τ V τ) := hV10
      clear hV9 hV10 t1 t2 t3
      go_upto_region 12 with fail
      refine region_vals (by kernel_rfl) 15 rfl st1D (st1V C V τ) st1D_inj ?hd ?hlow (StJ B w C τ V τ) ?h0 ?hstep ?hdone
      case hd => exact st1D_lt
      case hlow => kernel_rfl
      case h0 => exact ⟨HV10.out.below (Below.refl _ _).drew⟩
      case hstep =>
        intro l fa w1 i hi hJ hr hK
        have s7 : fa.eval (.tmp 7) = .pointer (some ⟨C, 0, none⟩) := hK.rest 7 (by decide)
        have s11 : fa.eval (.tmp 11) = .pointer (some ⟨V, 0, none⟩) := hK.rest 11 (by decide)
        have s12 : fa.eval (.tmp 12) = .int .i64 3 := hK.rest 12 (by decide)
        have s15 : fa.eval (.tmp 15) = .bool false := hK.rest 15 (by decide)
        have got : ∀ j, j ∈ depsOf .any _ i → ∀ d, st1D j = some d → j < 15 → fa.eval (.tmp d) = st1V C V τ j := fun j hj d hd hj' => hK.got j d hj' (ready_deps hr j hj) hd
        match i, hi, hr, got with
        | 0, _, hr, got => exact stepw_call rfl (wanted_none rfl) (runv_wakes rfl rfl w1) rfl ((flwakes_any w1).mono fun e w2 h => ⟨h.1, ⟨hJ.v.below h.2⟩⟩)
        | 1, _, hr, got => exact stepw_val rfl (wanted_none rfl) (runv_not rfl (got 0 (by decide) 50 rfl (by decide)) w1) rfl hJ.keep
        | 2, _, hr, got => exact stepw_val rfl (wanted_none rfl) (runw_move rfl (got 1 (by decide) 51 rfl (by decide)) w1) rfl hJ.keep
        | 3, _, hr, got => exact stepw_val rfl (wanted_some (j := 2) (b := false) rfl rfl rfl (got 2 (by decide) 52 rfl (by decide))) (runw_move rfl s12 w1) rfl hJ.keep
        | 4, _, hr, got => exact stepw_val rfl (wanted_some (j := 2) (b := false) rfl rfl rfl (got 2 (by decide) 52 rfl (by decide))) (runv_ne3 rfl (got 3 (by decide) 53 rfl (by decide)) rfl w1) rfl hJ.keep
        | 5, _, hr, got => exact stepw_val rfl (wanted_none rfl) (runw_pickf rfl (got 2 (by decide) 52 rfl (by decide)) (got 4 (by decide) 54 rfl (by decide)) w1) rfl hJ.keep
        | 6, _, hr, got => exact stepw_val rfl (wanted_none rfl) (runw_move rfl (got 5 (by decide) 55 rfl (by decide)) w1) rfl hJ.keep
        | 7, _, hr, got => exact stepw_val rfl (wanted_some (j := 6) (b := false) rfl rfl rfl (got 6 (by decide) 56 rfl (by decide))) (runw_move rfl s15 w1) rfl hJ.keep
        | 8, _, hr, got => exact stepw_val rfl (wanted_none rfl) (runw_pickf rfl (got 6 (by decide) 56 rfl (by decide)) (got 7 (by decide) 57 rfl (by decide)) w1) rfl hJ.keep
        | 9, _, hr, got => exact stepw_val rfl (wanted_none rfl) (runw_move rfl (got 8 (by decide) 58 rfl (by decide)) w1) rfl hJ.keep
        | 10, _, hr, got => exact stepw_val rfl (wanted_some (j := 9) (b := false) rfl rfl rfl (got 9 (by decide) 59 rfl (by decide))) (runw_move rfl s7 w1) rfl hJ.keep
        | 11, _, hr, got => exact stepw_call rfl (wanted_some (j := 9) (b := false) rfl rfl rfl (got 9 (by decide) 59 rfl (by decide))) (runv_view rfl rfl (got 10 (by decide) 60 rfl (by decide)) w1) rfl ((flv_view hJ.v).mono fun e w2 h => ⟨h.1, ⟨h.2⟩⟩)
        | 12, _, hr, got => exact stepw_val rfl (wanted_some (j := 9) (b := false) rfl rfl rfl (got 9 (by decide) 59 rfl (by decide))) (runv_ld8 rfl s11 hJ.v.vw) rfl hJ.keep
        | 13, _, hr, got => exact stepw_val rfl (wanted_some (j := 9) (b := false) rfl rfl rfl (got 9 (by decide) 59 rfl (by decide))) (runv_nev rfl (got 11 (by decide) 61 rfl (by decide)) (got 12 (by decide) 62 rfl (by decide)) w1) rfl hJ.keep
        | 14, _, hr, got => exact stepw_val rfl (wanted_none rfl) (runw_pickf rfl (got 9 (by decide) 59 rfl (by decide)) (got 13 (by decide) 63 rfl (by decide)) w1) rfl hJ.keep
        | j + 15, hlt, _, _ => exact absurd hlt (by omega)
      case hdone =>
        intro l w11 hall hJ
        have HV11 : Hid (FlV B w w11 C τ V τ) := hJ.v
        clear hall hJ HV10
        simp only [putsOf, st1D, st1V, Act.put, List.setIfInBounds_toArray, List.set_cons_zero, List.set_cons_succ]
        go_wp2_with fail
        refine (flv_own false HV11.out).mono ?_
        rintro e w12 ⟨rfl, hV12⟩
        clear HV11
        go_wp2_with fail
        refine (flv_peer false hV12).mono ?_
        rintro e w13 ⟨rfl, hV13⟩
        obtain ⟨υ, hυ⟩ : ∃ υ, υ = Wm.peerT (Wm.ownT τ false) false := ⟨_, rfl⟩
        rw [← hυ] at hV13
        have up : υ.pe = false := by rw [hυ]; rfl
        have uw : υ.ow = false := by rw [hυ]; rfl
        have uvr : υ.vr = τ.vr := by rw [hυ]; rfl
        have uk : υ.k = k := by rw [hυ]; exact HTk.out
        have us : υ.sn = τ.sn := by rw [hυ]; rfl
        have uL : υ.L = τ.L := by rw [hυ]; rfl
        clear hV12 hυ
        have okv := hV13.ok
        have vr0 := okv.vr0
        have vr1 := okv.vr1
        rw [uvr] at vr0 vr1
        have hc2 := hV13.vw.c2
        have hlV := hV13.vw.lt
        have hnm : Sm.nm τ.vr = υ.vr := by rw [uvr]; unfold Sm.nm; omega
        have ec : Wm.comeN υ τ.vr = 0 := by unfold Wm.comeN; rw [uw, if_pos hnm]; rfl
        obtain ⟨φ, hφ⟩ : ∃ φ, φ = Wm.comeT υ τ.vr := ⟨_, rfl⟩
        have hφ' : φ = { υ with vr := Sm.ad υ.vr 1, re := false } := by rw [hφ]; unfold Wm.comeT; rw [uw, if_pos hnm]; rfl
        have pp : φ.pe = false := by rw [hφ']; exact up
        have pvr : φ.vr = Sm.ad τ.vr 1 := by rw [hφ', ← uvr]
        have pk : φ.k = k := by rw [hφ']; exact uk
        have ps' : φ.sn = τ.sn := by rw [hφ']; exact us
        have pL : φ.L = τ.L := by rw [hφ']; exact uL
        have hcome := flv_come τ.vr hV13 (by omega) (by omega)
        rw [ec, ← hφ] at hcome
        clear hV13 up uw uvr uk us uL okv hnm ec hφ hφ'
        go_wp2_with fail
        refine hcome.mono ?_
        rintro e w14 ⟨rfl, hV14⟩
        clear hcome hc2 hlV
        obtain ⟨b1, hb1⟩ : ∃ b1, decide ((0 : Int) < ((τ.L.length - τ.sn : Nat) : Int)) = b1 := ⟨_, rfl⟩
        obtain ⟨b2, hb2⟩ : ∃ b2, decide ((τ.sn : Int) < v) = b2 := ⟨_, rfl⟩
        have eb : Wm.takeB φ = (b1 && b2) := by
          unfold Wm.takeB
          rw [pp, pk, ps', pL, ← HVW.out, hb2]
          have : decide (τ.sn < τ.L.length) = b1 := by rw [← hb1]; exact decide_eq_decide.2 (by omega)
          rw [this]
          cases b1 <;> cases b2 <;> rfl
        have htake := flv_take hV14
        rw [eb] at htake
        have ev : (Wm.takeT φ).vr = Sm.ad τ.vr 1 := by
          unfold Wm.takeT
          split
          · exact pvr
          · exact pvr
        generalize Wm.takeT φ = ψ at htake ev
        generalize Wm.takeN φ = x1 at htake
        generalize Wm.takeS φ = x2 at htake
        have HB : Hid (decide ((0 : Int) < ((τ.L.length - τ.sn : Nat) : Int)) = b1 ∧ decide ((τ.sn : Int) < v) = b2) := ⟨hb1, hb2⟩
        have HEv : Hid (ψ.vr = Sm.ad τ.vr 1) := ev
        have HVr : Hid (0 ≤ τ.vr ∧ τ.vr ≤ 127) := ⟨vr0, vr1⟩
        clear hV14 eb pp pvr pk ps' pL hb1 hb2 ev vr0 vr1
        go_wp2_with fail
        refine htake.mono ?_
        rintro e w15 ⟨rfl, hV15⟩
        have HV15 : Hid (FlV B w w15 C ψ V τ) := hV15
        clear htake hV15
        go_upto_region 18 with fail
        refine region_vals (by kernel_rfl) 28 rfl st2D (st2V C V k z v ψ τ b1 b2) st2D_inj ?hd ?hlow (StJ B w C ψ V τ) ?h0 ?hstep ?hdone
        case hd => exact st2D_lt
        case hlow => kernel_rfl
        case h0 => exact ⟨HV15.out.below (Below.refl _ _).drew⟩
        case hstep =>
          intro l fa w1 i hi hJ hr hK
          have s0 : fa.eval (.tmp 0) = .int .i64 k := hK.rest 0 (by decide)
          have s7 : fa.eval (.tmp 7) = .pointer (some ⟨C, 0, none⟩) := hK.rest 7 (by decide)
          have s11 : fa.eval (.tmp 11) = .pointer (some ⟨V, 0, none⟩) := hK.rest 11 (by decide)
          have s12 : fa.eval (.tmp 12) = .int .i64 0 := hK.rest 12 (by decide)
          have s15 : fa.eval (.tmp 15) = .bool (b1 && b2) := hK.rest 15 (by decide)
          have hvr0 := HVr.out.1
          have hvr1 := HVr.out.2
          have hb1 := HB.out.1
          have hb2 := HB.out.2
          have hz := HZ.out
          have hv := HV.out
          have hev := HEv.out
          have got : ∀ j, j ∈ depsOf .any _ i → ∀ d, st2D j = some d → j < 28 → fa.eval (.tmp d) = st2V C V k z v ψ τ b1 b2 j := fun j hj d hd hj' => hK.got j d hj' (ready_deps hr j hj) hd
          match i, hi, hr, got with
          | 0, _, hr, got => exact stepw_val rfl (wanted_none rfl) (runw_move rfl s12 w1) rfl hJ.keep
          | 1, _, hr, got => exact stepw_val rfl (wanted_none rfl) (runv_eq0 rfl (got 0 (by decide) 79 rfl (by decide)) rfl w1) rfl hJ.keep
          | 2, _, hr, got => exact stepw_val rfl (wanted_none rfl) (runw_move rfl (got 1 (by decide) 80 rfl (by decide)) w1) rfl hJ.keep
          | 3, _, hr, got => exact stepw_val rfl (wanted_some (j := 2) (b := true) rfl rfl rfl (got 2 (by decide) 81 rfl (by decide))) (runw_move rfl s7 w1) rfl hJ.keep
          | 4, _, hr, got => exact stepw_call rfl (wanted_some (j := 2) (b := true) rfl rfl rfl (got 2 (by decide) 81 rfl (by decide))) (runv_view rfl rfl (got 3 (by decide) 82 rfl (by decide)) w1) rfl ((flv_view hJ.v).mono fun e w2 h => ⟨h.1, ⟨h.2⟩⟩)
          | 5, _, hr, got => exact stepw_val rfl (wanted_some (j := 2) (b := true) rfl rfl rfl (got 2 (by decide) 81 rfl (by decide))) (runv_field rfl (got 4 (by decide) 83 rfl (by decide)) w1) rfl hJ.keep
          | 6, _, hr, got => exact stepw_val rfl (wanted_some (j := 2) (b := true) rfl rfl rfl (got 2 (by decide) 81 rfl (by decide))) (runv_fa 2 (by decide) rfl s11 w1) rfl hJ.keep
          | 7, _, hr, got => exact stepw_val rfl (wanted_some (j := 2) (b := true) rfl rfl rfl (got 2 (by decide) 81 rfl (by decide))) (runv_ldi rfl (got 6 (by decide) 85 rfl (by decide)) hJ.v.vw.c2) rfl hJ.keep
          | 8, _, hr, got => exact stepw_val rfl (wanted_some (j := 2) (b := true) rfl rfl rfl (got 2 (by decide) 81 rfl (by decide))) (runv_add1 rfl (got 7 (by decide) 86 rfl (by decide)) hvr0 hvr1 rfl w1) rfl hJ.keep
          | 9, _, hr, got => exact stepw_val rfl (wanted_some (j := 2) (b := true) rfl rfl rfl (got 2 (by decide) 81 rfl (by decide))) (runv_rem rfl (got 8 (by decide) 87 rfl (by decide)) hvr0 hvr1 rfl w1) rfl hJ.keep
          | 10, _, hr, got => exact stepw_val rfl (wanted_some (j := 2) (b := true) rfl rfl rfl (got 2 (by decide) 81 rfl (by decide))) (runv_eqi rfl ((got 5 (by decide) 84 rfl (by decide)).trans (by rw [← hev]; rfl)) (got 9 (by decide) 88 rfl (by decide)) w1) rfl hJ.keep
          | 11, _, hr, got => exact stepw_val rfl (wanted_none rfl) (runw_pick rfl (got 2 (by decide) 81 rfl (by decide)) (got 10 (by decide) 89 rfl (by decide)) w1) rfl hJ.keep
          | 12, _, hr, got => exact stepw_val rfl (wanted_none rfl) (runw_move rfl (got 11 (by decide) 90 rfl (by decide)) w1) rfl hJ.keep
          | 13, _, hr, got => exact stepw_val rfl (wanted_some (j := 12) (b := true) rfl rfl rfl (got 12 (by decide) 91 rfl (by decide))) (runw_move rfl s15 w1) rfl hJ.keep
          | 14, _, hr, got => exact stepw_val rfl (wanted_some (j := 12) (b := true) rfl rfl rfl (got 12 (by decide) 91 rfl (by decide))) (runv_fa 7 (by decide) rfl s11 w1) rfl hJ.keep
          | 15, _, hr, got => exact stepw_val rfl (wanted_some (j := 12) (b := true) rfl rfl rfl (got 12 (by decide) 91 rfl (by decide))) (runv_ldi rfl (got 14 (by decide) 93 rfl (by decide)) hJ.v.vw.c7) rfl hJ.keep
          | 16, _, hr, got => exact stepw_val rfl (wanted_some (j := 12) (b := true) rfl rfl rfl (got 12 (by decide) 91 rfl (by decide))) (runv_gt0 rfl (got 15 (by decide) 94 rfl (by decide)) hb1 rfl w1) rfl hJ.keep
          | 17, _, hr, got => exact stepw_val rfl (wanted_some (j := 12) (b := true) rfl rfl rfl (got 12 (by decide) 91 rfl (by decide))) (runw_move rfl (got 16 (by decide) 95 rfl (by decide)) w1) rfl hJ.keep
          | 18, _, hr, got =>
            cases b1 with
            | true => exact stepw_val rfl (wanted_some (j := 17) (b := true) rfl rfl rfl (got 17 (by decide) 96 rfl (by decide))) (runv_fa 6 (by decide) rfl s11 w1) rfl hJ.keep
            | false => exact stepw_not rfl (wanted_not (j := 17) (b := true) rfl rfl rfl (got 17 (by decide) 96 rfl (by decide))) rfl rfl hJ.keep
          | 19, _, hr, got =>
            cases b1 with
            | true => exact stepw_val rfl (wanted_some (j := 17) (b := true) rfl rfl rfl (got 17 (by decide) 96 rfl (by decide))) (runv_ldi rfl (got 18 (by decide) 97 rfl (by decide)) hJ.v.vw.c6) rfl hJ.keep
            | false => exact stepw_not rfl (wanted_not (j := 17) (b := true) rfl rfl rfl (got 17 (by decide) 96 rfl (by decide))) rfl rfl hJ.keep
          | 20, _, hr, got =>
            cases b1 with
            | true => exact stepw_val rfl (wanted_some (j := 17) (b := true) rfl rfl rfl (got 17 (by decide) 96 rfl (by decide))) (runw_move rfl s0 w1) rfl hJ.keep
            | false => exact stepw_not rfl (wanted_not (j := 17) (b := true) rfl rfl rfl (got 17 (by decide) 96 rfl (by decide))) rfl rfl hJ.keep
          | 21, _, hr, got =>
            cases b1 with
            | true => exact stepw_val rfl (wanted_some (j := 17) (b := true) rfl rfl rfl (got 17 (by decide) 96 rfl (by decide))) (runv_min rfl (got 20 (by decide) 99 rfl (by decide)) hz rfl w1) rfl hJ.keep
            | false => exact stepw_not rfl (wanted_not (j := 17) (b := true) rfl rfl rfl (got 17 (by decide) 96 rfl (by decide))) rfl rfl hJ.keep
          | 22, _, hr, got =>
            cases b1 with
            | true => exact stepw_val rfl (wanted_some (j := 17) (b := true) rfl rfl rfl (got 17 (by decide) 96 rfl (by decide))) (runv_max rfl (got 21 (by decide) 100 rfl (by decide)) hv rfl w1) rfl hJ.keep
            | false => exact stepw_not rfl (wanted_not (j := 17) (b := true) rfl rfl rfl (got 17 (by decide) 96 rfl (by decide))) rfl rfl hJ.keep
          | 23, _, hr, got =>
            cases b1 with
            | true => exact stepw_val rfl (wanted_some (j := 17) (b := true) rfl rfl rfl (got 17 (by decide) 96 rfl (by decide))) (runv_lt rfl (got 19 (by decide) 98 rfl (by decide)) (got 22 (by decide) 101 rfl (by decide)) hb2 w1) rfl hJ.keep
            | false => exact stepw_not rfl (wanted_not (j := 17) (b := true) rfl rfl rfl (got 17 (by decide) 96 rfl (by decide))) rfl rfl hJ.keep
          | 24, _, hr, got =>
            cases b1 with
            | true => exact stepw_val rfl (wanted_some (j := 12) (b := true) rfl rfl rfl (got 12 (by decide) 91 rfl (by decide))) (runw_pick rfl (got 17 (by decide) 96 rfl (by decide)) (got 23 (by decide) 102 rfl (by decide)) w1) rfl hJ.keep
            | false => exact stepw_val rfl (wanted_some (j := 12) (b := true) rfl rfl rfl (got 12 (by decide) 91 rfl (by decide))) (runw_pickf rfl (got 17 (by decide) 96 rfl (by decide)) (show fa.eval (.const (.bool false)) = .bool false from rfl) w1) rfl hJ.keep
          | 25, _, hr, got => exact stepw_val rfl (wanted_some (j := 12) (b := true) rfl rfl rfl (got 12 (by decide) 91 rfl (by decide))) (runv_eqb rfl (got 13 (by decide) 92 rfl (by decide)) (got 24 (by decide) 103 rfl (by decide)) w1) rfl hJ.keep
          | 26, _, hr, got => exact stepw_val rfl (wanted_none rfl) (runw_pick rfl (got 12 (by decide) 91 rfl (by decide)) (got 25 (by decide) 104 rfl (by decide)) w1) rfl hJ.keep
          | 27, _, hr, got => exact stepw_val rfl (wanted_none rfl) (runw_assign rfl (got 26 (by decide) 105 rfl (by decide)) w1) rfl hJ.keep
          | j + 28, hlt, _, _ => exact absurd hlt (by omega)
        case hdone =>
          intro l w16 hall hJ
          have HE : Hid (Below B w w16) := hJ.v.bel
          clear hall hJ HV15 HB HEv HVr HZ HV HVW
          simp only [putsOf, st2D, st2V, Act.put, List.setIfInBounds_toArray, List.set_cons_zero, List.set_cons_succ]
          go_wp2
          go_ret
          exact ⟨rfl, by have := HE.out; rw [HC.out] at this; exact this⟩
end Go.Proofs.Ytejhhgpfkobjoaa
