/-
  The law FlowRefuses' walk: an N(R) that may not come changes nothing.
-/
import Derived.Test.YtejhhgpfkobjoaaFlowVw
namespace Go.Proofs.Ytejhhgpfkobjoaa
open Go.RowKit
set_option linter.unusedVariables false
set_option linter.unusedSimpArgs false

theorem way_eq (nr va : Int) (h0 : 0 ≤ va) (h1 : va ≤ 127) : (nr % 128 - va + 128) % 128 = Sm.sb nr va := by unfold Sm.sb; omega

set_option maxHeartbeats 4000000 in
set_option maxRecDepth 100000 in
theorem walk_FlowRefuses (k : Int) (a : Option Addr) (len cap : Nat) (ps : List ActF) (nr : Int) (w : World) (hk : -9223372036854775808 ≤ k ∧ k ≤ 9223372036854775807) (hr : RowF w a len cap ps) (hnr : -9223372036854775808 ≤ nr ∧ nr ≤ 9223372036854775807) :
    Calls Try.prog 7 #[.int .i64 k, .slice a len cap, .int .i64 nr] w fun e w' => e = .returned (.bool true) ∧ Below w.heap.size w w' := by
  have hlc : len ≤ cap := hr.2.1
  have hcm : cap ≤ 9223372036854775807 := by have := hr.2.2.1; unfold maxLen at this; exact this
  have HR : Hid (RowF w a len cap ps) := hr
  have HOk0 : Hid (Wm.new k 50).Ok := Wm.new_ok k 50 hk.1 hk.2
  have HNr : Hid (-9223372036854775808 ≤ nr ∧ nr ≤ 9223372036854775807) := hnr
  clear hr hk hnr
  obtain ⟨m, hmin, hm100, hml⟩ : ∃ m : Nat, min (len : Int) 100 = (m : Int) ∧ m ≤ 100 ∧ m ≤ len := ⟨(min (len : Int) 100).toNat, by omega, by omega, by omega⟩
  have hfr : a.map (·.add 0) = a := by
    cases a with
    | none => rfl
    | some x => simp [Addr.add]
  have hmm : (if (100 : Int) < (len : Int) then (100 : Int) else (len : Int)) = (m : Int) := by split <;> omega
  go_enter Try.func7, Try.ntmps7
  go_wp2_with fail
  refine (fnew_any k 50 _).mono ?_
  rintro e w1 ⟨C, rfl, hC, hf, hb1⟩
  go_wp2_with fail
  refine (rfnew_any k 50 _).mono ?_
  rintro e w2 ⟨R, D, rfl, hR, hD, hr2, hb2⟩
  have hP2 := prf_new hC hf hb1 hR hD hr2 hb2
  clear hC hf hb1 hR hD hr2 hb2
  obtain ⟨B, hB⟩ : ∃ B, B = w.heap.size := ⟨_, rfl⟩
  rw [← hB] at hP2
  have HC : Hid (B = w.heap.size) := hB
  clear hB
  have HP4 : Hid (PrF B w w2 C R D (Wm.new k 50) (Wm.new k 50)) := hP2
  clear hP2
  go_wp2
  clear hmin hfr hmm
  go_loopw [27] (fun c wr => ∃ (j : Nat) (σ : Wm.St), j ≤ m ∧ c = .int .i64 j ∧ Hid (PrF B w wr C R D σ σ) ∧ Hid σ.Ok) (fun c _ => m - (intOf c).toNat)
  case atStart => exact ⟨0, _, Nat.zero_le _, rfl, HP4, HOk0⟩
  case round =>
    obtain ⟨j, σ, hjm, rfl, HP, HOk⟩ := hrel
    clear HP4 HOk0
    by_cases hlt : j < m
    · obtain ⟨bb, off, q, rfl, hbb, hqe, hat, hok⟩ := HR.out.at j (by omega)
      have hat' := hat.below HP.out.bel (by rw [HC.out]; exact hbb)
      have hbr : bb < wr.heap.size := by have := HP.out.bs; have := HC.out; omega
      obtain ⟨d0, d1, d2, d3, d4⟩ := hat'
      have HQk : Hid q.Ok := hok
      clear hat hqe hok hbb
      have HA : Hid (Below wr.heap.size wr (wr.alloc (.cells #[.int .i64 q.d, .int .i64 q.n, .bool q.ne, .bool q.on, .string q.s] 30))) := (Below.refl _ _).alloc (Nat.le_refl _) _
      go_wp2_with fail
      refine (act_any B w C R D σ q _ (HP.out.below HA.out) HOk.out HQk.out).mono ?_
      rintro e w5 ⟨rfl, hP5⟩
      have hO5 := Wm.step_ok HOk.out q.d q.n q.ne q.on q.s
      generalize Wm.step σ q.d q.n q.ne q.on q.s = σ' at hP5 hO5
      have HO5 : Hid σ'.Ok := hO5
      have HP6 : Hid (PrF B w w5 C R D σ' σ') := hP5
      clear d0 d1 d2 d3 d4 HP HOk HA hO5 hbr hP5
      go_wp2
      go_roundw
      case rel => exact ⟨j + 1, σ', by omega, by go_num, HP6, HO5⟩
      case measure => simp [intOf]; omega
    · obtain ⟨G, hf, hG⟩ := HP.out.alone
      have hbel := HP.out.bel
      have ok := HOk.out
      clear HP HR
      go_wp2_with fail
      refine (fview_any C G σ _ hf).mono ?_
      rintro e w5 ⟨rfl, hb5⟩
      have hV : ∀ T, FlV B w (w5.alloc (.cells #[.int .i64 σ.vs, .int .i64 σ.va, .int .i64 σ.vr, .bool σ.pe, .bool σ.ow, .bool σ.re, .int .i64 σ.sn, .int .i64 ((σ.L.length - σ.sn : Nat) : Int)] T)) C σ w5.heap.size σ :=
        fun T => flv_new (hf.below hb5) hG ok (hbel.trans (hb5.mono (by have := hG C (Or.inl rfl); have := hf.lt; omega))) T
      have hV1 := hV 34
      obtain ⟨W, hW⟩ : ∃ W, W = w5.alloc (.cells #[.int .i64 σ.vs, .int .i64 σ.va, .int .i64 σ.vr, .bool σ.pe, .bool σ.ow, .bool σ.re, .int .i64 σ.sn, .int .i64 ((σ.L.length - σ.sn : Nat) : Int)] 34) := ⟨_, rfl⟩
      rw [← hW] at hV1
      have HV1 : Hid (FlV B w W C σ w5.heap.size σ) := hV1
      clear hV hV1 hf hG hbel hb5 ok
      unfold vwV
      go_wp2_with fail
      rw [← hW]
      clear hW
      generalize w5.heap.size = V at HV1 ⊢
      obtain ⟨G1, h1, h2⟩ := HV1.out.moved
      refine (fack_any C G1 σ nr W h1 HV1.out.ok HNr.out.1 HNr.out.2).mono ?_
      rintro e w6 ⟨rfl, hm6⟩
      have HV2 := h2 _ _ hm6 (Wm.ackT_ok HV1.out.ok nr)
      clear h1 h2 hm6 HV1
      obtain ⟨G2, h3, -⟩ := HV2.fl
      go_wp2_with fail
      refine (fview_any C G2 _ w6 h3).mono ?_
      rintro e w7 ⟨rfl, hb7⟩
      have HV3 : Hid (FlV B w w7 C (Wm.ackT σ nr) V σ) := HV2.below hb7
      have HOk1 : Hid σ.Ok := HOk
      clear HV2 h3 hb7
      have hva0 := HOk1.out.va0
      have hva1 := HOk1.out.va1
      have hand := i64_and127 nr
      have hway := way_eq nr σ.va hva0 hva1
      have hse := HOk1.out.se
      have hlo := Sm.sb_lo nr σ.va
      have hm0 : 0 ≤ nr % 128 ∧ nr % 128 ≤ 127 := by omega
      cases hb : Wm.ackB σ nr with
      | false =>
        have e1 : Wm.ackN σ nr = 0 := by unfold Wm.ackN; rw [hb]; rfl
        have e2 : Wm.ackE σ nr = 2 := by unfold Wm.ackE; rw [hb]; rfl
        have e3 : Wm.ackT σ nr = σ := by unfold Wm.ackT; rw [hb]; rfl
        rw [e3] at HV3 ⊢
        rw [e1, e2]
        have hgt : (σ.sn : Int) < Sm.sb nr σ.va := by
          have := of_decide_eq_false hb
          omega
        clear hb e1 e2 e3 hse
        generalize Sm.sb nr σ.va = wy at hway hlo hgt
        generalize nr % 128 = nm at hway hand hm0
        have hBel := HV3.out.bel
        have hBs := HV3.out.bs
        obtain ⟨W8, hW8⟩ : ∃ W8, W8 = w7.alloc (.cells #[.int .i64 σ.vs, .int .i64 σ.va, .int .i64 σ.vr, .bool σ.pe, .bool σ.ow, .bool σ.re, .int .i64 σ.sn, .int .i64 ((σ.L.length - σ.sn : Nat) : Int)] 34) := ⟨_, rfl⟩
        have hb8 : Below w7.heap.size w7 W8 := by rw [hW8]; exact (Below.refl _ _).alloc (Nat.le_refl _) _
        have hV8 : VwAt W8 V σ := HV3.out.vw.below hb8
        have hU8 : VwAt W8 w7.heap.size σ := by rw [hW8]; exact vwat_new w7 σ _
        have HB8 : Hid (Below B w W8) := hBel.trans (hb8.mono hBs)
        have HBs : Hid (B ≤ W8.heap.size) := Nat.le_trans hBs hb8.size
        unfold vwV
        go_upto_region 10 with fail
        rw [← hW8]
        clear hW8 hb8 hBel hBs HV3
        generalize w7.heap.size = U at hU8 ⊢
        have HVV : Hid (VwAt W8 V σ ∧ VwAt W8 U σ) := ⟨hV8, hU8⟩
        obtain ⟨v0, v1, v2, v3, v4, v5, v6, v7, v8⟩ := hV8
        clear hU8
        go_quiet (fail)
        have HB9 : Hid (Below W8.heap.size W8 (W8.drewN nq)) := fdrewN_blw (Below.refl _ _) nq
        clear v0 v1 v2 v3 v4 v5 v6 v7 v8
        generalize W8.drewN nq = W9 at HB9 ⊢
        go_wp2_with fail
        refine (flwakes_any _).mono ?_
        rintro e w10 ⟨rfl, hb10⟩
        have hV10 := (HVV.out.1.below HB9.out).below hb10
        have hU10 := (HVV.out.2.below HB9.out).below hb10
        have HE : Hid (Below B w w10) := by
          have h9 := HB8.out.trans (HB9.out.mono HBs.out)
          exact h9.trans (hb10.mono (Nat.le_trans HBs.out HB9.out.size))
        clear hb10 HB9 HB8 HVV HBs
        obtain ⟨v0, v1, v2, v3, v4, v5, v6, v7, v8⟩ := hV10
        obtain ⟨x0, x1, x2, x3, x4, x5, x6, x7, x8⟩ := hU10
        go_wp2
        go_ret
        exact ⟨rfl, by have := HE.out; rw [HC.out] at this; exact this⟩
      | true =>
        have e1 : Wm.ackN σ nr = Sm.sb nr σ.va := by unfold Wm.ackN; rw [hb]; rfl
        have e2 : Wm.ackE σ nr = 0 := by unfold Wm.ackE; rw [hb]; rfl
        have hle := Wm.ack_le HOk1.out hb
        have e3 := Wm.ackT_sn HOk1.out hb
        obtain ⟨τ, hτ⟩ : ∃ τ, τ = Wm.ackT σ nr := ⟨_, rfl⟩
        have ev : τ.va = nr % 128 := by rw [hτ, e3]; rfl
        have es : (τ.sn : Int) = (σ.sn : Int) - Sm.sb nr σ.va := by
          rw [hτ, e3]
          show ((σ.sn - (Sm.sb nr σ.va).toNat : Nat) : Int) = _
          omega
        have el : (τ.L.length - τ.sn : Nat) = σ.L.length - σ.sn := by
          rw [hτ, e3]
          show (σ.L.drop (Sm.sb nr σ.va).toNat).length - (σ.sn - (Sm.sb nr σ.va).toNat) = _
          rw [List.length_drop]
          omega
        rw [← hτ] at HV3 ⊢
        rw [e1, e2]
        clear hb e1 e2 e3 hse hτ
        generalize Sm.sb nr σ.va = wy at hway hlo hle es
        generalize nr % 128 = nm at hway hand hm0 ev
        have HEV : Hid (τ.va = nm ∧ (τ.sn : Int) = (σ.sn : Int) - wy ∧ (τ.L.length - τ.sn : Nat) = σ.L.length - σ.sn) := ⟨ev, es, el⟩
        clear ev es el
        have hBel := HV3.out.bel
        have hBs := HV3.out.bs
        obtain ⟨W8, hW8⟩ : ∃ W8, W8 = w7.alloc (.cells #[.int .i64 τ.vs, .int .i64 τ.va, .int .i64 τ.vr, .bool τ.pe, .bool τ.ow, .bool τ.re, .int .i64 τ.sn, .int .i64 ((τ.L.length - τ.sn : Nat) : Int)] 34) := ⟨_, rfl⟩
        have hb8 : Below w7.heap.size w7 W8 := by rw [hW8]; exact (Below.refl _ _).alloc (Nat.le_refl _) _
        have hV8 : VwAt W8 V σ := HV3.out.vw.below hb8
        have hU8 : VwAt W8 w7.heap.size τ := by rw [hW8]; exact vwat_new w7 τ _
        have HB8 : Hid (Below B w W8) := hBel.trans (hb8.mono hBs)
        have HBs : Hid (B ≤ W8.heap.size) := Nat.le_trans hBs hb8.size
        unfold vwV
        go_upto_region 10 with fail
        rw [← hW8]
        clear hW8 hb8 hBel hBs HV3
        generalize w7.heap.size = U at hU8 ⊢
        have HVV : Hid (VwAt W8 V σ ∧ VwAt W8 U τ) := ⟨hV8, hU8⟩
        obtain ⟨v0, v1, v2, v3, v4, v5, v6, v7, v8⟩ := hV8
        clear hU8
        go_quiet (fail)
        have HB9 : Hid (Below W8.heap.size W8 (W8.drewN nq)) := fdrewN_blw (Below.refl _ _) nq
        clear v0 v1 v2 v3 v4 v5 v6 v7 v8
        generalize W8.drewN nq = W9 at HB9 ⊢
        go_wp2_with fail
        refine (flwakes_any _).mono ?_
        rintro e w10 ⟨rfl, hb10⟩
        have hV10 := (HVV.out.1.below HB9.out).below hb10
        have hU10 := (HVV.out.2.below HB9.out).below hb10
        have HE : Hid (Below B w w10) := by
          have h9 := HB8.out.trans (HB9.out.mono HBs.out)
          exact h9.trans (hb10.mono (Nat.le_trans HBs.out HB9.out.size))
        clear hb10 HB9 HB8 HVV HBs
        obtain ⟨v0, v1, v2, v3, v4, v5, v6, v7, v8⟩ := hV10
        obtain ⟨x0, x1, x2, x3, x4, x5, x6, x7, x8⟩ := hU10
        rw [HEV.out.1] at x2
        rw [HEV.out.2.1] at x7
        rw [HEV.out.2.2] at x8
        have hsn : σ.sn ≤ 127 := by have := HOk1.out.sw; have := Wm.win_le σ.k; omega
        clear HEV
        go_wp2
        go_ret
        exact ⟨rfl, by have := HE.out; rw [HC.out] at this; exact this⟩
end Go.Proofs.Ytejhhgpfkobjoaa
