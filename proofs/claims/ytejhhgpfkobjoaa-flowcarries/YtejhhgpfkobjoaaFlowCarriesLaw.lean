/-
  The law FlowCarries' walk: what one flow sends, and another one takes in, comes in order, each payload once, whatever is lost on the way, as long as what is unanswered is sent again; all of it at the end.
-/
import Derived.Test.YtejhhgpfkobjoaaFlowCary
namespace Go.Proofs.Ytejhhgpfkobjoaa
open Go.RowKit
set_option linter.unusedVariables false
set_option linter.unusedSimpArgs false

theorem conv_tx (W : World) (i : Nat) : (convert 40 9 (.slice (some ⟨W.heap.size, 0, none⟩) 1 1)).run Try.prog (W.alloc (.cells #[.int .u8 (i : Int)] 5)) = .ok (.string (Wm.tx i)) (W.alloc (.cells #[.int .u8 (i : Int)] 5)) :=
  run_convert_bytes_arg _ 40 5 Try.underlying40 Try.underlying5 W.heap.size 0 1 1 [(i : Int)] rfl (fun j hj => by
    have : j = 0 := by omega
    subst this
    simp) 9 Try.underlying9
theorem field_vr (W : World) (a b c d e f g h : Value) : (Instr.field 34 (.agg #[a, b, c, d, e, f, g, h]) 2).run Try.prog W = .ok c W := by
  first | kernel_rfl | rfl
theorem field_left (W : World) (a b c d e f g h : Value) : (Instr.field 34 (.agg #[a, b, c, d, e, f, g, h]) 7).run Try.prog W = .ok h W := by
  first | kernel_rfl | rfl

set_option maxHeartbeats 8000000 in
set_option maxRecDepth 100000 in
theorem walk_FlowCarries (n k : Int) (la : Option Addr) (ll lc : Nat) (bs : List Bool) (w : World) (hn : -9223372036854775808 ≤ n ∧ n ≤ 9223372036854775807) (hk : -9223372036854775808 ≤ k ∧ k ≤ 9223372036854775807) (hr : RowBo w la ll lc bs) :
    Calls Try.prog 5 #[.int .i64 n, .int .i64 k, .slice la ll lc] w fun e w' => e = .returned (.bool true) ∧ Below w.heap.size w w' := by
  have HR : Hid (RowBo w la ll lc bs) := hr
  have HOk0 : Hid (Wm.new k 256).Ok := Wm.new_ok k 256 hk.1 hk.2
  clear hr hk
  obtain ⟨Ws, hWs⟩ : ∃ Ws, Ws = w.alloc (.cells #[.slice la ll lc] 37) := ⟨_, rfl⟩
  go_enter Try.func5, Try.ntmps5
  go_upto_region 1 with fail
  rw [← hWs]
  obtain ⟨B, hB⟩ : ∃ B, B = w.heap.size := ⟨_, rfl⟩
  have HC : Hid (B = w.heap.size) := hB
  have HS0 : Hid (Ws.cell? ⟨B, 0, none⟩ = some (.slice la ll lc) ∧ B < Ws.heap.size ∧ Below B w Ws) := by
    rw [hWs, hB]
    exact ⟨by simp, by simp, (Below.refl _ _).alloc (Nat.le_refl _) _⟩
  rw [← hB]
  clear hWs hB
  go_cut [0] from 18 to 20 (fun s0 wx => ∃ N : Nat, N ≤ 199 ∧ s0 = .int .i64 N ∧ Ws = wx)
  case first =>
    by_cases hneg : n ≤ 0
    · go_wp2_with fail
      go_meet
      exact ⟨0, by omega, rfl, rfl⟩
    · have hpos : 0 < n := by omega
      go_wp2_with fail
      go_meet
      exact ⟨(n % 200).toNat, by omega, by rw [Int.toNat_of_nonneg (by omega)], rfl⟩
  case rest =>
  obtain ⟨N, hN, rfl, rfl⟩ := hcut
  clear hn
  go_wp2_with fail
  refine (fnew_any k 256 _).mono ?_
  rintro e w1 ⟨Ca, rfl, hCa, hfa, hb1⟩
  go_wp2_with fail
  refine (fnew_any k 256 _).mono ?_
  rintro e w2 ⟨Cb, rfl, hCb, hfb, hb2⟩
  have HC0 : Hid (Car0 B w w2 Ca Cb B la ll lc (Wm.cst k 0 0 0) (Wm.rst k 0 false)) := by
    obtain ⟨x1, x2, x3⟩ := HS0.out
    have s1 := hb1.size
    have l1 := hfa.lt
    refine ⟨⟨none, none, hfa.below hb2, hfb, ?_, ?_, ?_⟩, HOk0.out, HOk0.out, (hb2.cell (p := ⟨B, 0, none⟩) (by show B < _; omega)).trans ((hb1.cell (p := ⟨B, 0, none⟩) x2).trans x1), by have := hb2.size; omega, Nat.le_refl _, (x3.trans (hb1.mono (Nat.le_of_lt x2))).trans (hb2.mono (by omega))⟩
    · rintro j (rfl | hj)
      · exact ⟨by omega, by omega⟩
      · cases hj
    · rintro j (rfl | hj)
      · exact ⟨by omega, by omega⟩
      · cases hj
    · rintro j (rfl | hj) (hj2 | hj2)
      · omega
      · cases hj2
      · cases hj
      · cases hj
  clear hCa hfa hb1 hCb hfb hb2 HS0 HOk0
  go_wp2
  go_loopw [26] (fun c wr => ∃ i : Nat, i ≤ N ∧ c = .int .i64 i ∧ Hid (Car0 B w wr Ca Cb B la ll lc (Wm.cst k i 0 0) (Wm.rst k 0 false))) (fun c _ => N - (intOf c).toNat)
  case atStart => exact ⟨0, Nat.zero_le _, rfl, HC0⟩
  case round =>
    obtain ⟨i, hiN, rfl, HCi⟩ := hrel
    clear HC0
    by_cases hlt : i < N
    · have hcv := conv_tx wr i
      have HCa : Hid (Car0 B w (wr.alloc (.cells #[.int .u8 (i : Int)] 5)) Ca Cb B la ll lc (Wm.cst k i 0 0) (Wm.rst k 0 false)) := HCi.out.below ((Below.refl _ _).alloc (Nat.le_refl _) _)
      have hi200 : i < 200 := by omega
      clear HCi
      go_wp2_with fail
      clear hcv
      refine (car0_push (Wm.tx i) HCa.out (by rw [Wm.tx_size]; omega)).mono ?_
      have ep : Qm.pushN (Wm.cst k i 0 0).mo (Wm.cst k i 0 0).L (Wm.tx i) = 0 := (Wm.lay_push i hi200).1
      rw [ep, Wm.cst_push k i hi200]
      rintro e w3 ⟨rfl, hC3⟩
      have HC3 : Hid (Car0 B w w3 Ca Cb B la ll lc (Wm.cst k (i + 1) 0 0) (Wm.rst k 0 false)) := hC3
      clear hC3 HCa ep
      go_wp2
      go_roundw
      case rel => exact ⟨i + 1, by omega, by go_num, HC3⟩
      case measure => simp [intOf]; omega
    · have hie : i = N := by omega
      subst hie
      obtain ⟨Wt, hWt⟩ : ∃ Wt, Wt = wr.alloc (.cells #[.int .i64 0] 3) := ⟨_, rfl⟩
      have HCt : Hid (Cary B w Wt Ca Cb wr.heap.size B la ll lc (Wm.cst k i 0 0) (Wm.rst k 0 false) 0) := HCi.out.count hWt
      clear HCi hlt hiN
      go_upto_region 10 with fail
      rw [← hWt]
      clear hWt
      generalize wr.heap.size = T at HCt ⊢
      obtain ⟨N, hNi⟩ : ∃ N, N = i := ⟨_, rfl⟩
      subst hNi
      have HI0 : Hid (Wm.Inv k N 0 0 0) := Wm.Inv.start hN
      go_wp2
      go_loopw [10, 38] (fun g c wr => ∃ (i b sn got : Nat) (re : Bool), i ≤ 2000 ∧ g = .int .i64 got ∧ c = .int .i64 i ∧ got ≤ 199 ∧ Hid (Cary B w wr Ca Cb T B la ll lc (Wm.cst k N b sn) (Wm.rst k got re) i) ∧ Hid (Wm.Inv k N b sn got) ∧ Hid (Wm.Near N b sn got i)) (fun _ c _ => 2000 - (intOf c).toNat)
      case atStart => exact ⟨0, 0, 0, 0, false, by omega, rfl, rfl, by omega, HCt, HI0, Wm.near_start⟩
      case round =>
        obtain ⟨i, b, sn, got, re, hi, rfl, rfl, hgot, HCi, HI, HNr⟩ := hrel
        clear HCt HI0
        by_cases hlt : i < 2000
        · have hTk := cary_take HCi.out
          by_cases hf : (sn : Int) < Wm.win k ∧ b + sn < N
          · obtain ⟨t1, t2, t3, t4⟩ := Wm.cst_yes hf.1 hf.2
            rw [t1, t2, t3, t4] at hTk
            have HF : Hid ((sn : Int) < Wm.win k ∧ b + sn < N) := hf
            obtain ⟨d, hd⟩ : ∃ d : Int, d = ((b + sn : Nat) : Int) % 128 := ⟨_, rfl⟩
            have hd0 : 0 ≤ d ∧ d ≤ 127 := by omega
            rw [← hd] at hTk
            have HD : Hid (d = ((b + sn : Nat) : Int) % 128) := hd
            clear t1 t2 t3 t4 HCi hf hd
            go_wp2_with fail
            refine hTk.mono ?_
            rintro e w11 ⟨rfl, hC11⟩
            clear hTk
            have hDr := drop_any bs hC11 (by rw [HC.out]; exact Nat.le_refl _) HR.out hi
            cases hl : drp bs ll i with
            | true =>
              rw [hl] at hDr
              have HN2 : Hid (Wm.Near N b (sn + 1) got (i + 1)) := Wm.near_lost (HI.out.sent HF.out.1 HF.out.2) (drp_lt hl)
              have HI2 : Hid (Wm.Inv k N b (sn + 1) got) := HI.out.sent HF.out.1 HF.out.2
              clear hC11 hl HI HNr
              generalize Wm.tx (b + sn) = y at hDr ⊢
              go_wp2_with fail
              refine hDr.mono ?_
              rintro e w12 ⟨rfl, hC12⟩
              have HC12 : Hid (Cary B w w12 Ca Cb T B la ll lc (Wm.cst k N b (sn + 1)) (Wm.rst k got re) (i + 1)) := hC12
              clear hDr hC12
              go_wp2
              go_roundw
              case rel => exact ⟨i + 1, b, sn + 1, got, re, by omega, rfl, by go_num, hgot, HC12, HI2, HN2.out⟩
              case measure => simp [intOf]; omega
            | false =>
              rw [hl] at hDr
              have HL : Hid (drp bs ll i = false) := hl
              clear hC11 hl
              by_cases he : b + sn = got
              · have HI2 : Hid (Wm.Inv k N b (sn + 1) (got + 1)) := HI.out.came HF.out.1 HF.out.2 he
                have HN2 : Hid (Wm.Near N b (sn + 1) (got + 1) (i + 1)) := by
                  by_cases h5 : i < 500
                  · exact Wm.near_lost HI2.out h5
                  · exact Wm.near_came HI.out HNr.out HF.out.2 he h5
                have HGn : Hid (got + 1 ≤ 199) := by show _ ≤ _; have := HF.out.2; omega
                have HDg : Hid (d = (got : Int) % 128) := by show _ = _; rw [HD.out, he]
                rw [he]
                clear HI HNr HD HF HL he
                obtain ⟨y, hy⟩ : ∃ y, y = Wm.tx got := ⟨_, rfl⟩
                rw [← hy]
                have HY : Hid (y = Wm.tx got) := hy
                clear hy
                go_wp2_with fail
                refine hDr.mono ?_
                rintro e w12 ⟨rfl, hC12⟩
                have hCm := cary_come d hC12 (by omega) (by omega)
                obtain ⟨r1, r2⟩ := Wm.rst_next (k := k) (g := got) (re := re)
                rw [← HDg.out] at r1 r2
                rw [r1, r2] at hCm
                clear hDr hC12 r1 r2
                go_wp2_with fail
                refine hCm.mono ?_
                rintro e w13 ⟨rfl, hC13⟩
                have hcv := conv_tx w13 got
                have HC13 : Hid (Cary B w (w13.alloc (.cells #[.int .u8 (got : Int)] 5)) Ca Cb T B la ll lc (Wm.cst k N b (sn + 1)) (Wm.rst k (got + 1) false) (i + 1)) := hC13.below ((Below.refl _ _).alloc (Nat.le_refl _) _)
                rw [← HY.out] at hcv
                clear hCm hC13
                have ty : (y.toList == y.toList) = true := by simp
                have tyn : (y.toList != y.toList) = false := by simp
                go_wp2
                go_roundw
                case rel => exact ⟨i + 1, b, sn + 1, got + 1, false, by omega, by go_num, by go_num, HGn.out, HC13, HI2, HN2.out⟩
                case measure => simp [intOf]; omega
              · have HI2 : Hid (Wm.Inv k N b (sn + 1) got) := HI.out.sent HF.out.1 HF.out.2
                have HN2 : Hid (Wm.Near N b (sn + 1) got (i + 1)) := by
                  by_cases h5 : i < 500
                  · exact Wm.near_lost HI2.out h5
                  · exact Wm.near_wrong HI.out HNr.out HF.out.1 HF.out.2 he h5
                have hdg : ¬ ((b + sn : Nat) : Int) % 128 = (got : Int) % 128 := fun h => he ((Wm.same_num HI.out HF.out.1).1 h)
                generalize Wm.tx (b + sn) = y at hDr ⊢
                go_wp2_with fail
                refine hDr.mono ?_
                rintro e w12 ⟨rfl, hC12⟩
                have hCm := cary_come d hC12 (by omega) (by omega)
                obtain ⟨r1, r2⟩ := Wm.rst_other (k := k) (g := got) (p := b + sn) (re := re) hdg
                rw [← HD.out] at r1 r2
                rw [r2] at hCm
                generalize Wm.comeN (Wm.rst k got re) d = cn at hCm r1
                clear hDr hC12 r2 hdg he HI HNr HD HF HL
                go_wp2_with fail
                refine hCm.mono ?_
                rintro e w13 ⟨rfl, hC13⟩
                have HC13 : Hid (Cary B w w13 Ca Cb T B la ll lc (Wm.cst k N b (sn + 1)) (Wm.rst k got true) (i + 1)) := hC13
                clear hCm hC13
                go_wp2
                go_roundw
                case rel => exact ⟨i + 1, b, sn + 1, got, true, by omega, rfl, by go_num, hgot, HC13, HI2, HN2.out⟩
                case measure => simp [intOf]; omega
          · have hfb := Wm.cst_no hf
            obtain ⟨t1, t2, t3⟩ := Wm.take_no hfb
            rw [hfb, t1, t2, t3] at hTk
            have HF : Hid (¬ ((sn : Int) < Wm.win k ∧ b + sn < N)) := hf
            clear hfb t1 t2 t3 HCi hf
            go_wp2_with fail
            refine hTk.mono ?_
            rintro e w11 ⟨rfl, hC11⟩
            clear hTk
            have hDr := drop_any bs hC11 (by rw [HC.out]; exact Nat.le_refl _) HR.out hi
            cases hl : drp bs ll i with
            | true =>
              rw [hl] at hDr
              have HI2 : Hid (Wm.Inv k N b 0 got) := HI.out.back
              have HN2 : Hid (¬ N - b = 0 → Wm.Near N b 0 got (i + 1)) := fun _ => Wm.near_lost HI.out.back (drp_lt hl)
              clear hC11 hl HI HNr
              go_wp2_with fail
              refine hDr.mono ?_
              rintro e w12 ⟨rfl, hC12⟩
              have hBk := cary_back hC12
              clear hDr hC12
              go_wp2_with fail
              refine hBk.mono ?_
              rintro e w20 ⟨rfl, hC20⟩
              rw [Wm.cst_back] at hC20
              clear hBk
              go_wp2_with fail
              refine (cary_view hC20).mono ?_
              rintro e w21 ⟨rfl, hC21⟩
              have HC21 : Hid (Cary B w w21 Ca Cb T B la ll lc (Wm.cst k N b 0) (Wm.rst k got re) (i + 1)) := hC21
              have hlf := Wm.cst_left k N b
              have hfl := field_left w21
              clear hC20 hC21
              unfold vwV
              rw [hlf]
              clear hlf
              by_cases hz : N - b = 0
              · have hzi : ((N - b : Nat) : Int) = 0 := by omega
                rw [hzi]
                have HG : Hid (got = N) := HI2.out.over hz
                clear hzi HN2
                go_wp2_with fail
                refine (flwakes_any _).mono ?_
                rintro e w22 ⟨rfl, hb22⟩
                have hC22 := HC21.out.below hb22
                clear hb22 HC21 hfl
                have hgN : ((got : Int) == (N : Int)) = true := by rw [HG.out]; simp
                go_wp2_with fail
                refine (cary_view hC22).mono ?_
                rintro e w23 ⟨rfl, hC23⟩
                have HE : Hid (Below B w w23) := hC23.bel
                have hfl := field_left w23
                clear hC22 hC23
                unfold vwV
                rw [Wm.cst_left, hz]
                go_wp2
                go_ret
                exact ⟨rfl, by have := HE.out; rw [HC.out] at this; exact this⟩
              · have hzi : (((N - b : Nat) : Int) == 0) = false := by simp; omega
                have HZ : Hid (¬ N - b = 0) := hz
                generalize N - b = df at hzi hfl ⊢
                clear hz
                go_wp2
                go_roundw
                case rel => exact ⟨i + 1, b, 0, got, re, by omega, rfl, by go_num, hgot, HC21, HI2, HN2.out HZ.out⟩
                case measure => simp [intOf]; omega
            | false =>
              rw [hl] at hDr
              have HI2 : Hid (Wm.Inv k N got 0 got) := HI.out.acked
              have HN2 : Hid (¬ N - got = 0 → Wm.Near N got 0 got (i + 1)) := by
                intro hg
                by_cases h5 : i < 500
                · exact Wm.near_lost HI2.out h5
                · exact Wm.near_acked HI.out HNr.out HF.out hg h5
              have hsn : sn ≤ 127 := by have := HI.out.sw; have := Wm.win_le k; omega
              have HA := Wm.cst_ack (k := k) (N := N) (b := b) (sn := sn) (g := got) HI.out.bg (HI.out.full HF.out) hsn
              have HAh : Hid (Wm.ackE (Wm.cst k N b sn) ((got : Int) % 128) = 0 ∧ Wm.ackT (Wm.cst k N b sn) ((got : Int) % 128) = Wm.cst k N got (b + sn - got)) := HA
              clear hC11 hl HI HNr HF HA hsn
              go_wp2_with fail
              refine hDr.mono ?_
              rintro e w12 ⟨rfl, hC12⟩
              clear hDr
              have hVw := cary_view2 hC12
              unfold vwV at hVw
              have hvr : (Wm.rst k got re).vr = (got : Int) % 128 := rfl
              rw [hvr] at hVw
              obtain ⟨d, hd⟩ : ∃ d : Int, d = (got : Int) % 128 := ⟨_, rfl⟩
              have hd0 : 0 ≤ d ∧ d ≤ 127 := by omega
              rw [← hd] at hVw HAh
              clear hd hvr hC12
              go_wp2_with fail
              refine hVw.mono ?_
              rintro e w13 ⟨rfl, hC13⟩
              have hfv := field_vr w13
              clear hVw
              go_wp2_with fail
              have hAk := cary_ack d hC13 (by omega) (by omega)
              rw [HAh.out.1, HAh.out.2] at hAk
              generalize Wm.ackN (Wm.cst k N b sn) d = an at hAk
              refine hAk.mono ?_
              rintro e w14 ⟨rfl, hC14⟩
              clear hAk hC13 hfv HAh
              go_wp2_with fail
              have hBk := cary_back hC14
              clear hC14
              refine hBk.mono ?_
              rintro e w20 ⟨rfl, hC20⟩
              rw [Wm.cst_back] at hC20
              clear hBk
              go_wp2_with fail
              refine (cary_view hC20).mono ?_
              rintro e w21 ⟨rfl, hC21⟩
              have HC21 : Hid (Cary B w w21 Ca Cb T B la ll lc (Wm.cst k N got 0) (Wm.rst k got re) (i + 1)) := hC21
              have hlf := Wm.cst_left k N got
              have hfl := field_left w21
              clear hC20 hC21
              unfold vwV
              rw [hlf]
              clear hlf
              by_cases hz : N - got = 0
              · have hzi : ((N - got : Nat) : Int) = 0 := by omega
                rw [hzi]
                have HG : Hid (got = N) := HI2.out.over hz
                clear hzi HN2
                go_wp2_with fail
                refine (flwakes_any _).mono ?_
                rintro e w22 ⟨rfl, hb22⟩
                have hC22 := HC21.out.below hb22
                clear hb22 HC21 hfl
                have hgN : ((got : Int) == (N : Int)) = true := by rw [HG.out]; simp
                go_wp2_with fail
                refine (cary_view hC22).mono ?_
                rintro e w23 ⟨rfl, hC23⟩
                have HE : Hid (Below B w w23) := hC23.bel
                have hfl := field_left w23
                clear hC22 hC23
                unfold vwV
                rw [Wm.cst_left, hz]
                go_wp2
                go_ret
                exact ⟨rfl, by have := HE.out; rw [HC.out] at this; exact this⟩
              · have hzi : (((N - got : Nat) : Int) == 0) = false := by simp; omega
                have HZ : Hid (¬ N - got = 0) := hz
                generalize N - got = df at hzi hfl ⊢
                clear hz
                go_wp2
                go_roundw
                case rel => exact ⟨i + 1, got, 0, got, re, by omega, rfl, by go_num, hgot, HC21, HI2, HN2.out HZ.out⟩
                case measure => simp [intOf]; omega
        · have hie : i = 2000 := by omega
          exfalso
          have h1 := HNr.out (by omega)
          subst hie
          omega
end Go.Proofs.Ytejhhgpfkobjoaa
