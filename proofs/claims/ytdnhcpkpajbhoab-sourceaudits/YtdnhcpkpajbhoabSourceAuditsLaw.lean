/-
  The walk of the law SourceAudits: it returns true.
-/
import Derived.Test.YtdnhcpkpajbhoabSrcCount
import Derived.Deep.DeepCutAuto
namespace Go.Proofs.Ytdnhcpkpajbhoab
open Go.RowKit Go.Maps Go.WideMaps
set_option linter.unusedVariables false
set_option linter.unusedSimpArgs false
set_option maxRecDepth 100000

set_option maxHeartbeats 4000000 in
theorem walk_SourceAudits (n0 : Int) (a : Option Addr) (len cap : Nat) (xs : List Int) (w : World) (hn : -9223372036854775808 ≤ n0 ∧ n0 ≤ 9223372036854775807) (hr : Row .i64 w a len cap xs) :
    Calls Try.prog 5 #[.int .i64 n0, .slice a len cap] w fun r w' => r = .returned (.bool true) ∧ Below w.heap.size w w' := by
  have hlc : len ≤ cap := hr.2.1
  have hcm : cap ≤ 9223372036854775807 := by have := hr.2.2.1; unfold maxLen at this; exact this
  obtain ⟨n, hn1, hn63, hne⟩ : ∃ n : Nat, 1 ≤ n ∧ n ≤ 63 ∧ 1 + (if (0 : Int) < n0 then n0 else (0 : Int)).tmod 63 = (n : Int) := by
    have h0 : 0 ≤ (if (0 : Int) < n0 then n0 else (0 : Int)) := by split <;> omega
    refine ⟨(1 + (if (0 : Int) < n0 then n0 else (0 : Int)).tmod 63).toNat, ?_, ?_, ?_⟩ <;> rw [Int.tmod_eq_emod_of_nonneg h0] <;> omega
  have hne2 : 1 + max 0 n0 % 63 = (n : Int) := by
    rw [← hne, Int.tmod_eq_emod_of_nonneg (by split <;> omega)]
    congr 2
    split <;> omega
  obtain ⟨m, hm200, hml, hmin⟩ : ∃ m : Nat, m ≤ 200 ∧ m ≤ len ∧ m = min len 200 := ⟨min len 200, by omega, by omega, rfl⟩
  have hmm : (if (200 : Int) < (len : Int) then (200 : Int) else (len : Int)) = (m : Int) := by split <;> omega
  have hmm2 : min (len : Int) 200 = (m : Int) := by omega
  have hmx : max (m : Int) 0 = (m : Int) := by omega
  clear hmin
  have hfr : a.map (·.add 0) = a := by
    cases a with
    | none => rfl
    | some x => simp [Addr.add]
  have HR : Hid (∀ j, j < len → ∃ (bb off : Nat) (v : Int), a = some ⟨bb, off, none⟩ ∧ bb < w.heap.size ∧ w.cell? ⟨bb, off + j, none⟩ = some (.int .i64 v) ∧ In64 v) := fun j hj => by
    obtain ⟨hl0, _, _, hw, h5⟩ := hr
    rcases h5 with ⟨_, h0, _⟩ | ⟨_, h0⟩ | ⟨b, off, rfl, _, hb, hc⟩
    · omega
    · omega
    · refine ⟨b, off, _, rfl, hb, hc j hj, ?_⟩
      exact bounds_i64 (hw _ (by rw [List.getD, List.getElem?_eq_getElem (by omega)]; exact List.getElem_mem _))
  clear hr hn
  go_enter Try.func5, Try.ntmps5
  go_wp2_with fail
  refine (owns_new w).mono ?_
  rintro r w1 ⟨C, P, M, rfl, hO⟩
  have HO1 : Hid (∃ s, Dq s 0 ∧ OwnS w.heap.size w w1 C P M s) := ⟨_, dq_new, hO⟩
  clear hO
  obtain ⟨b, hb⟩ : ∃ b, b = w.heap.size := ⟨_, rfl⟩
  rw [← hb] at HO1
  have HC : Hid (b = w.heap.size) := hb
  clear hb
  go_wp2
  try rw [hne]
  try rw [hne2]
  clear hne hne2
  go_loopw [22] (fun c wr => ∃ j : Nat, j ≤ n ∧ c = .int .i64 j ∧ Hid (∃ s, Dq s j ∧ OwnS b w wr C P M s)) (fun c _ => n - (intOf c).toNat)
  case atStart => exact ⟨0, Nat.zero_le _, rfl, HO1⟩
  case round =>
    obtain ⟨j, hjm, rfl, HS⟩ := hrel
    clear HO1
    obtain ⟨s, hd, hO⟩ := HS.out
    have HO := (show Hid (OwnS b w wr C P M s) from hO)
    have HD := (show Hid (Dq s j) from hd)
    clear hd hO HS
    by_cases hin : j < n
    · have HM := owns_message 1 1 127 HO.out
      obtain ⟨e1, e2⟩ := dq_more HD.out (by omega)
      rw [e1] at HM
      have HD2 := (show Hid (Dq (Zm.grant s) (j + 1)) from e2)
      generalize Zm.grant s = s2 at HM HD2
      generalize (Zm.message s 1 1 127).2 = l1 at HM
      clear e1 e2 HD HO
      go_wp2_with fail
      refine HM.mono ?_
      rintro r w2 ⟨x2, c2, rfl, -, -, hO⟩
      have HO2 := (show Hid (OwnS b w w2 C P M s2) from hO)
      clear HM hO
      go_wp2
      go_roundw
      case rel => exact ⟨j + 1, by omega, by go_num, ⟨s2, HD2.out, HO2.out⟩⟩
      case measure => simp [intOf]; omega
    · have hje : j = n := by omega
      subst hje
      clear hin
      have HN : Hid (1 ≤ j ∧ j ≤ 63) := ⟨hn1, hn63⟩
      have hn0 : (j : Int) ≠ 0 := by omega
      have hnb : ((j : Int) == 0) = false := by simp; omega
      have hmk := cmk wr
      obtain ⟨W2, hW2⟩ : ∃ W2, W2 = wr.alloc (.map #[] 0) := ⟨_, rfl⟩
      rw [← hW2] at hmk
      have hb2 : Below wr.heap.size wr W2 := by rw [hW2]; exact (Below.refl _ _).alloc (Nat.le_refl _) _
      have HO2 : Hid (OwnS b w W2 C P M s ∧ CtIs W2 wr.heap.size 0 (fun _ => 0) ∧ (wr.heap.size ≠ C ∧ wr.heap.size ≠ P ∧ wr.heap.size ≠ M) ∧ b ≤ wr.heap.size) := by
        obtain ⟨l1, l2, l3⟩ := HO.out.sr.low
        exact ⟨HO.out.below hb2, by rw [hW2]; exact ctIs_made wr, ⟨by omega, by omega, by omega⟩, HO.out.bs⟩
      have HA := owns_audit HO2.out.1
      have HD2 : Hid (Ad (Zm.audit s) j (fun _ => 0) (fun _ => 0)) := ad_new HD.out HN.out.2
      generalize Zm.audit s = s3 at HA HD2
      generalize Zm.auditE s = e3 at HA
      generalize wr.heap.size = Q at *
      clear hb2 hW2 HO HD
      go_wp2_with fail
      refine HA.mono ?_
      rintro r w3 ⟨x3, c3, rfl, -, hm, hO⟩
      have HA3 : Hid (∃ c s, AudS b w w3 C P M Q 0 j c (fun _ => 0) s) := ⟨_, _, hO, HD2.out, HO2.out.2.1.kept hm.2 (fun e => by rcases e with e | e; exact HO2.out.2.2.1.2.1 e; exact HO2.out.2.2.1.2.2 e), HO2.out.2.2.1, HO2.out.2.2.2⟩
      clear hm hO HO2 HD2 HA hmk
      go_wp2
      try rw [hmm2]
      try rw [hmx]
      try rw [Int.toNat_natCast]
      clear hfr hmm hmm2 hmx

      go_loopw [37] (fun i wx => ∃ q : Nat, q ≤ m ∧ i = .int .i64 q ∧ Hid (∃ c s, AudS b w wx C P M Q q j c (fun _ => 0) s)) (fun i _ => m - (intOf i).toNat)
      case atStart => exact ⟨0, Nat.zero_le _, rfl, HA3⟩
      case round =>
        obtain ⟨q, hqm, rfl, HS⟩ := hrel
        clear HA3
        obtain ⟨c, s, hs⟩ := HS.out
        have HAq : Hid (AudS b w wr C P M Q q j c (fun _ => 0) s) := hs
        clear hs HS
        by_cases hin : q < m
        · obtain ⟨bb, off, v, rfl, hbb, hc0, hv⟩ := HR.out q (by omega)
          have hx : wr.cell? ⟨bb, off + q, none⟩ = some (.int .i64 v) := (HAq.out.o.bel.cell (p := ⟨bb, off + q, none⟩) (by rw [HC.out]; exact hbb)).trans hc0
          have hbr : bb < wr.heap.size := by have := HAq.out.o.bs; have := HC.out; omega
          have hv1 := hv.1
          have hv2 := hv.2
          clear hc0 hv HR
          go_upto_region 13 with fail
          obtain ⟨p, hp, hpj⟩ : ∃ p : Nat, max 0 v % (j : Int) = p ∧ p < j := by
            have h1 := Int.emod_nonneg (max 0 v) hn0
            have h2 := Int.emod_lt_of_pos (max 0 v) (show (0 : Int) < (j : Int) by omega)
            exact ⟨(max 0 v % (j : Int)).toNat, by omega, by omega⟩
          have hw : wrap64 (64 + (p : Int)) = 64 + (p : Int) := by first | go_num | (unfold wrap64; omega)
          rw [hp, hw]
          clear hp hw
          have hp63 : p < 63 := by omega
          have hl := HAq.out.q.look hp63
          have hcp : c p ≤ 200 := by have := HAq.out.q.le p; omega
          obtain ⟨w4, hst, hq4, hk4⟩ := HAq.out.q.store (by omega) hp63 (v := (c p : Int) + 1) (by omega)
          have HO4 : Hid (OwnS b w w4 C P M s) := HAq.out.counted hq4 hk4
          have HQ4 : Hid (CtIs w4 Q (q + 1) (Zm.upn c p (c p + 1))) := hq4
          have HD4 : Hid (Ad (Zm.message s 5 5 (64 + (p : Int))).1 j (Zm.upn c p (c p + 1)) (fun _ => 0)) := ad_more HAq.out.d HN.out.2 hpj
          have HM := owns_message 5 5 (64 + (p : Int)) HO4.out
          have HE : Hid ((Q ≠ C ∧ Q ≠ P ∧ Q ≠ M) ∧ b ≤ Q) := ⟨HAq.out.ne, HAq.out.bq⟩
          generalize (Zm.message s 5 5 (64 + (p : Int))).1 = s5 at HM HD4
          generalize (Zm.message s 5 5 (64 + (p : Int))).2 = e5 at HM
          clear hq4 hk4 HO4 HAq
          go_wp2_with fail
          refine HM.mono ?_
          rintro r w5 ⟨x5, c5, rfl, -, hm, hO⟩
          have HA5 : Hid (∃ c s, AudS b w w5 C P M Q (q + 1) j c (fun _ => 0) s) := ⟨_, _, hO, HD4.out, HQ4.out.kept hm.2 (fun e => by rcases e with e | e; exact HE.out.1.2.1 e; exact HE.out.1.2.2 e), HE.out.1, HE.out.2⟩
          clear hm hO HQ4 HD4 HE HM hl hst
          go_wp2
          go_roundw
          case rel => exact ⟨q + 1, by omega, by go_num, HA5⟩
          case measure => simp [intOf]; omega
        · have hje : q = m := by omega
          subst hje
          clear hin
          have HA0 : Hid (∃ s, AudS b w wr C P M Q q j c (rT 0 0) s) := ⟨_, HAq.out.o, HAq.out.d.congr (fun p hp => by unfold rT; rw [if_neg (by omega)]), HAq.out.q, HAq.out.ne, HAq.out.bq⟩
          have HMQ : Hid (q ≤ 200) := hm200
          clear HAq HR hn0 hnb
          go_wp2
          go_loopw [55] (fun i wx => ∃ R : Nat, R ≤ 2 ∧ i = .int .i64 R ∧ Hid (∃ s, AudS b w wx C P M Q q j c (rT R 0) s)) (fun i _ => 2 - (intOf i).toNat)
          case atStart => exact ⟨0, Nat.zero_le _, rfl, HA0⟩
          case round =>
            obtain ⟨R, hR2, rfl, HS⟩ := hrel
            clear HA0
            by_cases hin : R < 2
            · have HT0 : Hid (∃ s, AudS b w wr C P M Q q j c (rT R 0) s) := HS
              clear HS
              have d56 : decide ((R : Int) < 2) = true := decide_eq_true (by omega)
              go_wp2
              generalize wr = wo at *
              try rw [d56]
              go_loopw [57] (fun i wx => ∃ T : Nat, T ≤ 128 ∧ i = .int .i64 T ∧ Hid (∃ s, AudS b w wx C P M Q q j c (rT R T) s)) (fun i _ => 128 - (intOf i).toNat)
              case atStart => exact ⟨0, Nat.zero_le _, rfl, HT0⟩
              case round =>
                obtain ⟨T, hT8, rfl, HS⟩ := hrel
                clear HT0
                by_cases hinT : T < 128
                · obtain ⟨s, hs⟩ := HS.out
                  have HM := owns_timeout (T : Int) ⟨by omega, by omega⟩ hs.o
                  have HD4 : Hid (Ad (Zm.timeout s (T : Int)).1 j c (rT R (T + 1)) ∧ CtIs wr Q q c ∧ (Q ≠ C ∧ Q ≠ P ∧ Q ≠ M) ∧ b ≤ Q) := ⟨ad_round hs.d HN.out.2 hin, hs.q, hs.ne, hs.bq⟩
                  generalize (Zm.timeout s (T : Int)).1 = s5 at HM HD4
                  generalize (Zm.timeout s (T : Int)).2 = e5 at HM
                  clear hs HS
                  go_wp2_with fail
                  refine HM.mono ?_
                  rintro r w5 ⟨x5, c5, rfl, -, hm, hO⟩
                  have HA5 : Hid (∃ s, AudS b w w5 C P M Q q j c (rT R (T + 1)) s) := ⟨_, hO, HD4.out.1, HD4.out.2.1.kept hm.2 (fun e => by rcases e with e | e; exact HD4.out.2.2.1.2.1 e; exact HD4.out.2.2.1.2.2 e), HD4.out.2.2.1, HD4.out.2.2.2⟩
                  clear hm hO HD4 HM
                  go_wp2
                  go_roundw
                  case rel => exact ⟨T + 1, by omega, by go_num, HA5⟩
                  case measure => simp [intOf]; omega
                · have hje : T = 128 := by omega
                  subst hje
                  clear hinT
                  have HA5 : Hid (∃ s, AudS b w wr C P M Q q j c (rT (R + 1) 0) s) := by
                    obtain ⟨s, hs⟩ := HS.out
                    exact ⟨s, hs.o, ad_next hs.d HN.out.2, hs.q, hs.ne, hs.bq⟩
                  clear HS
                  go_wp2
                  go_roundw
                  case rel => exact ⟨R + 1, by omega, by go_num, HA5⟩
                  case measure => simp [intOf]; omega
            · have hje : R = 2 := by omega
              subst hje
              clear hin
              obtain ⟨s, hs⟩ := HS.out
              have HA2 : Hid (AudS b w wr C P M Q q j c (rT 2 0) s) := hs
              clear hs HS
              go_wp2
              go_loopw [11, 12] (fun i1 i2 wx => ∃ p : Nat, p ≤ j ∧ i1 = .int .i64 (Pm.ct (fin j c) p) ∧ i2 = .int .i64 (64 + (p : Int)) ∧ Hid (AudS b w wx C P M Q q j c (rT 2 0) s)) (fun _ i _ => 64 + j - (intOf i).toNat)
              case atStart => exact ⟨0, Nat.zero_le _, rfl, rfl, HA2⟩
              case round =>
                obtain ⟨p, hpj, rfl, rfl, HS⟩ := hrel
                clear HA2
                have hj63 : j ≤ 63 := HN.out.2
                have hctl : Pm.ct (fin j c) p ≤ p := Pm.ct_le _ _
                by_cases hin : p < j
                · have hl := HS.out.q.look (p := p) (by omega)
                  by_cases hc1 : c p = 1
                  · have e1 : ((c p : Int) == 1) = true := by rw [hc1]; rfl
                    have hct : Pm.ct (fin j c) (p + 1) = Pm.ct (fin j c) p + 1 := Pm.ct_on (by unfold fin; simp [hin, hc1])
                    clear hc1
                    go_wp2
                    go_roundw
                    case rel => exact ⟨p + 1, by omega, by rw [hct]; go_num, by go_num, HS⟩
                    case measure => simp [intOf]; omega
                  · have e1 : ((c p : Int) == 1) = false := by simp; omega
                    have hct : Pm.ct (fin j c) (p + 1) = Pm.ct (fin j c) p := Pm.ct_off (by unfold fin; simp [hc1])
                    clear hc1
                    go_wp2
                    go_roundw
                    case rel => exact ⟨p + 1, by omega, by rw [hct], by go_num, HS⟩
                    case measure => simp [intOf]; omega
                · have hje : p = j := by omega
                  subst hje
                  clear hin
                  obtain ⟨q1, q2, q3⟩ := ad_end HS.out.d hj63
                  have HL := owns_list HS.out.o
                  rw [q1, q2] at HL
                  have HQ3 : Hid ((Zm.cks s).length = 0) := q3
                  obtain ⟨N, hNe⟩ : ∃ N, N = Pm.ct (fin p c) p := ⟨_, rfl⟩
                  rw [← hNe] at HL hctl ⊢
                  have hlen : (Pm.ls (fin p c) 63).length = N := by rw [hNe, ← q2, ← q1]; rfl
                  have HLN : Hid ((Pm.ls (fin p c) 63).length = N) := hlen
                  clear q1 q2 q3 hlen hNe
                  go_wp2_with fail
                  refine HL.mono ?_
                  rintro r w4 ⟨x4, c4, rfl, hl4, hO⟩
                  have HRow : Hid (∀ i, i < N → ∃ (g i' : Nat), x4 = some ⟨g, 0, none⟩ ∧ g < w4.heap.size ∧ w4.cell? ⟨g, i, none⟩ = some (.int .i64 (64 + (i' : Int))) ∧ i' < 63 ∧ c i' = 1) := fun i hi => by
                    obtain ⟨G, hI, _⟩ := hl4.row
                    obtain ⟨g, h1, _, h3, h4, _⟩ := hI.nth i (by rw [HLN.out]; exact hi)
                    obtain ⟨i', k1, k2, k3⟩ := (Zm.ls_mem _ _ _).1 (show (Pm.ls (fin p c) 63).getD i 0 ∈ Pm.ls (fin p c) 63 by
                      rw [List.getD, List.getElem?_eq_getElem (by rw [HLN.out]; exact hi)]
                      exact List.getElem_mem _)
                    rw [k3] at h4
                    unfold fin at k2
                    simp only [Bool.and_eq_true, decide_eq_true_eq] at k2
                    exact ⟨g, i', h1, h3, h4, k1, k2.2⟩
                  have hNc : N ≤ c4 := by
                    obtain ⟨G, hI, _⟩ := hl4.row
                    have := hI.le
                    rw [HLN.out] at this
                    exact this
                  have HA4 : Hid (AudS b w w4 C P M Q q p c (rT 2 0) s) := HS.out.below hl4.bel
                  clear hl4 hO HL HS
                  go_wp2
                  go_loopw [81] (fun i wx => ∃ k : Nat, k ≤ N ∧ i = .int .i64 k ∧ Hid (Below w4.heap.size w4 wx ∧ AudS b w wx C P M Q q p c (rT 2 0) s)) (fun i _ => N - (intOf i).toNat)
                  case atStart => exact ⟨0, Nat.zero_le _, rfl, Below.refl _ _, HA4.out⟩
                  case round =>
                    obtain ⟨k, hk, rfl, HK⟩ := hrel
                    clear HA4
                    by_cases hin : k < N
                    · obtain ⟨g, i', rfl, hg, hx, hi63, hci⟩ := HRow.out k hin
                      have hx2 := (HK.out.1.cell (p := ⟨g, k, none⟩) hg).trans hx
                      have hg2 : g < wr.heap.size := Nat.lt_of_lt_of_le hg HK.out.1.size
                      have hl := HK.out.2.q.look hi63
                      rw [hci] at hl
                      clear hx hg hci
                      go_wp2
                      go_roundw
                      case rel => exact ⟨k + 1, by omega, by go_num, HK⟩
                      case measure => simp [intOf]; omega
                    · have hje : k = N := by omega
                      subst hje
                      clear hin HRow
                      go_wp2_with fail
                      refine (swakes_any wr).mono ?_
                      rintro r w6 ⟨rfl, hb6⟩
                      have HO6 : Hid (OwnS b w w6 C P M s) := HK.out.2.o.below hb6
                      have HCk := owns_checks HO6.out
                      rw [HQ3.out] at HCk
                      clear hb6 HK
                      go_wp2_with fail
                      refine HCk.mono ?_
                      rintro r w7 ⟨x7, c7, rfl, hb7, hO⟩
                      have HB7 : Hid (Below w.heap.size w w7) := by
                        have := hO.bel
                        rw [HC.out] at this
                        exact this
                      clear hb7 hO HCk HO6
                      go_wp2
                      go_ret
                      exact ⟨rfl, HB7.out⟩
end Go.Proofs.Ytdnhcpkpajbhoab
