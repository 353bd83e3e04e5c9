/-
  The walk of the law SourceStrays: it returns true.
-/
import Derived.Test.YtdnhcpkpajbhoabSrcStray
import Derived.Laws.StructEq
import Derived.Deep.DeepCutAuto
import Derived.Deep.CutBlock
namespace Go.Proofs.Ytdnhcpkpajbhoab
open Go.RowKit
set_option linter.unusedVariables false
set_option linter.unusedSimpArgs false
set_option maxRecDepth 100000

/-- the five ways at once: the TEI is had; it is none that is had, and automatic -/
theorem stray_all {s : Zm.St} {i : Nat} (h : Dq s i) (hi : i ≤ 63) {t : Int} (t0 : 0 ≤ t) (t1 : t ≤ 127) (vf : Bool) :
    ∃ (k : Int) (asg str : Bool) (n l : Nat), k = (if vf then 7 else 5) ∧ (asg = true ↔ 64 ≤ t ∧ t < 64 + (i : Int)) ∧ (str = true ↔ 64 + (i : Int) ≤ t ∧ t ≤ 126) ∧ Pm.ct (Zm.message s k 3 t).1.f 63 = i ∧ (Zm.cks (Zm.message s k 3 t).1).length = n ∧ (Zm.message s k 3 t).2.length = l ∧
      (str = true → (Zm.message s k 3 t).2 = [Zm.say 6 0 t]) ∧ n = (if asg && vf then 1 else 0) ∧ l = (if str then 1 else if asg && vf then 2 else 0) := by
  rcases dq_last h hi t0 t1 vf with ⟨k1, k2, rfl, q0, q1, q2⟩ | ⟨k1, k2, rfl, q0, q1, q2⟩ | ⟨k1, k2, hk⟩ | ⟨k1, hk⟩
  · exact ⟨7, true, false, _, _, rfl, ⟨fun _ => ⟨k1, k2⟩, fun _ => rfl⟩, ⟨fun h => (by cases h), fun h => absurd h.1 (by omega)⟩, q1, rfl, rfl, fun h => (by cases h), q2, q0⟩
  · exact ⟨5, true, false, _, _, rfl, ⟨fun _ => ⟨k1, k2⟩, fun _ => rfl⟩, ⟨fun h => (by cases h), fun h => absurd h.1 (by omega)⟩, q1, rfl, rfl, fun h => (by cases h), q2, q0⟩
  · obtain ⟨q0, q1, q2⟩ := hk (if vf then 7 else 5) (by cases vf; exact Or.inl rfl; exact Or.inr rfl)
    exact ⟨_, false, true, _, _, rfl, ⟨fun h => (by cases h), fun h => absurd h.2 (by omega)⟩, ⟨fun _ => ⟨k1, k2⟩, fun _ => rfl⟩, q1, rfl, rfl, fun _ => q0, q2, by rw [q0]; rfl⟩
  · obtain ⟨q0, q1, q2⟩ := hk (if vf then 7 else 5) (by cases vf; exact Or.inl rfl; exact Or.inr rfl)
    exact ⟨_, false, false, _, _, rfl, ⟨fun h => (by cases h), fun h => absurd h (by omega)⟩, ⟨fun h => (by cases h), fun h => absurd h (by omega)⟩, q1, rfl, rfl, fun h => (by cases h), q2, q0⟩

set_option maxHeartbeats 8000000 in
theorem walk_SourceStrays (n0 tei : Int) (vf : Bool) (w : World) (hn : -9223372036854775808 ≤ n0 ∧ n0 ≤ 9223372036854775807) (ht : -9223372036854775808 ≤ tei ∧ tei ≤ 9223372036854775807) :
    Calls Try.prog 6 #[.int .i64 n0, .int .i64 tei, .bool vf] w fun r w' => r = .returned (.bool true) ∧ Below w.heap.size w w' := by
  obtain ⟨i, hi⟩ : ∃ i : Nat, max 0 n0 % 64 = (i : Int) := ⟨(max 0 n0 % 64).toNat, by omega⟩
  have hi63 : i ≤ 63 := by omega
  obtain ⟨t, htt⟩ : ∃ t, max 0 tei % 128 = t := ⟨_, rfl⟩
  have ht0 : 0 ≤ t ∧ t ≤ 127 := by omega
  obtain ⟨t0, t1⟩ := ht0
  clear hn ht
  go_enter Try.func6, Try.ntmps6
  go_wp2_with fail
  refine (owns_new w).mono ?_
  rintro r w1 ⟨C, P, M, rfl, hO⟩
  have HO1 : Hid (∃ s, Dq s 0 ∧ OwnS w.heap.size w w1 C P M s) := ⟨_, dq_new, hO⟩
  clear hO
  obtain ⟨b, hb⟩ : ∃ b, b = w.heap.size := ⟨_, rfl⟩
  rw [← hb] at HO1
  have HC : Hid (b = w.heap.size) := hb
  clear hb
  go_wp2
  try rw [hi]
  clear hi
  go_loopw [17] (fun c wr => ∃ j : Nat, j ≤ i ∧ c = .int .i64 j ∧ Hid (∃ s, Dq s j ∧ OwnS b w wr C P M s)) (fun c _ => i - (intOf c).toNat)
  case atStart => exact ⟨0, Nat.zero_le _, rfl, HO1⟩
  case round =>
    obtain ⟨j, hjm, rfl, HS⟩ := hrel
    clear HO1
    obtain ⟨s, hd, hO⟩ := HS.out
    have HO := (show Hid (OwnS b w wr C P M s) from hO)
    have HD := (show Hid (Dq s j) from hd)
    clear hd hO HS
    by_cases hin : j < i
    · have HM := owns_message 1 1 127 HO.out
      obtain ⟨e1, e2⟩ := dq_more HD.out (by omega)
      rw [e1] at HM
      have HD2 := (show Hid (Dq (Zm.grant s) (j + 1)) from e2)
      generalize Zm.grant s = s2 at HM HD2
      generalize (Zm.message s 1 1 127).2 = l1 at HM
      clear e1 e2 HD HO
      go_wp2_with fail
      refine HM.mono ?_
      rintro r w2 ⟨x2, c2, rfl, -, -, hO⟩
      have HO2 := (show Hid (OwnS b w w2 C P M s2) from hO)
      clear HM hO
      go_wp2
      go_roundw
      case rel => exact ⟨j + 1, by omega, by go_num, ⟨s2, HD2.out, HO2.out⟩⟩
      case measure => simp [intOf]; omega
    · have hje : j = i := by omega
      subst hje
      clear hin
      obtain ⟨k, asg, str, n1, l1, hk, ha, hs, q1, q2, q3, q4, hn1, hl1⟩ := stray_all HD.out hi63 t0 t1 vf
      have HMsg := owns_message k 3 t HO.out
      rw [q3] at HMsg
      have HN1 : Hid (n1 = (if asg && vf then 1 else 0)) := hn1
      have HL1 : Hid (l1 = (if str then 1 else if asg && vf then 2 else 0)) := hl1
      have HAS : Hid ((asg = true ↔ 64 ≤ t ∧ t < 64 + (j : Int)) ∧ (str = true ↔ 64 + (j : Int) ≤ t ∧ t ≤ 126)) := ⟨ha, hs⟩
      have HK : Hid (k = (if vf then 7 else 5)) := hk
      have H4 : Hid (str = true → (Zm.message s k 3 t).2 = [Zm.say 6 0 t]) := q4
      have H3 : Hid ((Zm.message s k 3 t).2.length = l1) := q3
      have H12 : Hid (Pm.ct (Zm.message s k 3 t).1.f 63 = j ∧ (Zm.cks (Zm.message s k 3 t).1).length = n1) := ⟨q1, q2⟩
      clear q1 q2 q3 q4 hk ha hs hn1 hl1
      generalize (Zm.message s k 3 t).1 = s2 at HMsg H12
      generalize (Zm.message s k 3 t).2 = e2 at HMsg H4 H3
      have HOx : Hid (OwnS b w wr C P M s) := HO.out
      clear HD HO
      go_upto_if 26 with (fail)
      rw [htt]
      clear htt
      go_cut [8] from 23 (fun c wx => c = .int .i64 k ∧ wx = wr)
      case first =>
        cases vf with
        | true => 
          have hk := HK.out
          simp at hk
          go_wp2
          go_meet
          case rel => exact ⟨by rw [hk], rfl⟩
        | false => 
          have hk := HK.out
          simp at hk
          go_wp2
          go_meet
          case rel => exact ⟨by rw [hk], rfl⟩
      obtain ⟨rfl, hwc⟩ := hcut
      rw [hwc]
      clear hwc wc
      go_wp2_with fail
      refine HMsg.mono ?_
      rintro r w2 ⟨x2, c2, rfl, ho, -, hO⟩
      have HO2 : Hid (OwnS b w w2 C P M s2) := hO
      have HR2 : Hid (str = true → ∃ g, x2 = some ⟨g, 0, none⟩ ∧ g < w2.heap.size ∧ 1 ≤ c2 ∧ ∀ u v, (u = 1 ∧ v = .int .i64 6) ∨ (u = 2 ∧ v = .int .i64 0) ∨ (u = 3 ∧ v = .int .i64 t) → w2.cell? ⟨g, u, none⟩ = some v) := fun h => by
        have h4 := H4.out h
        have h3 := H3.out
        rw [h4] at h3 ho
        rw [← h3] at ho
        obtain ⟨g, e, _, hg, hc2, hx2⟩ := ho.own (by simp)
        refine ⟨g, e, hg, hc2, fun u v hv => ?_⟩
        rcases hv with ⟨rfl, rfl⟩ | ⟨rfl, rfl⟩ | ⟨rfl, rfl⟩
        · exact hx2 1 _ rfl
        · exact hx2 2 _ rfl
        · exact hx2 3 _ rfl
      clear HMsg ho hO HOx H3 H4 HK
      go_upto_region 12 with fail
      go_cut [10] from 32 (fun c10 wx => c10 = .bool asg ∧ wx = w2)
      case first =>
        by_cases p1 : 64 ≤ t
        · have d1 : decide (64 ≤ t) = true := decide_eq_true p1
          by_cases p2 : t < 64 + (j : Int)
          · have d2 : decide (t < 64 + (j : Int)) = true := decide_eq_true p2
            have ea : asg = true := HAS.out.1.2 ⟨p1, p2⟩
            clear p1 p2
            go_wp2
            go_meet
            case rel => exact ⟨by rw [ea], rfl⟩
          · have d2 : decide (t < 64 + (j : Int)) = false := decide_eq_false p2
            have ea : asg = false := by cases e : asg with | false => rfl | true => exact absurd (HAS.out.1.1 e).2 p2
            clear p1 p2
            go_wp2
            go_meet
            case rel => exact ⟨by rw [ea], rfl⟩
        · have d1 : decide (64 ≤ t) = false := decide_eq_false p1
          have ea : asg = false := by cases e : asg with | false => rfl | true => exact absurd (HAS.out.1.1 e).1 p1
          clear p1
          go_wp2
          go_meet
          case rel => exact ⟨by rw [ea], rfl⟩
      obtain ⟨rfl, hwc⟩ := hcut
      rw [hwc]
      clear hwc wc
      go_upto_region 13 with fail
      go_cut [11] from 40 (fun c10 wx => c10 = .bool str ∧ wx = w2)
      case first =>
        by_cases p1 : 64 + (j : Int) ≤ t
        · have d1 : decide (64 + (j : Int) ≤ t) = true := decide_eq_true p1
          by_cases p2 : t ≤ 126
          · have d2 : decide (t ≤ 126) = true := decide_eq_true p2
            have ea : str = true := HAS.out.2.2 ⟨p1, p2⟩
            clear p1 p2
            go_wp2
            go_meet
            case rel => exact ⟨by rw [ea], rfl⟩
          · have d2 : decide (t ≤ 126) = false := decide_eq_false p2
            have ea : str = false := by cases e : str with | false => rfl | true => exact absurd (HAS.out.2.1 e).2 p2
            clear p1 p2
            go_wp2
            go_meet
            case rel => exact ⟨by rw [ea], rfl⟩
        · have d1 : decide (64 + (j : Int) ≤ t) = false := decide_eq_false p1
          have ea : str = false := by cases e : str with | false => rfl | true => exact absurd (HAS.out.2.1 e).1 p1
          clear p1
          go_wp2
          go_meet
          case rel => exact ⟨by rw [ea], rfl⟩
      obtain ⟨rfl, hwc⟩ := hcut
      rw [hwc]
      clear hwc wc HAS
      go_upto_region 14 with fail
      go_cut [67] from 48 (fun c wx => c = .bool false ∧ Hid (Below w2.heap.size w2 wx ∧ Below b w wx))
      case first =>
        have hn1 := HN1.out
        have H2 := H12.out
        clear H12 HN1 HL1 HR2
        cases asg <;> cases vf <;>
        · simp only [Bool.and_true, Bool.and_false, Bool.false_eq_true, if_true, if_false] at hn1
          subst hn1
          obtain ⟨q1, q2⟩ := H2
          have Q1 : Hid (Pm.ct s2.f 63 = j) := q1
          have Q2 : Hid ((Zm.cks s2).length = _) := q2
          clear q1 q2
          go_wp2_with fail
          refine (swakes_any w2).mono ?_
          rintro r w3 ⟨rfl, hb3⟩
          have HO3 : Hid (OwnS b w w3 C P M s2 ∧ Below w2.heap.size w2 w3) := ⟨HO2.out.below hb3, hb3⟩
          have HL := owns_list HO3.out.1
          rw [Q1.out] at HL
          clear hb3
          go_wp2_with fail
          refine HL.mono ?_
          rintro r w4 ⟨x4, c4, rfl, hl4, hO⟩
          have HO4 : Hid (OwnS b w w4 C P M s2 ∧ Below w2.heap.size w2 w4) := ⟨hO, HO3.out.2.trans (hl4.bel.mono HO3.out.2.size)⟩
          have HK := owns_checks HO4.out.1
          rw [Q2.out] at HK
          clear hl4 hO HL HO3
          go_wp2_with fail
          refine HK.mono ?_
          rintro r w5 ⟨x5, c5, rfl, hb5, hO⟩
          have HB5 : Hid (Below w2.heap.size w2 w5 ∧ Below b w w5) := ⟨HO4.out.2.trans (hb5.mono HO4.out.2.size), hO.bel⟩
          clear hb5 hO HK HO4
          go_wp2
          go_meet
          case rel => exact ⟨rfl, HB5⟩
      obtain ⟨rfl, HB⟩ := hcut
      have HBw : Hid (Below w.heap.size w wc) := by have := HB.out.2; rw [HC.out] at this; exact this
      clear HO2 HN1 H12 HC
      cases str with
      | true =>
        have hl1 := HL1.out
        simp only [if_true] at hl1
        subst hl1
        obtain ⟨g, rfl, hg2, hc2, hx⟩ := HR2.out rfl
        have z1 := (HB.out.1.cell (p := ⟨g, 1, none⟩) hg2).trans (hx 1 _ (Or.inl ⟨rfl, rfl⟩))
        have z2 := (HB.out.1.cell (p := ⟨g, 2, none⟩) hg2).trans (hx 2 _ (Or.inr (Or.inl ⟨rfl, rfl⟩)))
        have z3 := (HB.out.1.cell (p := ⟨g, 3, none⟩) hg2).trans (hx 3 _ (Or.inr (Or.inr ⟨rfl, rfl⟩)))
        have hg := Nat.lt_of_lt_of_le hg2 HB.out.1.size
        clear hx hg2 HB HR2 HL1
        go_wp2
        go_ret
        exact ⟨rfl, HBw.out⟩
      | false =>
        have hl1 := HL1.out
        clear HR2 HL1 HB
        cases asg <;> cases vf <;>
        · simp only [Bool.and_true, Bool.and_false, Bool.false_eq_true, if_true, if_false] at hl1
          subst hl1
          go_wp2
          go_ret
          exact ⟨rfl, HBw.out⟩
end Go.Proofs.Ytdnhcpkpajbhoab
