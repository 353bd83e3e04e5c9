/-
  The law QueueFills' walk: as many payloads as may are taken, and no more; each that is done makes room for one.
-/
import Derived.Test.YteppelahpbgmjaaQueWakes
import Derived.Deep.CutBlock
import Derived.BigQuiet
namespace Go.Proofs.Yteppelahpbgmjaa
open Go.RowKit
set_option linter.unusedVariables false
set_option linter.unusedSimpArgs false

theorem list_shape {w : World} {base : Nat} {v : Value} {L : List ByteArray} (h : w.ownsRow base 9 1 v L.length (L.map Value.string)) : ∃ a cap, v = .slice a L.length cap := by
  obtain ⟨a, cap, G, h1, _⟩ := own_srow rfl h
  exact ⟨a, cap, h1⟩
/-- behind i pushes of x onto K -/
def fill (S : Nat) (K : List ByteArray) (x : ByteArray) (i : Nat) : List ByteArray := K ++ List.replicate (min i (S - K.length)) x
theorem fill_push (mo : Int) (K : List ByteArray) (x : ByteArray) (i : Nat) (hx : x.size ≤ 260) (hK : K.length ≤ Qm.takes mo) :
    Qm.pushN mo (fill (Qm.takes mo) K x i) x = (if i < Qm.takes mo - K.length then 0 else 10) ∧ Qm.pushL mo (fill (Qm.takes mo) K x i) x = fill (Qm.takes mo) K x (i + 1) := by
  have h1 : ¬ 260 < x.size := by omega
  have hl : (fill (Qm.takes mo) K x i).length = K.length + min i (Qm.takes mo - K.length) := by simp [fill]
  by_cases h2 : i < Qm.takes mo - K.length
  · have h3 : ¬ Qm.takes mo ≤ (fill (Qm.takes mo) K x i).length := by rw [hl]; omega
    refine ⟨by unfold Qm.pushN; rw [if_neg h1, if_neg h3, if_pos h2], ?_⟩
    unfold Qm.pushL
    rw [if_neg h1, if_neg h3]
    unfold fill
    have e1 : min i (Qm.takes mo - K.length) = i := by omega
    have e2 : min (i + 1) (Qm.takes mo - K.length) = i + 1 := by omega
    rw [e1, e2, List.append_assoc, ← List.replicate_succ']
  · have h3 : Qm.takes mo ≤ (fill (Qm.takes mo) K x i).length := by rw [hl]; omega
    refine ⟨by unfold Qm.pushN; rw [if_neg h1, if_pos h3, if_neg h2], ?_⟩
    unfold Qm.pushL
    rw [if_neg h1, if_pos h3]
    unfold fill
    congr 2
    omega
theorem fill_length (S : Nat) (K : List ByteArray) (x : ByteArray) (i : Nat) (hK : K.length ≤ S) (hi : S - K.length ≤ i) : (fill S K x i).length = S := by
  simp [fill]; omega

set_option maxHeartbeats 4000000 in
set_option maxRecDepth 100000 in
theorem walk_QueueFills (mo n : Int) (w : World) (hmo : -9223372036854775808 ≤ mo ∧ mo ≤ 9223372036854775807) (hn0 : -9223372036854775808 ≤ n ∧ n ≤ 9223372036854775807) :
    Calls Try.prog 6 #[.int .i64 mo, .int .i64 n] w fun e w' => e = .returned (.bool true) ∧ Below w.heap.size w w' := by
  clear hmo
  go_enter Try.func6, Try.ntmps6
  go_wp2_with fail
  refine (new_any mo _).mono ?_
  rintro e w1 ⟨rfl, hq1, hb1⟩
  obtain ⟨C, hC⟩ : ∃ C, C = w.heap.size := ⟨_, rfl⟩
  have HO1 : Hid (Own C w w1 C mo [] 0) := by rw [hC]; exact own_new hq1 (Nat.le_refl _) hb1
  clear hq1 hb1
  rw [← hC]
  have HC : Hid (C = w.heap.size) := hC
  clear hC
  go_upto_region 2 with fail
  go_cut [6] from 11 to 13 (fun s6 wx => s6 = .int .i64 (Qm.takes mo : Nat) ∧ w1 = wx)
  case first =>
    have HT := Qm.takes_eq mo
    rcases (show mo < 1 ∨ (1 ≤ mo ∧ mo ≤ 256) ∨ 256 < mo by omega) with h | ⟨h, h'⟩ | h
    · have HX : Hid (((Qm.takes mo : Nat) : Int) = 1) := by show _ = _; omega
      clear HT
      go_wp2_with fail
      all_goals
        go_meet
        exact ⟨by rw [HX.out]; first | done | (congr 1; omega), rfl⟩
    · have HX : Hid (((Qm.takes mo : Nat) : Int) = mo) := by show _ = _; omega
      clear HT
      go_wp2_with fail
      all_goals
        go_meet
        exact ⟨by rw [HX.out]; first | done | (congr 1; omega), rfl⟩
    · have HX : Hid (((Qm.takes mo : Nat) : Int) = 256) := by show _ = _; omega
      clear HT
      go_wp2_with fail
      all_goals
        go_meet
        exact ⟨by rw [HX.out]; first | done | (congr 1; omega), rfl⟩
  case rest =>
    obtain ⟨rfl, rfl⟩ := hcut
    obtain ⟨S, hS⟩ : ∃ S, S = Qm.takes mo := ⟨_, rfl⟩
    have hS1 : 1 ≤ S := by rw [hS]; exact Qm.takes_pos mo
    have hS2 : S ≤ 256 := by rw [hS]; exact Qm.takes_le mo
    have HF : Hid (∀ (K : List ByteArray) (x : ByteArray) (i : Nat), x.size ≤ 260 → K.length ≤ S → Qm.pushN mo (fill S K x i) x = (if i < S - K.length then 0 else 10) ∧ Qm.pushL mo (fill S K x i) x = fill S K x (i + 1)) := by
      intro K x i h1 h2
      rw [hS] at h2 ⊢
      exact fill_push mo K x i h1 h2
    rw [← hS]
    clear hS
    have HO2 : Hid (Own C w w1 C mo (fill S [] ⟨#[112]⟩ 0) 0) := by
      have e : fill S [] ⟨#[112]⟩ 0 = [] := by simp [fill]
      rw [e]; exact HO1.out
    clear HO1
    go_wp2
    go_loopw [16] (fun c wr => ∃ i : Nat, i ≤ S + 3 ∧ c = .int .i64 i ∧ Hid (Own C w wr C mo (fill S [] ⟨#[112]⟩ i) 0)) (fun c _ => S + 3 - (intOf c).toNat)
    case atStart => exact ⟨0, Nat.zero_le _, rfl, HO2⟩
    case round =>
      obtain ⟨i, hi, rfl, HO⟩ := hrel
      clear HO2
      by_cases hlt : i < S + 3
      · obtain ⟨f1, f2⟩ := HF.out [] ⟨#[112]⟩ i (by decide) (Nat.zero_le _)
        have HP := own_push ⟨#[112]⟩ HO.out (by decide)
        rw [f1, f2] at HP
        simp only [List.length_nil, Nat.sub_zero] at HP
        clear f1 f2 HO
        by_cases hiS : i < S
        · rw [if_pos hiS] at HP
          go_wp2_with fail
          refine HP.mono ?_
          rintro e w2 ⟨rfl, hO2⟩
          have HO2 : Hid (Own C w w2 C mo (fill S [] ⟨#[112]⟩ (i + 1)) 0) := hO2
          clear hO2 HP
          go_wp2
          go_roundw
          case rel => exact ⟨i + 1, by omega, by go_num, HO2⟩
          case measure => simp [intOf]; omega
        · rw [if_neg hiS] at HP
          go_wp2_with fail
          refine HP.mono ?_
          rintro e w2 ⟨rfl, hO2⟩
          have HO2 : Hid (Own C w w2 C mo (fill S [] ⟨#[112]⟩ (i + 1)) 0) := hO2
          clear hO2 HP
          go_wp2
          go_roundw
          case rel => exact ⟨i + 1, by omega, by go_num, HO2⟩
          case measure => simp [intOf]; omega
      · have hie : i = S + 3 := by omega
        have HO3 : Hid (Own C w wr C mo (List.replicate S ⟨#[112]⟩) 0) := by
          have e : fill S [] ⟨#[112]⟩ i = List.replicate S ⟨#[112]⟩ := by
            unfold fill
            simp
            omega
          rw [← e]; exact HO.out
        clear HO hie hi
        go_upto_region 9 with fail
        go_cut [1] from 27 to 31 (fun s1 wx => ∃ k : Nat, k ≤ S ∧ s1 = .int .i64 k ∧ wr = wx)
        case first =>
          by_cases hneg : n ≤ 0
          · go_wp2_with fail
            go_meet
            exact ⟨0, by omega, rfl, rfl⟩
          · have hpos : 0 < n := by omega
            have h1 : 0 ≤ n % ((S : Int) + 1) := Int.emod_nonneg _ (by omega)
            have h2 : n % ((S : Int) + 1) < (S : Int) + 1 := Int.emod_lt_of_pos _ (by omega)
            have HX : Hid (∃ k : Nat, k ≤ S ∧ n % ((S : Int) + 1) = (k : Int)) := ⟨(n % ((S : Int) + 1)).toNat, by omega, by omega⟩
            clear h1 h2
            go_wp2_with fail
            go_meet
            obtain ⟨k, hk, hke⟩ := HX.out
            exact ⟨k, hk, by rw [hke], rfl⟩
        case rest =>
          obtain ⟨k, hk, rfl, rfl⟩ := hcut
          clear hn0
          go_wp2
          go_loopw [33] (fun c wr => ∃ t : Nat, t ≤ k ∧ c = .int .i64 t ∧ Hid (Own C w wr C mo (List.replicate S ⟨#[112]⟩) t)) (fun c _ => k - (intOf c).toNat)
          case atStart => exact ⟨0, Nat.zero_le _, rfl, HO3⟩
          case round =>
            obtain ⟨t, htk, rfl, HO⟩ := hrel
            clear HO3
            by_cases hlt2 : t < k
            · have HP := own_take HO.out
              have e1 : Qm.takeN (List.replicate S (⟨#[112]⟩ : ByteArray)) t = t + 1 := by unfold Qm.takeN; rw [if_pos (by simp; omega)]
              rw [e1] at HP
              clear e1 HO
              go_wp2_with fail
              refine HP.mono ?_
              rintro e w2 ⟨rfl, hO2⟩
              have HO2 : Hid (Own C w w2 C mo (List.replicate S ⟨#[112]⟩) (t + 1)) := hO2
              clear hO2 HP
              go_wp2
              go_roundw
              case rel => exact ⟨t + 1, by omega, by go_num, HO2⟩
              case measure => simp [intOf]; omega
            · have hte : t = k := by omega
              subst hte
              clear htk
              go_wp2_with fail
              refine (wakes_any _).mono ?_
              rintro e w3 ⟨rfl, hb3⟩
              have HO4 : Hid (Own C w w3 C mo (List.replicate S ⟨#[112]⟩) t) := HO.out.below hb3
              clear hb3 HO
              have hok : Qm.okN t (t : Int) = true := decide_eq_true (by omega)
              have HD := own_done (t : Int) HO4.out
              have e1 : Qm.doneL (List.replicate S (⟨#[112]⟩ : ByteArray)) t (t : Int) = List.replicate (S - t) ⟨#[112]⟩ := by unfold Qm.doneL; rw [hok]; simp
              have e2 : Qm.doneS t (t : Int) = 0 := by unfold Qm.doneS; rw [hok]; simp
              rw [e1, e2, hok] at HD
              clear e1 e2 hok HO4
              go_wp2_with fail
              refine HD.mono ?_
              rintro e w4 ⟨rfl, hO5⟩
              have HO5 : Hid (Own C w w4 C mo (List.replicate (S - t) ⟨#[112]⟩) 0) := hO5
              have HL := own_left hO5
              have e3 : (((List.replicate (S - t) (⟨#[112]⟩ : ByteArray)).length - 0 : Nat) : Int) = (S : Int) - (t : Int) := by simp; omega
              rw [e3] at HL
              clear hO5 HD e3
              go_wp2_with fail
              refine HL.mono ?_
              rintro e w5 ⟨rfl, hO6⟩
              have HO6 : Hid (Own C w w5 C mo (fill S (List.replicate (S - t) ⟨#[112]⟩) ⟨#[114]⟩ 0) 0) := by
                have e : fill S (List.replicate (S - t) ⟨#[112]⟩) ⟨#[114]⟩ 0 = List.replicate (S - t) ⟨#[112]⟩ := by simp [fill]
                rw [e]; exact hO6
              clear hO6 HL HO5
              go_wp2
              go_loopw [56] (fun c wr => ∃ u : Nat, u ≤ t + 1 ∧ c = .int .i64 u ∧ Hid (Own C w wr C mo (fill S (List.replicate (S - t) ⟨#[112]⟩) ⟨#[114]⟩ u) 0)) (fun c _ => t + 1 - (intOf c).toNat)
              case atStart => exact ⟨0, Nat.zero_le _, rfl, HO6⟩
              case round =>
                obtain ⟨u, hu, rfl, HO⟩ := hrel
                clear HO6
                by_cases hlt3 : u < t + 1
                · obtain ⟨f1, f2⟩ := HF.out (List.replicate (S - t) ⟨#[112]⟩) ⟨#[114]⟩ u (by decide) (by simp)
                  have HP := own_push ⟨#[114]⟩ HO.out (by decide)
                  rw [f1, f2] at HP
                  have e4 : S - (List.replicate (S - t) (⟨#[112]⟩ : ByteArray)).length = t := by simp; omega
                  rw [e4] at HP
                  clear f1 f2 e4 HO
                  by_cases hut : u < t
                  · rw [if_pos hut] at HP
                    go_wp2_with fail
                    refine HP.mono ?_
                    rintro e w2 ⟨rfl, hO2⟩
                    have HO2 : Hid (Own C w w2 C mo (fill S (List.replicate (S - t) ⟨#[112]⟩) ⟨#[114]⟩ (u + 1)) 0) := hO2
                    clear hO2 HP
                    go_wp2
                    go_roundw
                    case rel => exact ⟨u + 1, by omega, by go_num, HO2⟩
                    case measure => simp [intOf]; omega
                  · rw [if_neg hut] at HP
                    go_wp2_with fail
                    refine HP.mono ?_
                    rintro e w2 ⟨rfl, hO2⟩
                    have HO2 : Hid (Own C w w2 C mo (fill S (List.replicate (S - t) ⟨#[112]⟩) ⟨#[114]⟩ (u + 1)) 0) := hO2
                    clear hO2 HP
                    go_wp2
                    go_roundw
                    case rel => exact ⟨u + 1, by omega, by go_num, HO2⟩
                    case measure => simp [intOf]; omega
                · have hl : (fill S (List.replicate (S - t) (⟨#[112]⟩ : ByteArray)) ⟨#[114]⟩ u).length = S := fill_length _ _ _ _ (by simp) (by simp; omega)
                  go_wp2_with fail
                  refine (own_list HO.out).mono ?_
                  rintro e w6 ⟨v, rfl, hrow, _, hO7⟩
                  obtain ⟨la, lc, rfl⟩ := list_shape hrow
                  rw [hl]
                  have HE : Hid (Below w.heap.size w w6) := by have := hO7.bel; rw [HC.out] at this; exact this
                  clear hrow hO7 HO hl
                  go_wp2
                  go_ret
                  exact ⟨rfl, HE.out⟩
end Go.Proofs.Yteppelahpbgmjaa
