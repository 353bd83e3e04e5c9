/-
  The law DrawTold's walk: the first numbers are told as they are, modulo 65536, and then just what a source without them would tell.
-/
import Derived.Test.YtjhlmckghkjdmaaDrawPair
import Derived.Deep.CutBlock
import Derived.BigQuiet
namespace Go.Proofs.Ytjhlmckghkjdmaa
open Go.RowKit
set_option linter.unusedVariables false
set_option linter.unusedSimpArgs false

set_option maxHeartbeats 4000000 in
set_option maxRecDepth 100000 in
theorem walk_DrawTold (seed : Int) (a : Option Addr) (len cap : Nat) (xs : List Int) (n : Int) (w : World) (hs : 0 ≤ seed ∧ seed ≤ 18446744073709551615) (hr : Row .i64 w a len cap xs) (hn0 : -9223372036854775808 ≤ n ∧ n ≤ 9223372036854775807) :
    Calls Try.prog 5 #[.int .u64 seed, .slice a len cap, .int .i64 n] w fun e w' => e = .returned (.bool true) ∧ Below w.heap.size w w' := by
  obtain ⟨m, hm⟩ : ∃ m, m = min len 50 := ⟨_, rfl⟩
  have hm1 : m ≤ len := by omega
  have hm2 : m ≤ 50 := by omega
  have hmin : (if (50 : Int) < (len : Int) then (50 : Int) else (len : Int)) = (m : Int) := by split <;> omega
  have hlc := hr.2.1
  have hcm := hr.2.2.1
  unfold maxLen at hcm
  have HR : Hid (Row .i64 w a len cap xs) := hr
  have HR2 : Hid (Row .i64 w a m cap (xs.take m)) := hr.cut m hm1
  clear hm hr
  go_enter Try.func5, Try.ntmps5
  go_upto_region 1 with fail
  go_cut [1] from 12 to 16 (fun s1 wx => s1 = .slice a m cap ∧ w = wx)
  case first =>
    rcases HR.out.2.2.2.2 with ⟨rfl, h0, h1⟩ | ⟨⟨x, rfl⟩, h0⟩ | ⟨b, off, rfl, h0, _⟩
    · subst h0 h1
      have hm0 : m = 0 := by omega
      subst hm0
      clear hmin
      go_wp2_with fail
      all_goals
        go_meet
        exact ⟨rfl, rfl⟩
    · subst h0
      have hm0 : m = 0 := by omega
      subst hm0
      clear hmin
      go_wp2_with fail
      all_goals
        go_meet
        exact ⟨rfl, rfl⟩
    · go_wp2_with fail
      all_goals
        go_meet
        exact ⟨rfl, rfl⟩
  case rest =>
    obtain ⟨rfl, rfl⟩ := hcut
    obtain ⟨F, hF⟩ : ∃ F, F = xs.take m := ⟨_, rfl⟩
    rw [← hF] at HR2
    have hFm : m = F.length := HR2.out.1.symm
    obtain ⟨G0, hl, hnone, hwf, _⟩ := row_lies HR2.out
    have HN := dnew_any seed a cap G0 F w hl hnone (by omega) hwf hs.1 (by omega)
    rw [← hFm] at HN
    have HS : Hid (0 ≤ seed ∧ seed < 18446744073709551616) := ⟨hs.1, by omega⟩
    have HW : Hid (∀ n ∈ F, In64 n) := hwf
    have HFm : Hid (m = F.length) := hFm
    clear hF hFm hl hnone hwf HR hmin hs
    go_wp2_with fail
    refine HN.mono ?_
    rintro e w1 ⟨C, G, rfl, h1, h2, h3, h4⟩
    have HA : Hid (At w1 C G seed F 0 ∧ Below w.heap.size w w1 ∧ w.heap.size ≤ C ∧ ∀ B, G = some B → B < w1.heap.size) := ⟨At.of h1, h2, h3, fun B hB => (h4 B hB).2⟩
    clear h1 h2 h3 h4 HN
    have HN2 := dnew_any seed none 0 none [] w1 (Or.inl rfl) (fun _ => ⟨rfl, rfl⟩) (by simp) (by simp) HS.out.1 HS.out.2
    rw [show ([] : List Int).length = 0 from rfl] at HN2
    go_wp2_with fail
    refine HN2.mono ?_
    rintro e w2 ⟨D, K, rfl, h1, h2, h3, h4⟩
    have HP : Hid (Pair w.heap.size w w2 C D seed F 0 seed [] 0) := pair_of HA.out.1 h1 HA.out.2.1 h2 HA.out.2.2.1 HA.out.2.2.2 h3 (fun B hB => (h4 B hB).1)
    clear h1 h2 h3 h4 HN2 HA
    go_wp2
    go_loopw [24] (fun c wr => ∃ i : Nat, i ≤ m ∧ c = .int .i64 i ∧ Hid (Pair w.heap.size w wr C D seed F i seed [] 0)) (fun c _ => m - (intOf c).toNat)
    case atStart => exact ⟨0, Nat.zero_le _, rfl, HP⟩
    case round =>
      obtain ⟨i, hi, rfl, HO⟩ := hrel
      clear HP
      by_cases hlt : i < m
      · rcases HR2.out.2.2.2.2 with ⟨_, h0, _⟩ | ⟨_, h0⟩ | ⟨b, off, rfl, h0, hbl, hbc⟩
        · omega
        · omega
        have hcell := (HO.out.bel.cell (p := ⟨b, off + i, none⟩) hbl).trans (hbc i hlt)
        have hbl2 : b < wr.heap.size := Nat.lt_of_lt_of_le hbl HO.out.bel.size
        obtain ⟨v, hv⟩ : ∃ v, v = F.getD i 0 := ⟨_, rfl⟩
        rw [← hv] at hcell
        have hlo := Dm.tmod_lo v
        have hhi := Dm.tmod_hi v
        have hvw : -9223372036854775808 ≤ v ∧ v ≤ 9223372036854775807 := HW.out v (by
          rw [hv]
          have h5 : i < F.length := by rw [← HFm.out]; exact hlt
          simp [List.getD, List.getElem?_eq_getElem h5])
        have HL := HO.out.left
        rw [← HFm.out, Int.ofNat_sub hi] at HL
        have HX := HO.out.first
        have hnt : Dm.nth seed F i = (v.tmod 65536 + 65536) % 65536 := by
          unfold Dm.nth
          rw [if_pos (by rw [← HFm.out]; exact hlt), Dm.modulo, hv]
        rw [hnt] at HX
        clear hbl hbc hv hnt HO
        go_wp2_with fail
        refine HL.mono ?_
        rintro e w3 ⟨rfl, rfl⟩
        go_wp2_with fail
        refine HX.mono ?_
        rintro e w4 ⟨rfl, hP, _⟩
        have HP : Hid (Pair w.heap.size w w4 C D seed F (i + 1) seed [] 0) := hP
        clear HL HX hP hcell
        go_wp2
        go_roundw
        case rel => exact ⟨i + 1, by omega, by go_num, HP⟩
        case measure => simp [intOf]; omega
      · have hie : i = m := by omega
        subst hie
        clear hi
        go_upto_region 9 with fail
        go_cut [48, 49] from 46 to 47 (fun s48 s49 wx => ∃ k : Nat, k ≤ 99 ∧ s48 = .int .i64 k ∧ s49 = .int .i64 0 ∧ wr = wx)
        case first =>
          by_cases hneg : n ≤ 0
          · go_wp2_with fail
            go_meet
            exact ⟨0, by omega, rfl, rfl, rfl⟩
          · have hpos : 0 < n := by omega
            have h1 : 0 ≤ n % 100 := Int.emod_nonneg _ (by omega)
            have h2 : n % 100 < 100 := Int.emod_lt_of_pos _ (by omega)
            have HX : Hid (∃ k : Nat, k ≤ 99 ∧ n % 100 = (k : Int)) := ⟨(n % 100).toNat, by omega, by omega⟩
            clear h1 h2
            go_wp2_with fail
            go_meet
            obtain ⟨k, hk, hke⟩ := HX.out
            exact ⟨k, hk, by rw [hke], rfl, rfl⟩
        case rest =>
          obtain ⟨k, hk, rfl, rfl, rfl⟩ := hcut
          clear hn0
          go_wp2
          go_loopw [49] (fun c wr => ∃ t : Nat, t ≤ k ∧ c = .int .i64 t ∧ Hid (Pair w.heap.size w wr C D seed F (i + t) seed [] t)) (fun c _ => k - (intOf c).toNat)
          case atStart => exact ⟨0, Nat.zero_le _, rfl, HO⟩
          case round =>
            obtain ⟨t, htk, rfl, HQ⟩ := hrel
            clear HO
            by_cases hlt2 : t < k
            · have HX := HQ.out.first
              have e1 : Dm.nth seed F (i + t) = Dm.nth seed [] t := by rw [HFm.out]; exact Dm.nth_none seed F t
              rw [e1] at HX
              have q1 := Dm.nth_lo seed [] t
              have q2 := Dm.nth_hi seed [] t
              obtain ⟨v, hv⟩ : ∃ v, v = Dm.nth seed [] t := ⟨_, rfl⟩
              have HV : Hid (Dm.nth seed [] t = v) := hv.symm
              rw [← hv] at q1 q2 HX
              clear hv e1 HQ
              go_wp2_with fail
              refine HX.mono ?_
              rintro e w5 ⟨rfl, hP, _⟩
              have HY := hP.second
              rw [HV.out] at HY
              clear HX hP
              go_wp2_with fail
              refine HY.mono ?_
              rintro e w6 ⟨rfl, hP, _⟩
              have HP : Hid (Pair w.heap.size w w6 C D seed F (i + (t + 1)) seed [] (t + 1)) := hP
              clear HY hP
              go_wp2
              go_roundw
              case rel => exact ⟨t + 1, by omega, by go_num, HP⟩
              case measure => simp [intOf]; omega
            · go_wp2_with fail
              refine (dwakes_any _).mono ?_
              rintro e w7 ⟨rfl, hb⟩
              have HE : Hid (Below w.heap.size w w7) := (HQ.out.below hb).bel
              clear hb HQ
              go_wp2
              go_ret
              exact ⟨rfl, HE.out⟩
end Go.Proofs.Ytjhlmckghkjdmaa
