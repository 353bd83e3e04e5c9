/-
  The law DrawPlays' walk: every source tells the document's numbers, one by one.
-/
import Derived.Test.YtjhlmckghkjdmaaDrawRef
import Derived.Deep.CutBlock
import Derived.BigQuiet
namespace Go.Proofs.Ytjhlmckghkjdmaa
open Go.RowKit
set_option linter.unusedVariables false
set_option linter.unusedSimpArgs false

theorem ref_nth (s : Int) (F : List Int) (i : Nat) : (if min i F.length < (F.map Dm.md).length then (F.map Dm.md).getD (min i F.length) 0 else Dm.ot (Dm.st (Dm.sx s (i - F.length)))) = Dm.nth s F i := by
  unfold Dm.nth
  rw [List.length_map]
  by_cases h : i < F.length
  · rw [Nat.min_eq_left (by omega), if_pos h, if_pos h]
    simp [List.getD, List.getElem?_eq_getElem h]
  · rw [Nat.min_eq_right (by omega), if_neg (by omega), if_neg h]
    rfl
theorem ref_nX (s : Int) (F : List Int) (i : Nat) : Dm.nX ((F.map Dm.md).drop (min i F.length)) (Dm.sx s (i - F.length)) = Dm.sx s (i + 1 - F.length) := by
  by_cases h : i < F.length
  · rw [Nat.min_eq_left (by omega), Dm.drop_cons _ i (by rw [List.length_map]; exact h)]
    show Dm.sx s (i - F.length) = _
    rw [show i - F.length = 0 by omega, show i + 1 - F.length = 0 by omega]
  · rw [Nat.min_eq_right (by omega), List.drop_eq_nil_of_le (by rw [List.length_map]; exact Nat.le_refl _), show i + 1 - F.length = (i - F.length) + 1 by omega]
    rfl

/-- a source and the document's: the one behind i numbers, the other behind j -/
structure Both (b : Nat) (W0 w : World) (C R : Nat) (s : Int) (F : List Int) (i j : Nat) : Prop where
  at2 : ∃ G K, At w C G s F i ∧ Rs w R K (F.map Dm.md) (min j F.length) (Dm.sx s (j - F.length)) ∧ G ≠ some R ∧ K ≠ some C
  ne : C ≠ R
  bC : b ≤ C
  bR : b ≤ R
  fl : F.length ≤ 1000
  bel : Below b W0 w
section
variable {b : Nat} {W0 w : World} {C R : Nat} {s : Int} {F : List Int} {i j : Nat}
theorem Both.bs (h : Both b W0 w C R s F i j) : b ≤ w.heap.size := by
  obtain ⟨G, K, h1, h2, h3, h4⟩ := h.at2
  have := h1.src.lt
  have := h.bC
  omega
theorem Both.below {w' : World} (h : Both b W0 w C R s F i j) (hb : Below w.heap.size w w') : Both b W0 w' C R s F i j := by
  obtain ⟨G, K, h1, h2, h3, h4⟩ := h.at2
  exact ⟨⟨G, K, h1.below hb, h2.below hb, h3, h4⟩, h.ne, h.bC, h.bR, h.fl, h.bel.trans (hb.mono h.bs)⟩
theorem Both.next (h : Both b W0 w C R s F i j) : Calls Try.prog 11 #[.pointer (some ⟨C, 0, none⟩)] w fun e w' => e = .returned (.int .i64 (Dm.nth s F i)) ∧ Both b W0 w' C R s F (i + 1) j := by
  obtain ⟨G, K, h1, h2, h3, h4⟩ := h.at2
  refine h1.next.mono ?_
  rintro e w' ⟨rfl, h5, h6⟩
  exact ⟨rfl, ⟨⟨G, K, h5, h2.kept h6 (fun e => h.ne e.symm) (fun B hB e => h4 (by rw [hB, e])), h3, h4⟩, h.ne, h.bC, h.bR, h.fl, h.bel.trans (h6.below h.bs (fun k hk => by rw [hk]; exact h.bC))⟩⟩
theorem Both.rnext (h : Both b W0 w C R s F i j) : Calls Try.prog 12 #[.pointer (some ⟨R, 0, none⟩)] w fun e w' => e = .returned (.int .i64 (Dm.nth s F j)) ∧ Both b W0 w' C R s F i (j + 1) := by
  obtain ⟨G, K, h1, h2, h3, h4⟩ := h.at2
  have hfl := h.fl
  refine (rsnext_any R _ K _ _ w h2 (by rw [List.length_map]; omega)).mono ?_
  rintro e w' ⟨rfl, h5, h6⟩
  rw [ref_nth]
  rw [ref_nX, List.length_map, show min (min j F.length + 1) F.length = min (j + 1) F.length by omega] at h5
  exact ⟨rfl, ⟨⟨G, K, h1.kept h6 (fun e => h.ne e) (fun B hB e => h3 (by rw [hB, e])), h5, h3, h4⟩, h.ne, h.bC, h.bR, h.fl, h.bel.trans (h6.below h.bs (fun k hk => by rw [hk]; exact h.bR))⟩⟩
theorem Both.left (h : Both b W0 w C R s F i j) : Calls Try.prog 9 #[.pointer (some ⟨C, 0, none⟩)] w fun e w' => e = .returned (.int .i64 ((F.length - i : Nat) : Int)) ∧ w = w' := by
  obtain ⟨G, K, h1, h2, h3, h4⟩ := h.at2
  exact h1.left
theorem Both.rleft (h : Both b W0 w C R s F i j) : Calls Try.prog 10 #[.pointer (some ⟨R, 0, none⟩)] w fun e w' => e = .returned (.int .i64 ((F.length - j : Nat) : Int)) ∧ Both b W0 w' C R s F i j := by
  obtain ⟨G, K, h1, h2, h3, h4⟩ := h.at2
  have hfl := h.fl
  refine (rsleft_any R _ K _ _ w h2 (by rw [List.length_map]; omega)).mono ?_
  rintro e w' ⟨rfl, n, rfl⟩
  rw [List.length_map, show F.length - min j F.length = F.length - j by omega]
  exact ⟨rfl, h.below (drewN_blw (Below.refl _ _) n)⟩
end

set_option maxHeartbeats 4000000 in
set_option maxRecDepth 100000 in
theorem walk_DrawPlays (seed : Int) (a : Option Addr) (len cap : Nat) (xs : List Int) (n : Int) (w : World) (hs : 0 ≤ seed ∧ seed ≤ 18446744073709551615) (hr : Row .i64 w a len cap xs) (hn0 : -9223372036854775808 ≤ n ∧ n ≤ 9223372036854775807) :
    Calls Try.prog 3 #[.int .u64 seed, .slice a len cap, .int .i64 n] w fun e w' => e = .returned (.bool true) ∧ Below w.heap.size w w' := by
  obtain ⟨m, hm⟩ : ∃ m, m = min len 100 := ⟨_, rfl⟩
  have hm1 : m ≤ len := by omega
  have hm2 : m ≤ 100 := by omega
  have hmin : (if (100 : Int) < (len : Int) then (100 : Int) else (len : Int)) = (m : Int) := by split <;> omega
  have hlc := hr.2.1
  have hcm := hr.2.2.1
  unfold maxLen at hcm
  have HR : Hid (Row .i64 w a len cap xs) := hr
  have HR2 : Hid (Row .i64 w a m cap (xs.take m)) := hr.cut m hm1
  clear hm hr
  go_enter Try.func3, Try.ntmps3
  go_upto_region 1 with fail
  go_cut [1] from 9 to 13 (fun s1 wx => s1 = .slice a m cap ∧ w = wx)
  case first =>
    rcases HR.out.2.2.2.2 with ⟨rfl, h0, h1⟩ | ⟨⟨x, rfl⟩, h0⟩ | ⟨b, off, rfl, h0, _⟩
    · subst h0 h1
      have hm0 : m = 0 := by omega
      subst hm0
      clear hmin
      go_wp2_with fail
      all_goals
        go_meet
        exact ⟨rfl, rfl⟩
    · subst h0
      have hm0 : m = 0 := by omega
      subst hm0
      clear hmin
      go_wp2_with fail
      all_goals
        go_meet
        exact ⟨rfl, rfl⟩
    · go_wp2_with fail
      all_goals
        go_meet
        exact ⟨rfl, rfl⟩
  case rest =>
    obtain ⟨rfl, rfl⟩ := hcut
    obtain ⟨F, hF⟩ : ∃ F, F = xs.take m := ⟨_, rfl⟩
    rw [← hF] at HR2
    have hFm : m = F.length := HR2.out.1.symm
    obtain ⟨G0, hl, hnone, hwf, _⟩ := row_lies HR2.out
    have HN := dnew_any seed a cap G0 F w hl hnone (by omega) hwf hs.1 (by omega)
    rw [← hFm] at HN
    have HS : Hid (0 ≤ seed ∧ seed < 18446744073709551616) := ⟨hs.1, by omega⟩
    have HFm : Hid (m = F.length) := hFm
    clear hF hFm hl hnone hwf HR hmin hs
    go_wp2_with fail
    refine HN.mono ?_
    rintro e w1 ⟨C, G, rfl, h1, h2, h3, h4⟩
    have HA : Hid (At w1 C G seed F 0 ∧ Below w.heap.size w w1 ∧ w.heap.size ≤ C ∧ ∀ B, G = some B → B < w1.heap.size) := ⟨At.of h1, h2, h3, fun B hB => (h4 B hB).2⟩
    have HN2 := rsnew_any seed a m cap F w1 (HR2.out.later h2) (by omega) HS.out.1 HS.out.2
    clear h1 h2 h3 h4 HN
    go_wp2_with fail
    refine HN2.mono ?_
    rintro e w2 ⟨R, K, rfl, h1, h2, h3, h4⟩
    have HP : Hid (Both w.heap.size w w2 C R seed F 0 0) := by
      have hl := HA.out.1.src.lt
      have hb := HA.out.2.1.size
      refine ⟨⟨G, K, HA.out.1.below h2, ?_, fun e => ?_, fun e => ?_⟩, by omega, HA.out.2.2.1, by omega, by rw [← HFm.out]; omega, HA.out.2.1.trans (h2.mono hb)⟩
      · rw [Nat.zero_min, Nat.zero_sub]
        exact h1
      · have := HA.out.2.2.2 R e; omega
      · have := (h4 C e).1; omega
    clear h1 h2 h3 h4 HN2 HA
    go_wp2_with fail
    refine (dwakes_any _).mono ?_
    rintro e w3 ⟨rfl, hb3⟩
    have HP3 : Hid (Both w.heap.size w w3 C R seed F 0 0) := HP.out.below hb3
    clear hb3 HP
    go_upto_region 5 with fail
    go_cut [24, 25] from 22 to 23 (fun s24 s25 wx => ∃ k : Nat, k ≤ 299 ∧ s24 = .int .i64 k ∧ s25 = .int .i64 0 ∧ w3 = wx)
    case first =>
      by_cases hneg : n ≤ 0
      · go_wp2_with fail
        go_meet
        exact ⟨0, by omega, rfl, rfl, rfl⟩
      · have hpos : 0 < n := by omega
        have h1 : 0 ≤ n % 300 := Int.emod_nonneg _ (by omega)
        have h2 : n % 300 < 300 := Int.emod_lt_of_pos _ (by omega)
        have HX : Hid (∃ k : Nat, k ≤ 299 ∧ n % 300 = (k : Int)) := ⟨(n % 300).toNat, by omega, by omega⟩
        clear h1 h2
        go_wp2_with fail
        go_meet
        obtain ⟨k, hk, hke⟩ := HX.out
        exact ⟨k, hk, by rw [hke], rfl, rfl⟩
    case rest =>
      obtain ⟨k, hk, rfl, rfl, rfl⟩ := hcut
      clear hn0
      go_wp2
      go_loopw [25] (fun c wr => ∃ t : Nat, t ≤ k ∧ c = .int .i64 t ∧ Hid (Both w.heap.size w wr C R seed F t t)) (fun c _ => k - (intOf c).toNat)
      case atStart => exact ⟨0, Nat.zero_le _, rfl, HP3⟩
      case round =>
        obtain ⟨t, htk, rfl, HQ⟩ := hrel
        clear HP3
        by_cases hlt2 : t < k
        · have HX := HQ.out.left
          obtain ⟨d, hd⟩ : ∃ d : Nat, d = F.length - t := ⟨_, rfl⟩
          have HD : Hid (F.length - t = d) := hd.symm
          have hdm : d ≤ 100 := by rw [hd, ← HFm.out]; omega
          rw [← hd] at HX
          clear hd
          go_wp2_with fail
          refine HX.mono ?_
          rintro e w4 ⟨rfl, rfl⟩
          have HY := HQ.out.rleft
          rw [HD.out] at HY
          clear HX HQ
          go_wp2_with fail
          refine HY.mono ?_
          rintro e w5 ⟨rfl, h5⟩
          have HZ := h5.next
          obtain ⟨v, hv⟩ : ∃ v, v = Dm.nth seed F t := ⟨_, rfl⟩
          have HV : Hid (Dm.nth seed F t = v) := hv.symm
          rw [← hv] at HZ
          clear HY h5 hv
          go_wp2_with fail
          refine HZ.mono ?_
          rintro e w6 ⟨rfl, h6⟩
          have HU := h6.rnext
          rw [HV.out] at HU
          clear HZ h6
          go_wp2_with fail
          refine HU.mono ?_
          rintro e w7 ⟨rfl, h7⟩
          have HP : Hid (Both w.heap.size w w7 C R seed F (t + 1) (t + 1)) := h7
          clear HU h7
          go_wp2
          go_roundw
          case rel => exact ⟨t + 1, by omega, by go_num, HP⟩
          case measure => simp [intOf]; omega
        · have HX := HQ.out.left
          obtain ⟨d, hd⟩ : ∃ d : Nat, d = F.length - t := ⟨_, rfl⟩
          have HD : Hid (F.length - t = d) := hd.symm
          have hdm : d ≤ 100 := by rw [hd, ← HFm.out]; omega
          rw [← hd] at HX
          clear hd
          go_wp2_with fail
          refine HX.mono ?_
          rintro e w4 ⟨rfl, rfl⟩
          have HY := HQ.out.rleft
          rw [HD.out] at HY
          clear HX HQ
          go_wp2_with fail
          refine HY.mono ?_
          rintro e w5 ⟨rfl, h5⟩
          have HE : Hid (Below w.heap.size w w5) := h5.bel
          clear HY h5
          go_wp2
          go_ret
          exact ⟨rfl, HE.out⟩
end Go.Proofs.Ytjhlmckghkjdmaa
