/-
  The law DrawApart's walk: a source is nobody else's.
-/
import Derived.Test.YtjhlmckghkjdmaaDrawPair
import Derived.Test.YtjhlmckghkjdmaaDrawTwist
import Derived.Deep.CutBlock
import Derived.BigQuiet
namespace Go.Proofs.Ytjhlmckghkjdmaa
open Go.RowKit
set_option linter.unusedVariables false
set_option linter.unusedSimpArgs false

theorem IRow.none {w : World} {a : Option Addr} {cap : Nat} {G : Option Nat} {L : List Int} (h : IRow w a cap G L) : a = none → L = [] ∧ cap = 0 := by
  intro e
  rcases h.row with ⟨_, _, h3⟩ | ⟨g, h1, _⟩
  · exact ⟨List.eq_nil_of_length_eq_zero (by have := h.le; omega), h3⟩
  · rw [h1] at e; cases e

/-- two sources and a row, in blocks of their own -/
structure Three (b N : Nat) (W0 w : World) (C D : Nat) (G K : Option Nat) (fa : Option Addr) (fc : Nat) (Gf : Option Nat) (s : Int) (F : List Int) (j : Nat) (E : List Int) : Prop where
  a : At w C G s F 0
  d : At w D K s F j
  r : IRow w fa fc Gf E
  bel : Below b W0 w
  nw : N ≤ w.heap.size

set_option maxHeartbeats 4000000 in
set_option maxRecDepth 100000 in
theorem walk_DrawApart (seed : Int) (a : Option Addr) (len cap : Nat) (xs : List Int) (n : Int) (w : World) (hs : 0 ≤ seed ∧ seed ≤ 18446744073709551615) (hr : Row .i64 w a len cap xs) (hn0 : -9223372036854775808 ≤ n ∧ n ≤ 9223372036854775807) :
    Calls Try.prog 4 #[.int .u64 seed, .slice a len cap, .int .i64 n] w fun e w' => e = .returned (.bool true) ∧ Below w.heap.size w w' := by
  obtain ⟨i0, hi, hz0, hz1, hz2⟩ := info_parts int_info
  obtain ⟨m, hm⟩ : ∃ m, m = min len 50 := ⟨_, rfl⟩
  have hm1 : m ≤ len := by omega
  have hm2 : m ≤ 50 := by omega
  have hmin : (if (50 : Int) < (len : Int) then (50 : Int) else (len : Int)) = (m : Int) := by split <;> omega
  have hlc := hr.2.1
  have hcm := hr.2.2.1
  unfold maxLen at hcm
  have HR : Hid (Row .i64 w a len cap xs) := hr
  have HR2 : Hid (Row .i64 w a m cap (xs.take m)) := hr.cut m hm1
  obtain ⟨F, hF⟩ : ∃ F, F = xs.take m := ⟨_, rfl⟩
  rw [← hF] at HR2
  have hFm : m = F.length := HR2.out.1.symm
  obtain ⟨G0, hl, _, hwf, _⟩ := row_lies HR2.out
  have HL0 : Hid (Lies w a G0 F) := hl
  have HFm : Hid (m = F.length) := hFm
  have HW : Hid (∀ n ∈ F, In64 n) := hwf
  have HS : Hid (0 ≤ seed ∧ seed < 18446744073709551616) := ⟨hs.1, by omega⟩
  have HLn : Hid ((F.map (Value.int .i64)).length = m * 1) := by show _ = _; rw [List.length_map, hFm, Nat.mul_one]
  have HO : Hid (∀ u ∈ F.map (Value.int .i64), u.oneCell' = true) := ints_one F
  clear hm hr hF hFm hl hwf hs
  go_enter Try.func4, Try.ntmps4
  go_upto_region 1 with fail
  go_cut [1] from 15 to 20 (fun s1 wx => ∃ fa fc Gf, s1 = .slice fa m fc ∧ Hid (IRow wx fa fc Gf F) ∧ Hid (Below w.heap.size w wx) ∧ Hid (∀ B, Gf = some B → w.heap.size ≤ B))
  case first =>
    cases a with
    | none =>
      have h0 : len = 0 ∧ cap = 0 := by
        rcases HR.out.2.2.2.2 with ⟨_, h0, h1⟩ | ⟨⟨x, h⟩, _⟩ | ⟨b, off, h, _⟩
        · exact ⟨h0, h1⟩
        · cases h
        · cases h
      obtain ⟨rfl, rfl⟩ := h0
      have hm0 : m = 0 := by omega
      subst hm0
      have HF0 : Hid (F = []) := List.eq_nil_of_length_eq_zero HFm.out.symm
      clear hmin
      go_wp2_with fail
      go_meet
      exact ⟨none, 0, none, rfl, by rw [HF0.out]; exact irow_nil w, Below.refl _ _, fun B hB => by cases hB⟩
    | some p =>
      have HC : Hid (∀ (j : Nat) (u : Value), (F.map (Value.int .i64))[j]? = some u → w.cell? (p.add j) = some u) := by
        intro j u hj
        obtain ⟨h3, rfl⟩ := ints_at F j u hj
        rcases HL0.out with rfl | ⟨g, off, e, _, hlt, hc⟩
        · simp at h3
        · injection e with e
          subst e
          rw [Addr.add_lit]
          exact hc j h3
      rcases HR.out.2.2.2.2 with ⟨h, _, _⟩ | ⟨⟨x, h⟩, h0⟩ | ⟨b, off, h, h0, _⟩
      · cases h
      · subst h0
        have hm0 : m = 0 := by omega
        subst hm0
        clear hmin h
        go_wp2_with (at_builtin; refine wpList_append_own _ rfl _ _ 23 rfl w.heap.size 3 i0 (.int .i64 0) 1 8 Try.underlying23 hi hz0 hz1 hz2 rfl (by decide) _ _ _ rfl (World.ownsRow_nil _ _ _ _) _ 0 cap (F.map (Value.int .i64)) rfl HLn.out HC.out HO.out ?qc4 ?qc5 ?qc6 ?_)
        case qc4 => unfold maxLen; omega
        case qc5 => omega
        case qc6 => exact Nat.le_refl _
        ·
          intro v' w1 hown hgrow hnil
          have HX : Hid (∃ fa fc Gf, v' = .slice fa 0 fc ∧ Hid (IRow w1 fa fc Gf F) ∧ Hid (Below w.heap.size w w1) ∧ Hid (∀ B, Gf = some B → w.heap.size ≤ B)) := by
            have hown' : w1.ownsRow w.heap.size 3 1 v' F.length (F.map (Value.int .i64)) := by
              rw [← HFm.out]
              simpa using hown
            obtain ⟨fa, fc, Gf, h1, h2, h3⟩ := own_irow rfl hown'
            refine ⟨fa, fc, Gf, by rw [HFm.out]; exact h1, h2, ?_, fun B hB => (h3 B hB).1⟩
            exact (Below.refl _ w).grown hgrow (Nat.le_refl _) (by intro k hk; simp [Value.ownBlock] at hk)
          clear hown hgrow hnil HC HLn HO
          go_wp2_with fail
          go_meet
          exact HX.out
      · injection h with h
        subst h
        go_wp2_with (at_builtin; refine wpList_append_own _ rfl _ _ 23 rfl w.heap.size 3 i0 (.int .i64 0) 1 8 Try.underlying23 hi hz0 hz1 hz2 rfl (by decide) _ _ _ rfl (World.ownsRow_nil _ _ _ _) _ m cap (F.map (Value.int .i64)) rfl HLn.out HC.out HO.out ?qc4 ?qc5 ?qc6 ?_)
        case qc4 => unfold maxLen; omega
        case qc5 => omega
        case qc6 => exact Nat.le_refl _
        ·
          intro v' w1 hown hgrow hnil
          have HX : Hid (∃ fa fc Gf, v' = .slice fa m fc ∧ Hid (IRow w1 fa fc Gf F) ∧ Hid (Below w.heap.size w w1) ∧ Hid (∀ B, Gf = some B → w.heap.size ≤ B)) := by
            have hown' : w1.ownsRow w.heap.size 3 1 v' F.length (F.map (Value.int .i64)) := by
              rw [← HFm.out]
              simpa using hown
            obtain ⟨fa, fc, Gf, h1, h2, h3⟩ := own_irow rfl hown'
            refine ⟨fa, fc, Gf, by rw [HFm.out]; exact h1, h2, ?_, fun B hB => (h3 B hB).1⟩
            exact (Below.refl _ w).grown hgrow (Nat.le_refl _) (by intro k hk; simp [Value.ownBlock] at hk)
          clear hown hgrow hnil HC HLn HO
          go_wp2_with fail
          go_meet
          exact HX.out
  case rest =>
    obtain ⟨fa, fc, Gf, rfl, HI, HB, HG⟩ := hcut
    have hfc1 : m ≤ fc := by rw [HFm.out]; exact HI.out.le
    have hfc2 := HI.out.mx
    unfold maxLen at hfc2
    have HN := dnew_any seed fa fc Gf F wc HI.out.lies HI.out.none (by rw [← HFm.out]; omega) HW.out HS.out.1 HS.out.2
    rw [← HFm.out] at HN
    clear hmin hi hz0 hz1 hz2 HR HR2 HL0 HLn HO hlc hcm hm1
    go_wp2_with fail
    refine HN.mono ?_
    rintro e w1 ⟨C, G, rfl, h1, h2, h3, h4⟩
    have HA : Hid (At w1 C G seed F 0 ∧ Below wc.heap.size wc w1 ∧ wc.heap.size ≤ C ∧ ∀ B, G = some B → wc.heap.size ≤ B ∧ B < w1.heap.size) := ⟨At.of h1, h2, h3, h4⟩
    have HI1 : Hid (IRow w1 fa fc Gf F) := HI.out.below h2
    clear h1 h2 h3 h4 HN
    have HN2 := dnew_any seed fa fc Gf F w1 HI1.out.lies HI1.out.none (by rw [← HFm.out]; omega) HW.out HS.out.1 HS.out.2
    rw [← HFm.out] at HN2
    go_wp2_with fail
    refine HN2.mono ?_
    rintro e w2 ⟨D, K, rfl, h1, h2, h3, h4⟩
    have HNE : Hid ((∀ B, Gf = some B → B ≠ C ∧ B ≠ D ∧ G ≠ some B ∧ K ≠ some B ∧ w.heap.size ≤ B) ∧ C ≠ D ∧ G ≠ some D ∧ K ≠ some C ∧ w.heap.size ≤ C ∧ w.heap.size ≤ D ∧ ∀ B, G = some B → B < w2.heap.size) := by
      have q1 := HA.out.1.src.lt
      have q2 := HA.out.2.1.size
      have q3 := HA.out.2.2.1
      have q4 := HB.out.size
      have q5 := h2.size
      refine ⟨fun B hB => ?_, by omega, fun e => ?_, fun e => ?_, by omega, by omega, fun B hB => ?_⟩
      · have q6 := HI.out.lt hB
        refine ⟨by omega, by omega, fun e => ?_, fun e => ?_, HG.out B hB⟩
        · have := (HA.out.2.2.2 B e).1; omega
        · have := (h4 B e).1; omega
      · have := (HA.out.2.2.2 D e).2; omega
      · have := (h4 C e).1; omega
      · have := (HA.out.2.2.2 B hB).2; omega
    have HP : Hid (Three w.heap.size w2.heap.size w w2 C D G K fa fc Gf seed F 0 (tws F 0)) := by
      rw [tws_zero]
      exact ⟨HA.out.1.below h2, At.of h1, HI1.out.below h2, (HB.out.trans (HA.out.2.1.mono HB.out.size)).trans (h2.mono (Nat.le_trans HB.out.size HA.out.2.1.size)), Nat.le_refl _⟩
    clear h1 h2 h3 h4 HN2 HA HI HB HG HI1
    obtain ⟨N, hN⟩ : ∃ N, N = w2.heap.size := ⟨_, rfl⟩
    rw [← hN] at HP HNE
    clear hN
    go_wp2
    go_loopw [29] (fun c wr => ∃ i : Nat, i ≤ m ∧ c = .int .i64 i ∧ Hid (Three w.heap.size N w wr C D G K fa fc Gf seed F 0 (tws F i))) (fun c _ => m - (intOf c).toNat)
    case atStart => exact ⟨0, Nat.zero_le _, rfl, HP⟩
    case round =>
      obtain ⟨i, hi, rfl, HO⟩ := hrel
      clear HP
      by_cases hlt : i < m
      · have hiF : i < F.length := by rw [← HFm.out]; exact hlt
        obtain ⟨g, rfl, rfl, hg, hcell, hfz⟩ := HO.out.r.nth i (by rw [tws_length]; exact hiF)
        rw [tws_get F i hiF] at hcell
        obtain ⟨v, hv⟩ : ∃ v, v = F.getD i 0 := ⟨_, rfl⟩
        rw [← hv] at hcell
        have hvw : -9223372036854775808 ≤ v ∧ v ≤ 9223372036854775807 := HW.out v (by
          rw [hv]
          simp [List.getD, List.getElem?_eq_getElem hiF])
        have HM : Hid (Three w.heap.size N w (wr.setCell ⟨g, i, none⟩ (.int .i64 (Dm.tw v))) C D G K (some ⟨g, 0, none⟩) fc (some g) seed F 0 (tws F (i + 1))) := by
          obtain ⟨q1, q2⟩ := HO.out.r.set i (by rw [tws_length]; exact hiF) (Dm.tw v)
          obtain ⟨n1, n2, n3, n4, n5⟩ := HNE.out.1 g rfl
          rw [hv, tws_step F i hiF] at q1
          rw [hv] at q2 ⊢
          exact ⟨HO.out.a.kept q2 (fun e => n1 e.symm) (fun B hB e => n3 (by rw [hB, e])), HO.out.d.kept q2 (fun e => n2 e.symm) (fun B hB e => n4 (by rw [hB, e])), q1, HO.out.bel.trans (q2.below HO.out.bel.size (fun k hk => by rw [hk]; exact n5)), Nat.le_trans HO.out.nw q2.size⟩
        rw [← xor_tw v hvw] at HM
        clear hv HO hiF
        go_wp2
        go_roundw
        case rel => exact ⟨i + 1, by omega, by go_num, HM⟩
        case measure => simp [intOf]; omega
      · have hie : m = i := by omega
        subst hie
        have HO1 : Hid (Three w.heap.size N w wr C D G K fa fc Gf seed F 0 (F.map Dm.tw)) := by
          have := HO.out
          rw [tws_all F m (by rw [← HFm.out]; omega)] at this
          exact this
        clear hi HO
        go_upto_region 9 with fail
        go_cut [41, 42] from 39 to 40 (fun s41 s42 wx => ∃ k : Nat, k ≤ 99 ∧ s41 = .int .i64 k ∧ s42 = .int .i64 0 ∧ wr = wx)
        case first =>
          by_cases hneg : n ≤ 0
          · go_wp2_with fail
            go_meet
            exact ⟨0, by omega, rfl, rfl, rfl⟩
          · have hpos : 0 < n := by omega
            have h1 : 0 ≤ n % 100 := Int.emod_nonneg _ (by omega)
            have h2 : n % 100 < 100 := Int.emod_lt_of_pos _ (by omega)
            have HX : Hid (∃ k : Nat, k ≤ 99 ∧ n % 100 = (k : Int)) := ⟨(n % 100).toNat, by omega, by omega⟩
            clear h1 h2
            go_wp2_with fail
            go_meet
            obtain ⟨k, hk, hke⟩ := HX.out
            exact ⟨k, hk, by rw [hke], rfl, rfl⟩
        case rest =>
          obtain ⟨k, hk, rfl, rfl, rfl⟩ := hcut
          go_wp2
          go_loopw [42] (fun c wr => ∃ t : Nat, t ≤ k ∧ c = .int .i64 t ∧ Hid (Three w.heap.size N w wr C D G K fa fc Gf seed F t (F.map Dm.tw))) (fun c _ => k - (intOf c).toNat)
          case atStart => exact ⟨0, Nat.zero_le _, rfl, HO1⟩
          case round =>
            obtain ⟨t, htk, rfl, HQ⟩ := hrel
            clear HO1
            by_cases hlt2 : t < k
            · have HX := HQ.out.d.next
              go_wp2_with fail
              refine HX.mono ?_
              rintro e w3 ⟨rfl, h5, h6⟩
              have HP : Hid (Three w.heap.size N w w3 C D G K fa fc Gf seed F (t + 1) (F.map Dm.tw)) := by
                obtain ⟨n1, n2, n3, n4, n5, n6, n7⟩ := HNE.out
                exact ⟨HQ.out.a.kept h6 (fun e => n2 e) (fun B hB e => n3 (by rw [hB, e])), h5, HQ.out.r.kept h6 (fun B hB e => (n1 B hB).2.1 e), HQ.out.bel.trans (h6.below HQ.out.bel.size (fun k hk => by rw [hk]; exact n6)), Nat.le_trans HQ.out.nw h6.size⟩
              clear HX h5 h6 HQ
              go_wp2
              go_roundw
              case rel => exact ⟨t + 1, by omega, by go_num, HP⟩
              case measure => simp [intOf]; omega
            · have hFl : Hid ((F.map Dm.tw).length = m) := by show _ = _; rw [List.length_map, HFm.out]
              have HN3 := dnew_any seed fa fc Gf (F.map Dm.tw) wr HQ.out.r.lies HQ.out.r.none (by rw [hFl.out]; omega) (tw_in F HW.out) HS.out.1 HS.out.2
              rw [hFl.out] at HN3
              go_wp2_with fail
              refine HN3.mono ?_
              rintro e w4 ⟨E, KE, rfl, h1, h2, h3, h4⟩
              have HP : Hid (Pair w.heap.size w w4 C E seed F 0 seed (F.map Dm.tw) 0) := pair_of HQ.out.a h1 HQ.out.bel h2 HNE.out.2.2.2.2.1 (fun B hB => Nat.lt_of_lt_of_le (HNE.out.2.2.2.2.2.2 B hB) HQ.out.nw) h3 (fun B hB => (h4 B hB).1)
              clear h1 h2 h3 h4 HN3 HQ hFl
              go_upto_region 14 with fail
              go_cut [52, 53] from 50 to 51 (fun s52 s53 wx => ∃ k : Nat, k ≤ 99 ∧ s52 = .int .i64 k ∧ s53 = .int .i64 0 ∧ w4 = wx)
              case first =>
                by_cases hneg : n ≤ 0
                · go_wp2_with fail
                  go_meet
                  exact ⟨0, by omega, rfl, rfl, rfl⟩
                · have hpos : 0 < n := by omega
                  have h1 : 0 ≤ n % 100 := Int.emod_nonneg _ (by omega)
                  have h2 : n % 100 < 100 := Int.emod_lt_of_pos _ (by omega)
                  have HX : Hid (∃ k : Nat, k ≤ 99 ∧ n % 100 = (k : Int)) := ⟨(n % 100).toNat, by omega, by omega⟩
                  clear h1 h2
                  go_wp2_with fail
                  go_meet
                  obtain ⟨k, hk, hke⟩ := HX.out
                  exact ⟨k, hk, by rw [hke], rfl, rfl⟩
              case rest =>
                obtain ⟨q, hq, rfl, rfl, rfl⟩ := hcut
                clear hn0
                go_wp2
                go_loopw [53] (fun c wr => ∃ t : Nat, t ≤ q ∧ c = .int .i64 t ∧ Hid (Pair w.heap.size w wr C E seed F t seed (F.map Dm.tw) t)) (fun c _ => q - (intOf c).toNat)
                case atStart => exact ⟨0, Nat.zero_le _, rfl, HP⟩
                case round =>
                  obtain ⟨z, hzq, rfl, HZ⟩ := hrel
                  clear HP
                  by_cases hlt3 : z < q
                  · have HX := HZ.out.first
                    have q1 := Dm.nth_lo seed F z
                    have q2 := Dm.nth_hi seed F z
                    obtain ⟨v, hv⟩ : ∃ v, v = Dm.nth seed F z := ⟨_, rfl⟩
                    rw [← hv] at HX q1 q2
                    by_cases hzm : z < m
                    · have hne : v ≠ Dm.nth seed (F.map Dm.tw) z := by rw [hv]; exact Dm.nth_tw seed F z (by rw [← HFm.out]; exact hzm)
                      obtain ⟨u, hu⟩ : ∃ u, u = Dm.nth seed (F.map Dm.tw) z := ⟨_, rfl⟩
                      have HU : Hid (Dm.nth seed (F.map Dm.tw) z = u) := hu.symm
                      rw [← hu] at hne
                      have hnb : (v == u) = false := by simpa using hne
                      clear hv hu hne HZ
                      go_wp2_with fail
                      refine HX.mono ?_
                      rintro e w5 ⟨rfl, h5, _⟩
                      have HY := h5.second
                      rw [HU.out] at HY
                      clear HX h5
                      go_wp2_with fail
                      refine HY.mono ?_
                      rintro e w6 ⟨rfl, h6, _⟩
                      have HP : Hid (Pair w.heap.size w w6 C E seed F (z + 1) seed (F.map Dm.tw) (z + 1)) := h6
                      clear HY h6
                      go_wp2
                      go_roundw
                      case rel => exact ⟨z + 1, by omega, by go_num, HP⟩
                      case measure => simp [intOf]; omega
                    · have HU : Hid (Dm.nth seed (F.map Dm.tw) z = v) := by
                        show _ = _
                        rw [hv]
                        exact (Dm.nth_behind seed F (F.map Dm.tw) z (List.length_map _) (by rw [← HFm.out]; omega)).symm
                      clear hv HZ
                      go_wp2_with fail
                      refine HX.mono ?_
                      rintro e w5 ⟨rfl, h5, _⟩
                      have HY := h5.second
                      rw [HU.out] at HY
                      clear HX h5
                      go_wp2_with fail
                      refine HY.mono ?_
                      rintro e w6 ⟨rfl, h6, _⟩
                      have HP : Hid (Pair w.heap.size w w6 C E seed F (z + 1) seed (F.map Dm.tw) (z + 1)) := h6
                      clear HY h6
                      go_wp2
                      go_roundw
                      case rel => exact ⟨z + 1, by omega, by go_num, HP⟩
                      case measure => simp [intOf]; omega
                  · go_wp2_with fail
                    refine (dwakes_any _).mono ?_
                    rintro e w7 ⟨rfl, hb⟩
                    have HE : Hid (Below w.heap.size w w7) := (HZ.out.below hb).bel
                    clear hb HZ
                    go_wp2_with fail
                    refine (dnext_nil _).mono ?_
                    rintro e w8 ⟨rfl, rfl⟩
                    go_wp2_with fail
                    refine (dleft_nil _).mono ?_
                    rintro e w9 ⟨rfl, rfl⟩
                    go_wp2
                    go_ret
                    exact ⟨rfl, HE.out⟩
end Go.Proofs.Ytjhlmckghkjdmaa
