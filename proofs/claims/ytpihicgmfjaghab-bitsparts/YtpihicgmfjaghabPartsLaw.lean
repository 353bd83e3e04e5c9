/-
  The walk of the law BitsParts: it returns true.
-/
import Derived.Test.YtpihicgmfjaghabPartsMath
namespace Go.Proofs.Ytpihicgmfjaghab
open Go.RowKit
set_option linter.unusedVariables false
set_option linter.unusedSimpArgs false

set_option maxHeartbeats 1000000 in
theorem parts_few (x : Int) (xa : Addr) (len cap : Nat) (xs : List Int) (w : World) (hx0 : 0 ≤ x) (hx1 : x ≤ 255) (hr : Row .i64 w (some xa) len cap xs) (hl8 : len ≤ 8) :
    Calls Try.prog 3 #[.int .u8 x, .slice (some xa) len cap] w fun e w' => e = .returned (.bool true) ∧ Below w.heap.size w w' := by
  obtain ⟨i0, hi, hz0, hz1, hz2⟩ := info_parts pair25
  have hcm : len ≤ cap := hr.2.1
  have hcap : cap ≤ maxLen := hr.2.2.1
  unfold maxLen at hcap
  go_enter Try.func3, Try.ntmps3
  go_wp2
  go_loopw [5, 6, 20] (fun v l c wr => ∃ (i : Nat) (low : Int) (ps : List (Int × Int)), i ≤ len ∧ c = .int .i64 i ∧ l = .int .i64 low ∧ wr.ownsRow w.heap.size 25 2 v ps.length (flat ps) ∧ 0 ≤ low ∧ low ≤ 8 ∧ ps.length ≤ i ∧ Hid (∀ q ∈ ps, Bm.fitsQ q = true) ∧ Hid (Bm.st ps = (x % 2 ^ low.toNat, low)) ∧ Below w.heap.size w wr)
    (fun _ _ c _ => len - (intOf c).toNat)
  case atStart => exact ⟨0, 0, [], Nat.zero_le _, rfl, rfl, World.ownsRow_nil _ _ _ _, by decide, by decide, Nat.le_refl _, fun q h => by simp at h, by show ((0 : Int), (0 : Int)) = _; simp [Int.emod_one], Below.refl _ _⟩
  case round =>
    obtain ⟨i, low, ps, hil, rfl, rfl, hown, hlo0, hlo8, hpi, HF, HS, hbel⟩ := hrel
    by_cases hlt : i < len
    · obtain ⟨b, off, hxa, hb, hc⟩ : ∃ b off, xa = ⟨b, off, none⟩ ∧ b < w.heap.size ∧ ∀ i, i < len → w.cell? ⟨b, off + i, none⟩ = some (.int .i64 (xs.getD i 0)) := by
        rcases hr.2.2.2.2 with ⟨h, _⟩ | ⟨_, h⟩ | ⟨b, off, h, _, hb, hc⟩
        · cases h
        · omega
        · exact ⟨b, off, by simpa using h, hb, hc⟩
      obtain ⟨z, hz⟩ : ∃ z, z = xs.getD i 0 := ⟨_, rfl⟩
      have hci : wr.cell? ⟨b, off + i, none⟩ = some (.int .i64 z) := by rw [hz]; exact (hbel.cell (by exact hb)).trans (hc i (by omega))
      have hzb : -9223372036854775808 ≤ z ∧ z ≤ 9223372036854775807 := by
        rw [hz]
        refine bounds_i64 (hr.2.2.2.1 _ ?_)
        rw [List.getD, List.getElem?_eq_getElem (by rw [hr.1]; omega)]
        exact List.getElem_mem _
      obtain ⟨hzb0, hzb1⟩ := hzb
      rw [hxa]
      clear hz hc hxa
      by_cases hl : low = 8
      · subst hl
        clear hlo0 hlo8
        go_wp2
        all_goals go_roundw
        all_goals first
          | exact ⟨i + 1, 8, ps, by omega, by go_num, rfl, hown, by decide, by decide, by omega, HF, HS, hbel⟩
          | (simp [intOf]; omega)
      · have hl' : low < 8 := by omega
        clear hl
        by_cases hneg : z ≤ 0
        · go_wp2_with fail
          refine (field_any x low (1) _ hx0 hx1 (by omega)).mono ?_
          rintro e w1 ⟨rfl, n1, rfl⟩
          go_wp2_with (at_builtin; refine wpList_append_own _ rfl _ _ 23 rfl w.heap.size 25 i0 (.agg #[.int .i64 0, .int .i64 0]) 2 16 Try.underlying23 hi hz0 hz1 hz2 rfl (by decide) _ _ _ rfl (own_later hown (below_drewN ((Below.refl _ _).alloc (Nat.le_refl _) _) n1)) ⟨wr.heap.size, 0, none⟩ 1 1 [.int .i64 (1), .int .i64 (Bm.fld x low (1))] rfl rfl (two_newN _ _ n1) (two_one _ _) ?c3 ?c4 ?c5 ?_)
          case c3 => unfold maxLen; omega
          case c4 => omega
          case c5 => have := hbel.size; simp; omega
          intro v' w2 hown' hgrow _
          have hbel2 : Below w.heap.size w w2 := (below_drewN (hbel.alloc hbel.size _) n1).grown hgrow (by have := hbel.size; simp; omega) (own_base hown)
          have hown2 : w2.ownsRow w.heap.size 25 2 v' (ps ++ [(1, Bm.fld x low (1))]).length (flat (ps ++ [(1, Bm.fld x low (1))])) := by
            rw [flat_snoc, List.length_append]; exact hown'
          have HF2 : Hid (∀ q ∈ ps ++ [(1, Bm.fld x low (1))], Bm.fitsQ q = true) := fits_snoc ps _ HF.out (fld_fits x low (1) hlo0 (by omega) (by omega))
          have HS2 : Hid (Bm.st (ps ++ [(1, Bm.fld x low (1))]) = (x % 2 ^ (low + (1)).toNat, low + (1))) := st_next ps x low (1) hx0 hlo0 (by omega) (by omega) HS.out
          clear hown' hgrow hown
          go_wp2
          go_roundw
          case rel => exact ⟨i + 1, low + (1), ps ++ [(1, Bm.fld x low (1))], by omega, by go_num, by go_num, hown2, by omega, by omega, by simp; omega, HF2, HS2, hbel2⟩
          case measure => simp [intOf]; omega
        · by_cases hfit : 1 + z % 8 ≤ 8 - low
          · go_wp2_with fail
            refine (field_any x low (1 + z % 8) _ hx0 hx1 (by omega)).mono ?_
            rintro e w1 ⟨rfl, n1, rfl⟩
            go_wp2_with (at_builtin; refine wpList_append_own _ rfl _ _ 23 rfl w.heap.size 25 i0 (.agg #[.int .i64 0, .int .i64 0]) 2 16 Try.underlying23 hi hz0 hz1 hz2 rfl (by decide) _ _ _ rfl (own_later hown (below_drewN ((Below.refl _ _).alloc (Nat.le_refl _) _) n1)) ⟨wr.heap.size, 0, none⟩ 1 1 [.int .i64 (1 + z % 8), .int .i64 (Bm.fld x low (1 + z % 8))] rfl rfl (two_newN _ _ n1) (two_one _ _) ?c3 ?c4 ?c5 ?_)
            case c3 => unfold maxLen; omega
            case c4 => omega
            case c5 => have := hbel.size; simp; omega
            intro v' w2 hown' hgrow _
            have hbel2 : Below w.heap.size w w2 := (below_drewN (hbel.alloc hbel.size _) n1).grown hgrow (by have := hbel.size; simp; omega) (own_base hown)
            have hown2 : w2.ownsRow w.heap.size 25 2 v' (ps ++ [(1 + z % 8, Bm.fld x low (1 + z % 8))]).length (flat (ps ++ [(1 + z % 8, Bm.fld x low (1 + z % 8))])) := by
              rw [flat_snoc, List.length_append]; exact hown'
            have HF2 : Hid (∀ q ∈ ps ++ [(1 + z % 8, Bm.fld x low (1 + z % 8))], Bm.fitsQ q = true) := fits_snoc ps _ HF.out (fld_fits x low (1 + z % 8) hlo0 (by omega) (by omega))
            have HS2 : Hid (Bm.st (ps ++ [(1 + z % 8, Bm.fld x low (1 + z % 8))]) = (x % 2 ^ (low + (1 + z % 8)).toNat, low + (1 + z % 8))) := st_next ps x low (1 + z % 8) hx0 hlo0 (by omega) (by omega) HS.out
            clear hown' hgrow hown
            go_wp2
            go_roundw
            case rel => exact ⟨i + 1, low + (1 + z % 8), ps ++ [(1 + z % 8, Bm.fld x low (1 + z % 8))], by omega, by go_num, by go_num, hown2, by omega, by omega, by simp; omega, HF2, HS2, hbel2⟩
            case measure => simp [intOf]; omega
          · go_wp2_with fail
            refine (field_any x low (8 - low) _ hx0 hx1 (by omega)).mono ?_
            rintro e w1 ⟨rfl, n1, rfl⟩
            go_wp2_with (at_builtin; refine wpList_append_own _ rfl _ _ 23 rfl w.heap.size 25 i0 (.agg #[.int .i64 0, .int .i64 0]) 2 16 Try.underlying23 hi hz0 hz1 hz2 rfl (by decide) _ _ _ rfl (own_later hown (below_drewN ((Below.refl _ _).alloc (Nat.le_refl _) _) n1)) ⟨wr.heap.size, 0, none⟩ 1 1 [.int .i64 (8 - low), .int .i64 (Bm.fld x low (8 - low))] rfl rfl (two_newN _ _ n1) (two_one _ _) ?c3 ?c4 ?c5 ?_)
            case c3 => unfold maxLen; omega
            case c4 => omega
            case c5 => have := hbel.size; simp; omega
            intro v' w2 hown' hgrow _
            have hbel2 : Below w.heap.size w w2 := (below_drewN (hbel.alloc hbel.size _) n1).grown hgrow (by have := hbel.size; simp; omega) (own_base hown)
            have hown2 : w2.ownsRow w.heap.size 25 2 v' (ps ++ [(8 - low, Bm.fld x low (8 - low))]).length (flat (ps ++ [(8 - low, Bm.fld x low (8 - low))])) := by
              rw [flat_snoc, List.length_append]; exact hown'
            have HF2 : Hid (∀ q ∈ ps ++ [(8 - low, Bm.fld x low (8 - low))], Bm.fitsQ q = true) := fits_snoc ps _ HF.out (fld_fits x low (8 - low) hlo0 (by omega) (by omega))
            have HS2 : Hid (Bm.st (ps ++ [(8 - low, Bm.fld x low (8 - low))]) = (x % 2 ^ (low + (8 - low)).toNat, low + (8 - low))) := st_next ps x low (8 - low) hx0 hlo0 (by omega) (by omega) HS.out
            clear hown' hgrow hown
            go_wp2
            go_roundw
            case rel => exact ⟨i + 1, low + (8 - low), ps ++ [(8 - low, Bm.fld x low (8 - low))], by omega, by go_num, by go_num, hown2, by omega, by omega, by simp; omega, HF2, HS2, hbel2⟩
            case measure => simp [intOf]; omega
    · clear hr
      by_cases hl : low < 8
      · go_wp2_with fail
        refine (field_any x low (8 - low) _ hx0 hx1 (by omega)).mono ?_
        rintro e w1 ⟨rfl, n1, rfl⟩
        go_wp2_with (at_builtin; refine wpList_append_own _ rfl _ _ 23 rfl w.heap.size 25 i0 (.agg #[.int .i64 0, .int .i64 0]) 2 16 Try.underlying23 hi hz0 hz1 hz2 rfl (by decide) _ _ _ rfl (own_later hown (below_drewN ((Below.refl _ _).alloc (Nat.le_refl _) _) n1)) ⟨wr.heap.size, 0, none⟩ 1 1 [.int .i64 (8 - low), .int .i64 (Bm.fld x low (8 - low))] rfl rfl (two_newN _ _ n1) (two_one _ _) ?c3 ?c4 ?c5 ?_)
        case c3 => unfold maxLen; omega
        case c4 => omega
        case c5 => have := hbel.size; simp; omega
        intro v' w2 hown' hgrow _
        have hbel2 : Below w.heap.size w w2 := (below_drewN (hbel.alloc hbel.size _) n1).grown hgrow (by have := hbel.size; simp; omega) (own_base hown)
        have hown2 : w2.ownsRow w.heap.size 25 2 v' (ps ++ [(8 - low, Bm.fld x low (8 - low))]).length (flat (ps ++ [(8 - low, Bm.fld x low (8 - low))])) := by
          rw [flat_snoc, List.length_append]; exact hown'
        have HF2 : Hid (∀ q ∈ ps ++ [(8 - low, Bm.fld x low (8 - low))], Bm.fitsQ q = true) := fits_snoc ps _ HF.out (fld_fits x low (8 - low) hlo0 (by omega) (by omega))
        have HS2 : Hid (Bm.st (ps ++ [(8 - low, Bm.fld x low (8 - low))]) = (x % 2 ^ (low + (8 - low)).toNat, low + (8 - low))) := st_next ps x low (8 - low) hx0 hlo0 (by omega) (by omega) HS.out
        clear hown' hgrow hown
        rw [show low + (8 - low) = 8 from by omega] at HS2
        obtain ⟨a2, cap2, hv2, hrow2⟩ := own_row2 hown2 HF2.out
        have HP : Hid (Bm.packRes (ps ++ [(8 - low, Bm.fld x low (8 - low))]) = (x, 0)) := parts_whole _ x hx0 hx1 HF2.out HS2.out
        have HP2 : Hid (Bm.packRes (ps ++ [(8 - low, Bm.fld x low (8 - low))] ++ [(1, 0)]) = (0, 5)) := parts_long _ x HF2.out HS2.out
        have HP3 : Hid (Bm.fld 128 7 1 = 1) := by show Bm.fld 128 7 1 = 1; decide
        have hlen2 : (ps ++ [(8 - low, Bm.fld x low (8 - low))]).length ≤ 9 := by first | (simp; omega) | omega
        generalize ps ++ [(8 - low, Bm.fld x low (8 - low))] = qs at *
        rw [hv2] at hown2 ⊢
        clear hv2
        go_wp2_with fail
        refine (pack_any _ _ _ qs _ (by omega) hrow2).mono ?_
        rintro e w3 ⟨rfl, hb3⟩
        rw [HP.out]
        have hbel3 : Below w.heap.size w w3 := hbel2.trans (hb3.mono hbel2.size)
        have hown3 := own_later hown2 hb3
        clear hown2 hrow2
        go_wp2_with (at_builtin; refine wpList_append_own _ rfl _ _ 23 rfl w.heap.size 25 i0 (.agg #[.int .i64 0, .int .i64 0]) 2 16 Try.underlying23 hi hz0 hz1 hz2 rfl (by decide) _ _ _ rfl (hown3.alloc _) ⟨w3.heap.size, 0, none⟩ 1 1 [.int .i64 1, .int .i64 0] rfl rfl (two_new _ _) (two_one _ _) ?d3 ?d4 ?d5 ?_)
        case d3 => unfold maxLen; omega
        case d4 => omega
        case d5 => have := hbel3.size; simp; omega
        intro v4 w4 hown4 hgrow4 _
        have hbel4 : Below w.heap.size w w4 := (hbel3.alloc hbel3.size _).grown hgrow4 (by have := hbel3.size; simp; omega) (own_base hown3)
        have hown5 : w4.ownsRow w.heap.size 25 2 v4 (qs.length + 1) (flat (qs ++ [(1, 0)])) := by
          rw [flat_snoc]; exact hown4
        obtain ⟨a4, cap4, hv4, hrow4⟩ := own_row2 hown5 (fits_snoc qs _ HF2.out (by decide))
        rw [hv4]
        clear hown4 hown5 hgrow4 hv4 hown3
        go_wp2_with fail
        refine (pack_any _ _ _ (qs ++ [(1, 0)]) _ (by omega) hrow4).mono ?_
        rintro e w5 ⟨rfl, hb5⟩
        rw [HP2.out]
        have hbel5 : Below w.heap.size w w5 := hbel4.trans (hb5.mono hbel4.size)
        go_wp2_with fail
        refine (field_any 128 7 1 _ (by decide) (by decide) (by decide)).mono ?_
        rintro e w6 ⟨rfl, n6, rfl⟩
        rw [HP3.out]
        go_wp2
        go_ret
        exact ⟨by simp, below_drewN hbel5 _⟩
      · have h8 : low = 8 := by omega
        subst h8
        clear hlo0 hlo8 hl
        obtain ⟨a2, cap2, hv2, hrow2⟩ := own_row2 hown HF.out
        have HP : Hid (Bm.packRes (ps) = (x, 0)) := parts_whole _ x hx0 hx1 HF.out HS.out
        have HP2 : Hid (Bm.packRes (ps ++ [(1, 0)]) = (0, 5)) := parts_long _ x HF.out HS.out
        have HP3 : Hid (Bm.fld 128 7 1 = 1) := by show Bm.fld 128 7 1 = 1; decide
        have hlen2 : (ps).length ≤ 9 := by first | (simp; omega) | omega
        generalize ps = qs at *
        rw [hv2] at hown ⊢
        clear hv2
        go_wp2_with fail
        refine (pack_any _ _ _ qs _ (by omega) hrow2).mono ?_
        rintro e w3 ⟨rfl, hb3⟩
        rw [HP.out]
        have hbel3 : Below w.heap.size w w3 := hbel.trans (hb3.mono hbel.size)
        have hown3 := own_later hown hb3
        clear hown hrow2
        go_wp2_with (at_builtin; refine wpList_append_own _ rfl _ _ 23 rfl w.heap.size 25 i0 (.agg #[.int .i64 0, .int .i64 0]) 2 16 Try.underlying23 hi hz0 hz1 hz2 rfl (by decide) _ _ _ rfl (hown3.alloc _) ⟨w3.heap.size, 0, none⟩ 1 1 [.int .i64 1, .int .i64 0] rfl rfl (two_new _ _) (two_one _ _) ?d3 ?d4 ?d5 ?_)
        case d3 => unfold maxLen; omega
        case d4 => omega
        case d5 => have := hbel3.size; simp; omega
        intro v4 w4 hown4 hgrow4 _
        have hbel4 : Below w.heap.size w w4 := (hbel3.alloc hbel3.size _).grown hgrow4 (by have := hbel3.size; simp; omega) (own_base hown3)
        have hown5 : w4.ownsRow w.heap.size 25 2 v4 (qs.length + 1) (flat (qs ++ [(1, 0)])) := by
          rw [flat_snoc]; exact hown4
        obtain ⟨a4, cap4, hv4, hrow4⟩ := own_row2 hown5 (fits_snoc qs _ HF.out (by decide))
        rw [hv4]
        clear hown4 hown5 hgrow4 hv4 hown3
        go_wp2_with fail
        refine (pack_any _ _ _ (qs ++ [(1, 0)]) _ (by omega) hrow4).mono ?_
        rintro e w5 ⟨rfl, hb5⟩
        rw [HP2.out]
        have hbel5 : Below w.heap.size w w5 := hbel4.trans (hb5.mono hbel4.size)
        go_wp2_with fail
        refine (field_any 128 7 1 _ (by decide) (by decide) (by decide)).mono ?_
        rintro e w6 ⟨rfl, n6, rfl⟩
        rw [HP3.out]
        go_wp2
        go_ret
        exact ⟨by simp, below_drewN hbel5 _⟩

set_option maxHeartbeats 1000000 in
theorem parts_many (x : Int) (xa : Addr) (len cap : Nat) (xs : List Int) (w : World) (hx0 : 0 ≤ x) (hx1 : x ≤ 255) (hr : Row .i64 w (some xa) len cap xs) (hl8 : 8 < len) :
    Calls Try.prog 3 #[.int .u8 x, .slice (some xa) len cap] w fun e w' => e = .returned (.bool true) ∧ Below w.heap.size w w' := by
  obtain ⟨i0, hi, hz0, hz1, hz2⟩ := info_parts pair25
  have hcm : len ≤ cap := hr.2.1
  have hcap : cap ≤ maxLen := hr.2.2.1
  unfold maxLen at hcap
  go_enter Try.func3, Try.ntmps3
  go_wp2
  go_loopw [5, 6, 20] (fun v l c wr => ∃ (i : Nat) (low : Int) (ps : List (Int × Int)), i ≤ 8 ∧ c = .int .i64 i ∧ l = .int .i64 low ∧ wr.ownsRow w.heap.size 25 2 v ps.length (flat ps) ∧ 0 ≤ low ∧ low ≤ 8 ∧ ps.length ≤ i ∧ Hid (∀ q ∈ ps, Bm.fitsQ q = true) ∧ Hid (Bm.st ps = (x % 2 ^ low.toNat, low)) ∧ Below w.heap.size w wr)
    (fun _ _ c _ => 8 - (intOf c).toNat)
  case atStart => exact ⟨0, 0, [], Nat.zero_le _, rfl, rfl, World.ownsRow_nil _ _ _ _, by decide, by decide, Nat.le_refl _, fun q h => by simp at h, by show ((0 : Int), (0 : Int)) = _; simp [Int.emod_one], Below.refl _ _⟩
  case round =>
    obtain ⟨i, low, ps, hil, rfl, rfl, hown, hlo0, hlo8, hpi, HF, HS, hbel⟩ := hrel
    by_cases hlt : i < 8
    · obtain ⟨b, off, hxa, hb, hc⟩ : ∃ b off, xa = ⟨b, off, none⟩ ∧ b < w.heap.size ∧ ∀ i, i < len → w.cell? ⟨b, off + i, none⟩ = some (.int .i64 (xs.getD i 0)) := by
        rcases hr.2.2.2.2 with ⟨h, _⟩ | ⟨_, h⟩ | ⟨b, off, h, _, hb, hc⟩
        · cases h
        · omega
        · exact ⟨b, off, by simpa using h, hb, hc⟩
      obtain ⟨z, hz⟩ : ∃ z, z = xs.getD i 0 := ⟨_, rfl⟩
      have hci : wr.cell? ⟨b, off + i, none⟩ = some (.int .i64 z) := by rw [hz]; exact (hbel.cell (by exact hb)).trans (hc i (by omega))
      have hzb : -9223372036854775808 ≤ z ∧ z ≤ 9223372036854775807 := by
        rw [hz]
        refine bounds_i64 (hr.2.2.2.1 _ ?_)
        rw [List.getD, List.getElem?_eq_getElem (by rw [hr.1]; omega)]
        exact List.getElem_mem _
      obtain ⟨hzb0, hzb1⟩ := hzb
      rw [hxa]
      clear hz hc hxa
      by_cases hl : low = 8
      · subst hl
        clear hlo0 hlo8
        go_wp2
        all_goals go_roundw
        all_goals first
          | exact ⟨i + 1, 8, ps, by omega, by go_num, rfl, hown, by decide, by decide, by omega, HF, HS, hbel⟩
          | (simp [intOf]; omega)
      · have hl' : low < 8 := by omega
        clear hl
        by_cases hneg : z ≤ 0
        · go_wp2_with fail
          refine (field_any x low (1) _ hx0 hx1 (by omega)).mono ?_
          rintro e w1 ⟨rfl, n1, rfl⟩
          go_wp2_with (at_builtin; refine wpList_append_own _ rfl _ _ 23 rfl w.heap.size 25 i0 (.agg #[.int .i64 0, .int .i64 0]) 2 16 Try.underlying23 hi hz0 hz1 hz2 rfl (by decide) _ _ _ rfl (own_later hown (below_drewN ((Below.refl _ _).alloc (Nat.le_refl _) _) n1)) ⟨wr.heap.size, 0, none⟩ 1 1 [.int .i64 (1), .int .i64 (Bm.fld x low (1))] rfl rfl (two_newN _ _ n1) (two_one _ _) ?c3 ?c4 ?c5 ?_)
          case c3 => unfold maxLen; omega
          case c4 => omega
          case c5 => have := hbel.size; simp; omega
          intro v' w2 hown' hgrow _
          have hbel2 : Below w.heap.size w w2 := (below_drewN (hbel.alloc hbel.size _) n1).grown hgrow (by have := hbel.size; simp; omega) (own_base hown)
          have hown2 : w2.ownsRow w.heap.size 25 2 v' (ps ++ [(1, Bm.fld x low (1))]).length (flat (ps ++ [(1, Bm.fld x low (1))])) := by
            rw [flat_snoc, List.length_append]; exact hown'
          have HF2 : Hid (∀ q ∈ ps ++ [(1, Bm.fld x low (1))], Bm.fitsQ q = true) := fits_snoc ps _ HF.out (fld_fits x low (1) hlo0 (by omega) (by omega))
          have HS2 : Hid (Bm.st (ps ++ [(1, Bm.fld x low (1))]) = (x % 2 ^ (low + (1)).toNat, low + (1))) := st_next ps x low (1) hx0 hlo0 (by omega) (by omega) HS.out
          clear hown' hgrow hown
          go_wp2
          go_roundw
          case rel => exact ⟨i + 1, low + (1), ps ++ [(1, Bm.fld x low (1))], by omega, by go_num, by go_num, hown2, by omega, by omega, by simp; omega, HF2, HS2, hbel2⟩
          case measure => simp [intOf]; omega
        · by_cases hfit : 1 + z % 8 ≤ 8 - low
          · go_wp2_with fail
            refine (field_any x low (1 + z % 8) _ hx0 hx1 (by omega)).mono ?_
            rintro e w1 ⟨rfl, n1, rfl⟩
            go_wp2_with (at_builtin; refine wpList_append_own _ rfl _ _ 23 rfl w.heap.size 25 i0 (.agg #[.int .i64 0, .int .i64 0]) 2 16 Try.underlying23 hi hz0 hz1 hz2 rfl (by decide) _ _ _ rfl (own_later hown (below_drewN ((Below.refl _ _).alloc (Nat.le_refl _) _) n1)) ⟨wr.heap.size, 0, none⟩ 1 1 [.int .i64 (1 + z % 8), .int .i64 (Bm.fld x low (1 + z % 8))] rfl rfl (two_newN _ _ n1) (two_one _ _) ?c3 ?c4 ?c5 ?_)
            case c3 => unfold maxLen; omega
            case c4 => omega
            case c5 => have := hbel.size; simp; omega
            intro v' w2 hown' hgrow _
            have hbel2 : Below w.heap.size w w2 := (below_drewN (hbel.alloc hbel.size _) n1).grown hgrow (by have := hbel.size; simp; omega) (own_base hown)
            have hown2 : w2.ownsRow w.heap.size 25 2 v' (ps ++ [(1 + z % 8, Bm.fld x low (1 + z % 8))]).length (flat (ps ++ [(1 + z % 8, Bm.fld x low (1 + z % 8))])) := by
              rw [flat_snoc, List.length_append]; exact hown'
            have HF2 : Hid (∀ q ∈ ps ++ [(1 + z % 8, Bm.fld x low (1 + z % 8))], Bm.fitsQ q = true) := fits_snoc ps _ HF.out (fld_fits x low (1 + z % 8) hlo0 (by omega) (by omega))
            have HS2 : Hid (Bm.st (ps ++ [(1 + z % 8, Bm.fld x low (1 + z % 8))]) = (x % 2 ^ (low + (1 + z % 8)).toNat, low + (1 + z % 8))) := st_next ps x low (1 + z % 8) hx0 hlo0 (by omega) (by omega) HS.out
            clear hown' hgrow hown
            go_wp2
            go_roundw
            case rel => exact ⟨i + 1, low + (1 + z % 8), ps ++ [(1 + z % 8, Bm.fld x low (1 + z % 8))], by omega, by go_num, by go_num, hown2, by omega, by omega, by simp; omega, HF2, HS2, hbel2⟩
            case measure => simp [intOf]; omega
          · go_wp2_with fail
            refine (field_any x low (8 - low) _ hx0 hx1 (by omega)).mono ?_
            rintro e w1 ⟨rfl, n1, rfl⟩
            go_wp2_with (at_builtin; refine wpList_append_own _ rfl _ _ 23 rfl w.heap.size 25 i0 (.agg #[.int .i64 0, .int .i64 0]) 2 16 Try.underlying23 hi hz0 hz1 hz2 rfl (by decide) _ _ _ rfl (own_later hown (below_drewN ((Below.refl _ _).alloc (Nat.le_refl _) _) n1)) ⟨wr.heap.size, 0, none⟩ 1 1 [.int .i64 (8 - low), .int .i64 (Bm.fld x low (8 - low))] rfl rfl (two_newN _ _ n1) (two_one _ _) ?c3 ?c4 ?c5 ?_)
            case c3 => unfold maxLen; omega
            case c4 => omega
            case c5 => have := hbel.size; simp; omega
            intro v' w2 hown' hgrow _
            have hbel2 : Below w.heap.size w w2 := (below_drewN (hbel.alloc hbel.size _) n1).grown hgrow (by have := hbel.size; simp; omega) (own_base hown)
            have hown2 : w2.ownsRow w.heap.size 25 2 v' (ps ++ [(8 - low, Bm.fld x low (8 - low))]).length (flat (ps ++ [(8 - low, Bm.fld x low (8 - low))])) := by
              rw [flat_snoc, List.length_append]; exact hown'
            have HF2 : Hid (∀ q ∈ ps ++ [(8 - low, Bm.fld x low (8 - low))], Bm.fitsQ q = true) := fits_snoc ps _ HF.out (fld_fits x low (8 - low) hlo0 (by omega) (by omega))
            have HS2 : Hid (Bm.st (ps ++ [(8 - low, Bm.fld x low (8 - low))]) = (x % 2 ^ (low + (8 - low)).toNat, low + (8 - low))) := st_next ps x low (8 - low) hx0 hlo0 (by omega) (by omega) HS.out
            clear hown' hgrow hown
            go_wp2
            go_roundw
            case rel => exact ⟨i + 1, low + (8 - low), ps ++ [(8 - low, Bm.fld x low (8 - low))], by omega, by go_num, by go_num, hown2, by omega, by omega, by simp; omega, HF2, HS2, hbel2⟩
            case measure => simp [intOf]; omega
    · clear hr
      by_cases hl : low < 8
      · go_wp2_with fail
        refine (field_any x low (8 - low) _ hx0 hx1 (by omega)).mono ?_
        rintro e w1 ⟨rfl, n1, rfl⟩
        go_wp2_with (at_builtin; refine wpList_append_own _ rfl _ _ 23 rfl w.heap.size 25 i0 (.agg #[.int .i64 0, .int .i64 0]) 2 16 Try.underlying23 hi hz0 hz1 hz2 rfl (by decide) _ _ _ rfl (own_later hown (below_drewN ((Below.refl _ _).alloc (Nat.le_refl _) _) n1)) ⟨wr.heap.size, 0, none⟩ 1 1 [.int .i64 (8 - low), .int .i64 (Bm.fld x low (8 - low))] rfl rfl (two_newN _ _ n1) (two_one _ _) ?c3 ?c4 ?c5 ?_)
        case c3 => unfold maxLen; omega
        case c4 => omega
        case c5 => have := hbel.size; simp; omega
        intro v' w2 hown' hgrow _
        have hbel2 : Below w.heap.size w w2 := (below_drewN (hbel.alloc hbel.size _) n1).grown hgrow (by have := hbel.size; simp; omega) (own_base hown)
        have hown2 : w2.ownsRow w.heap.size 25 2 v' (ps ++ [(8 - low, Bm.fld x low (8 - low))]).length (flat (ps ++ [(8 - low, Bm.fld x low (8 - low))])) := by
          rw [flat_snoc, List.length_append]; exact hown'
        have HF2 : Hid (∀ q ∈ ps ++ [(8 - low, Bm.fld x low (8 - low))], Bm.fitsQ q = true) := fits_snoc ps _ HF.out (fld_fits x low (8 - low) hlo0 (by omega) (by omega))
        have HS2 : Hid (Bm.st (ps ++ [(8 - low, Bm.fld x low (8 - low))]) = (x % 2 ^ (low + (8 - low)).toNat, low + (8 - low))) := st_next ps x low (8 - low) hx0 hlo0 (by omega) (by omega) HS.out
        clear hown' hgrow hown
        rw [show low + (8 - low) = 8 from by omega] at HS2
        obtain ⟨a2, cap2, hv2, hrow2⟩ := own_row2 hown2 HF2.out
        have HP : Hid (Bm.packRes (ps ++ [(8 - low, Bm.fld x low (8 - low))]) = (x, 0)) := parts_whole _ x hx0 hx1 HF2.out HS2.out
        have HP2 : Hid (Bm.packRes (ps ++ [(8 - low, Bm.fld x low (8 - low))] ++ [(1, 0)]) = (0, 5)) := parts_long _ x HF2.out HS2.out
        have HP3 : Hid (Bm.fld 128 7 1 = 1) := by show Bm.fld 128 7 1 = 1; decide
        have hlen2 : (ps ++ [(8 - low, Bm.fld x low (8 - low))]).length ≤ 9 := by first | (simp; omega) | omega
        generalize ps ++ [(8 - low, Bm.fld x low (8 - low))] = qs at *
        rw [hv2] at hown2 ⊢
        clear hv2
        go_wp2_with fail
        refine (pack_any _ _ _ qs _ (by omega) hrow2).mono ?_
        rintro e w3 ⟨rfl, hb3⟩
        rw [HP.out]
        have hbel3 : Below w.heap.size w w3 := hbel2.trans (hb3.mono hbel2.size)
        have hown3 := own_later hown2 hb3
        clear hown2 hrow2
        go_wp2_with (at_builtin; refine wpList_append_own _ rfl _ _ 23 rfl w.heap.size 25 i0 (.agg #[.int .i64 0, .int .i64 0]) 2 16 Try.underlying23 hi hz0 hz1 hz2 rfl (by decide) _ _ _ rfl (hown3.alloc _) ⟨w3.heap.size, 0, none⟩ 1 1 [.int .i64 1, .int .i64 0] rfl rfl (two_new _ _) (two_one _ _) ?d3 ?d4 ?d5 ?_)
        case d3 => unfold maxLen; omega
        case d4 => omega
        case d5 => have := hbel3.size; simp; omega
        intro v4 w4 hown4 hgrow4 _
        have hbel4 : Below w.heap.size w w4 := (hbel3.alloc hbel3.size _).grown hgrow4 (by have := hbel3.size; simp; omega) (own_base hown3)
        have hown5 : w4.ownsRow w.heap.size 25 2 v4 (qs.length + 1) (flat (qs ++ [(1, 0)])) := by
          rw [flat_snoc]; exact hown4
        obtain ⟨a4, cap4, hv4, hrow4⟩ := own_row2 hown5 (fits_snoc qs _ HF2.out (by decide))
        rw [hv4]
        clear hown4 hown5 hgrow4 hv4 hown3
        go_wp2_with fail
        refine (pack_any _ _ _ (qs ++ [(1, 0)]) _ (by omega) hrow4).mono ?_
        rintro e w5 ⟨rfl, hb5⟩
        rw [HP2.out]
        have hbel5 : Below w.heap.size w w5 := hbel4.trans (hb5.mono hbel4.size)
        go_wp2_with fail
        refine (field_any 128 7 1 _ (by decide) (by decide) (by decide)).mono ?_
        rintro e w6 ⟨rfl, n6, rfl⟩
        rw [HP3.out]
        go_wp2
        go_ret
        exact ⟨by simp, below_drewN hbel5 _⟩
      · have h8 : low = 8 := by omega
        subst h8
        clear hlo0 hlo8 hl
        obtain ⟨a2, cap2, hv2, hrow2⟩ := own_row2 hown HF.out
        have HP : Hid (Bm.packRes (ps) = (x, 0)) := parts_whole _ x hx0 hx1 HF.out HS.out
        have HP2 : Hid (Bm.packRes (ps ++ [(1, 0)]) = (0, 5)) := parts_long _ x HF.out HS.out
        have HP3 : Hid (Bm.fld 128 7 1 = 1) := by show Bm.fld 128 7 1 = 1; decide
        have hlen2 : (ps).length ≤ 9 := by first | (simp; omega) | omega
        generalize ps = qs at *
        rw [hv2] at hown ⊢
        clear hv2
        go_wp2_with fail
        refine (pack_any _ _ _ qs _ (by omega) hrow2).mono ?_
        rintro e w3 ⟨rfl, hb3⟩
        rw [HP.out]
        have hbel3 : Below w.heap.size w w3 := hbel.trans (hb3.mono hbel.size)
        have hown3 := own_later hown hb3
        clear hown hrow2
        go_wp2_with (at_builtin; refine wpList_append_own _ rfl _ _ 23 rfl w.heap.size 25 i0 (.agg #[.int .i64 0, .int .i64 0]) 2 16 Try.underlying23 hi hz0 hz1 hz2 rfl (by decide) _ _ _ rfl (hown3.alloc _) ⟨w3.heap.size, 0, none⟩ 1 1 [.int .i64 1, .int .i64 0] rfl rfl (two_new _ _) (two_one _ _) ?d3 ?d4 ?d5 ?_)
        case d3 => unfold maxLen; omega
        case d4 => omega
        case d5 => have := hbel3.size; simp; omega
        intro v4 w4 hown4 hgrow4 _
        have hbel4 : Below w.heap.size w w4 := (hbel3.alloc hbel3.size _).grown hgrow4 (by have := hbel3.size; simp; omega) (own_base hown3)
        have hown5 : w4.ownsRow w.heap.size 25 2 v4 (qs.length + 1) (flat (qs ++ [(1, 0)])) := by
          rw [flat_snoc]; exact hown4
        obtain ⟨a4, cap4, hv4, hrow4⟩ := own_row2 hown5 (fits_snoc qs _ HF.out (by decide))
        rw [hv4]
        clear hown4 hown5 hgrow4 hv4 hown3
        go_wp2_with fail
        refine (pack_any _ _ _ (qs ++ [(1, 0)]) _ (by omega) hrow4).mono ?_
        rintro e w5 ⟨rfl, hb5⟩
        rw [HP2.out]
        have hbel5 : Below w.heap.size w w5 := hbel4.trans (hb5.mono hbel4.size)
        go_wp2_with fail
        refine (field_any 128 7 1 _ (by decide) (by decide) (by decide)).mono ?_
        rintro e w6 ⟨rfl, n6, rfl⟩
        rw [HP3.out]
        go_wp2
        go_ret
        exact ⟨by simp, below_drewN hbel5 _⟩

set_option maxHeartbeats 1000000 in
theorem parts_nil (x : Int) (w : World) (hx0 : 0 ≤ x) (hx1 : x ≤ 255) :
    Calls Try.prog 3 #[.int .u8 x, .slice none 0 0] w fun e w' => e = .returned (.bool true) ∧ Below w.heap.size w w' := by
  obtain ⟨i0, hi, hz0, hz1, hz2⟩ := info_parts pair25
  go_enter Try.func3, Try.ntmps3
  go_wp2
  go_loopw [5, 6, 20] (fun v l c wr => ∃ (i : Nat) (low : Int) (ps : List (Int × Int)), i ≤ 0 ∧ c = .int .i64 i ∧ l = .int .i64 low ∧ wr.ownsRow w.heap.size 25 2 v ps.length (flat ps) ∧ 0 ≤ low ∧ low ≤ 8 ∧ ps.length ≤ i ∧ Hid (∀ q ∈ ps, Bm.fitsQ q = true) ∧ Hid (Bm.st ps = (x % 2 ^ low.toNat, low)) ∧ Below w.heap.size w wr)
    (fun _ _ c _ => 0 - (intOf c).toNat)
  case atStart => exact ⟨0, 0, [], Nat.zero_le _, rfl, rfl, World.ownsRow_nil _ _ _ _, by decide, by decide, Nat.le_refl _, fun q h => by simp at h, by show ((0 : Int), (0 : Int)) = _; simp [Int.emod_one], Below.refl _ _⟩
  case round =>
    obtain ⟨i, low, ps, hil, rfl, rfl, hown, hlo0, hlo8, hpi, HF, HS, hbel⟩ := hrel
    · have hlt : ¬ i < 0 := by omega
      by_cases hl : low < 8
      · go_wp2_with fail
        refine (field_any x low (8 - low) _ hx0 hx1 (by omega)).mono ?_
        rintro e w1 ⟨rfl, n1, rfl⟩
        go_wp2_with (at_builtin; refine wpList_append_own _ rfl _ _ 23 rfl w.heap.size 25 i0 (.agg #[.int .i64 0, .int .i64 0]) 2 16 Try.underlying23 hi hz0 hz1 hz2 rfl (by decide) _ _ _ rfl (own_later hown (below_drewN ((Below.refl _ _).alloc (Nat.le_refl _) _) n1)) ⟨wr.heap.size, 0, none⟩ 1 1 [.int .i64 (8 - low), .int .i64 (Bm.fld x low (8 - low))] rfl rfl (two_newN _ _ n1) (two_one _ _) ?c3 ?c4 ?c5 ?_)
        case c3 => unfold maxLen; omega
        case c4 => omega
        case c5 => have := hbel.size; simp; omega
        intro v' w2 hown' hgrow _
        have hbel2 : Below w.heap.size w w2 := (below_drewN (hbel.alloc hbel.size _) n1).grown hgrow (by have := hbel.size; simp; omega) (own_base hown)
        have hown2 : w2.ownsRow w.heap.size 25 2 v' (ps ++ [(8 - low, Bm.fld x low (8 - low))]).length (flat (ps ++ [(8 - low, Bm.fld x low (8 - low))])) := by
          rw [flat_snoc, List.length_append]; exact hown'
        have HF2 : Hid (∀ q ∈ ps ++ [(8 - low, Bm.fld x low (8 - low))], Bm.fitsQ q = true) := fits_snoc ps _ HF.out (fld_fits x low (8 - low) hlo0 (by omega) (by omega))
        have HS2 : Hid (Bm.st (ps ++ [(8 - low, Bm.fld x low (8 - low))]) = (x % 2 ^ (low + (8 - low)).toNat, low + (8 - low))) := st_next ps x low (8 - low) hx0 hlo0 (by omega) (by omega) HS.out
        clear hown' hgrow hown
        rw [show low + (8 - low) = 8 from by omega] at HS2
        obtain ⟨a2, cap2, hv2, hrow2⟩ := own_row2 hown2 HF2.out
        have HP : Hid (Bm.packRes (ps ++ [(8 - low, Bm.fld x low (8 - low))]) = (x, 0)) := parts_whole _ x hx0 hx1 HF2.out HS2.out
        have HP2 : Hid (Bm.packRes (ps ++ [(8 - low, Bm.fld x low (8 - low))] ++ [(1, 0)]) = (0, 5)) := parts_long _ x HF2.out HS2.out
        have HP3 : Hid (Bm.fld 128 7 1 = 1) := by show Bm.fld 128 7 1 = 1; decide
        have hlen2 : (ps ++ [(8 - low, Bm.fld x low (8 - low))]).length ≤ 9 := by first | (simp; omega) | omega
        generalize ps ++ [(8 - low, Bm.fld x low (8 - low))] = qs at *
        rw [hv2] at hown2 ⊢
        clear hv2
        go_wp2_with fail
        refine (pack_any _ _ _ qs _ (by omega) hrow2).mono ?_
        rintro e w3 ⟨rfl, hb3⟩
        rw [HP.out]
        have hbel3 : Below w.heap.size w w3 := hbel2.trans (hb3.mono hbel2.size)
        have hown3 := own_later hown2 hb3
        clear hown2 hrow2
        go_wp2_with (at_builtin; refine wpList_append_own _ rfl _ _ 23 rfl w.heap.size 25 i0 (.agg #[.int .i64 0, .int .i64 0]) 2 16 Try.underlying23 hi hz0 hz1 hz2 rfl (by decide) _ _ _ rfl (hown3.alloc _) ⟨w3.heap.size, 0, none⟩ 1 1 [.int .i64 1, .int .i64 0] rfl rfl (two_new _ _) (two_one _ _) ?d3 ?d4 ?d5 ?_)
        case d3 => unfold maxLen; omega
        case d4 => omega
        case d5 => have := hbel3.size; simp; omega
        intro v4 w4 hown4 hgrow4 _
        have hbel4 : Below w.heap.size w w4 := (hbel3.alloc hbel3.size _).grown hgrow4 (by have := hbel3.size; simp; omega) (own_base hown3)
        have hown5 : w4.ownsRow w.heap.size 25 2 v4 (qs.length + 1) (flat (qs ++ [(1, 0)])) := by
          rw [flat_snoc]; exact hown4
        obtain ⟨a4, cap4, hv4, hrow4⟩ := own_row2 hown5 (fits_snoc qs _ HF2.out (by decide))
        rw [hv4]
        clear hown4 hown5 hgrow4 hv4 hown3
        go_wp2_with fail
        refine (pack_any _ _ _ (qs ++ [(1, 0)]) _ (by omega) hrow4).mono ?_
        rintro e w5 ⟨rfl, hb5⟩
        rw [HP2.out]
        have hbel5 : Below w.heap.size w w5 := hbel4.trans (hb5.mono hbel4.size)
        go_wp2_with fail
        refine (field_any 128 7 1 _ (by decide) (by decide) (by decide)).mono ?_
        rintro e w6 ⟨rfl, n6, rfl⟩
        rw [HP3.out]
        go_wp2
        go_ret
        exact ⟨by simp, below_drewN hbel5 _⟩
      · have h8 : low = 8 := by omega
        subst h8
        clear hlo0 hlo8 hl
        obtain ⟨a2, cap2, hv2, hrow2⟩ := own_row2 hown HF.out
        have HP : Hid (Bm.packRes (ps) = (x, 0)) := parts_whole _ x hx0 hx1 HF.out HS.out
        have HP2 : Hid (Bm.packRes (ps ++ [(1, 0)]) = (0, 5)) := parts_long _ x HF.out HS.out
        have HP3 : Hid (Bm.fld 128 7 1 = 1) := by show Bm.fld 128 7 1 = 1; decide
        have hlen2 : (ps).length ≤ 9 := by first | (simp; omega) | omega
        generalize ps = qs at *
        rw [hv2] at hown ⊢
        clear hv2
        go_wp2_with fail
        refine (pack_any _ _ _ qs _ (by omega) hrow2).mono ?_
        rintro e w3 ⟨rfl, hb3⟩
        rw [HP.out]
        have hbel3 : Below w.heap.size w w3 := hbel.trans (hb3.mono hbel.size)
        have hown3 := own_later hown hb3
        clear hown hrow2
        go_wp2_with (at_builtin; refine wpList_append_own _ rfl _ _ 23 rfl w.heap.size 25 i0 (.agg #[.int .i64 0, .int .i64 0]) 2 16 Try.underlying23 hi hz0 hz1 hz2 rfl (by decide) _ _ _ rfl (hown3.alloc _) ⟨w3.heap.size, 0, none⟩ 1 1 [.int .i64 1, .int .i64 0] rfl rfl (two_new _ _) (two_one _ _) ?d3 ?d4 ?d5 ?_)
        case d3 => unfold maxLen; omega
        case d4 => omega
        case d5 => have := hbel3.size; simp; omega
        intro v4 w4 hown4 hgrow4 _
        have hbel4 : Below w.heap.size w w4 := (hbel3.alloc hbel3.size _).grown hgrow4 (by have := hbel3.size; simp; omega) (own_base hown3)
        have hown5 : w4.ownsRow w.heap.size 25 2 v4 (qs.length + 1) (flat (qs ++ [(1, 0)])) := by
          rw [flat_snoc]; exact hown4
        obtain ⟨a4, cap4, hv4, hrow4⟩ := own_row2 hown5 (fits_snoc qs _ HF.out (by decide))
        rw [hv4]
        clear hown4 hown5 hgrow4 hv4 hown3
        go_wp2_with fail
        refine (pack_any _ _ _ (qs ++ [(1, 0)]) _ (by omega) hrow4).mono ?_
        rintro e w5 ⟨rfl, hb5⟩
        rw [HP2.out]
        have hbel5 : Below w.heap.size w w5 := hbel4.trans (hb5.mono hbel4.size)
        go_wp2_with fail
        refine (field_any 128 7 1 _ (by decide) (by decide) (by decide)).mono ?_
        rintro e w6 ⟨rfl, n6, rfl⟩
        rw [HP3.out]
        go_wp2
        go_ret
        exact ⟨by simp, below_drewN hbel5 _⟩

theorem walk_BitsParts (x : Int) (a : Option Addr) (len cap : Nat) (xs : List Int) (w : World) (hx : 0 ≤ x ∧ x ≤ 255) (hr : Row .i64 w a len cap xs) :
    Calls Try.prog 3 #[.int .u8 x, .slice a len cap] w fun e w' => e = .returned (.bool true) ∧ Below w.heap.size w w' := by
  cases a with
  | none =>
    rcases hr.2.2.2.2 with ⟨_, rfl, rfl⟩ | ⟨⟨y, h⟩, _⟩ | ⟨b, off, h, _⟩
    · exact parts_nil x w hx.1 hx.2
    · cases h
    · cases h
  | some xa =>
    by_cases h8 : len ≤ 8
    · exact parts_few x xa len cap xs w hx.1 hx.2 hr h8
    · exact parts_many x xa len cap xs w hx.1 hx.2 hr (by omega)
end Go.Proofs.Ytpihicgmfjaghab
