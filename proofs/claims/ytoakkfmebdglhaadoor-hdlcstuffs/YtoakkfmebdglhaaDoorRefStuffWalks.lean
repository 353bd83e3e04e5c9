/-
  The walks of the document's Stuff, Encode and Unstuff: the stuffed bits; the bits whose stuffed ones they are, or the error. Nothing that was there is turned.
-/
import Derived.Test.YtoakkfmebdglhaaDoorUnstuffWalks
import Derived.Test.YtoakkfmebdglhaaDoorRefOfWalks
import Derived.Test.YtoakkfmebdglhaaDoorRefGoodWalks
namespace Go.Proofs.YtoakkfmebdglhaaDoor
open Go.RowKit
set_option linter.unusedVariables false
set_option linter.unusedSimpArgs false

theorem nums_drop (s : ByteArray) (i : Nat) (h : i < s.size) : (Bm.nums s).drop i = (s[i].toNat : Int) :: (Bm.nums s).drop (i + 1) := by
  rw [List.drop_eq_getElem_cons (by rw [Bm.nums_length]; exact h), Bm.nums_get s i h]
theorem nums_done (s : ByteArray) (i : Nat) (h : ¬ i < s.size) : (Bm.nums s).drop i = [] := List.drop_eq_nil_of_le (by rw [Bm.nums_length]; omega)
theorem two_one (x y : Int) : ∀ u ∈ [Value.int .u8 x], u.oneCell' = true := one_one x

set_option maxHeartbeats 1000000 in
theorem ref_stuff_any (s : ByteArray) (w : World) (hs : s.size ≤ 1000000) :
    Calls Tryd.prog 13 #[.string s] w fun e w' => e = .returned (.string (strOfNums (Hm.stuff 0 (Bm.nums s)))) ∧ Below w.heap.size w w' := by
  obtain ⟨i0, hi, hz0, hz1, hz2⟩ := info_parts byte5
  go_enter Tryd.func13, Tryd.ntmps13
  go_wp2
  go_loopw [3, 4, 5] (fun v o c wr => ∃ (i k : Nat) (pre : List Int), i ≤ s.size ∧ k ≤ 4 ∧ c = .int .i64 i ∧ o = .int .i64 k ∧ pre.length ≤ 2 * i ∧ Hid (Hm.stuff 0 (Bm.nums s) = pre ++ Hm.stuff k ((Bm.nums s).drop i)) ∧ wr.ownsRow w.heap.size 5 1 v pre.length (pre.map (Value.int .u8)) ∧ Below w.heap.size w wr)
    (fun _ _ c _ => s.size - (intOf c).toNat)
  case atStart => exact ⟨0, 0, [], Nat.zero_le _, by decide, rfl, rfl, by simp, by show _ = _; rfl, World.ownsRow_nil _ _ _ _, Below.refl _ _⟩
  case round =>
    obtain ⟨i, k, pre, hik, hk4, rfl, rfl, hpl, HS, hown, hbel⟩ := hrel
    have hbs : w.heap.size ≤ wr.heap.size := hbel.size
    by_cases hlt : i < s.size
    · have HD := nums_drop s i hlt
      have HDD : Hid ((Bm.nums s).drop i = (s[i].toNat : Int) :: (Bm.nums s).drop (i + 1)) := HD
      clear HD
      by_cases h49 : (s[i].toNat : Int) = 49
      · have t9 : ((s[i].toNat : Int) == 49) = true := by simp [h49]
        by_cases h4 : k = 4
        · have HN : Hid (Hm.stuff 0 (Bm.nums s) = (pre ++ [49, 48]) ++ Hm.stuff 0 ((Bm.nums s).drop (i + 1))) := by
            show _ = _
            rw [HS.out, HDD.out, Hm.stuff, if_pos h49, if_pos h4]; simp
          clear h49
          subst h4
          go_wp2_with (at_builtin; refine wpList_append_own _ rfl _ _ 34 rfl w.heap.size 5 i0 (.int .u8 0) 1 1 Tryd.underlying34 hi hz0 hz1 hz2 rfl (by decide) _ _ _ rfl (hown.alloc _) ⟨wr.heap.size, 0, none⟩ 1 1 [.int .u8 49] rfl rfl (one_new _) (one_one _) ?c3 ?c4 ?c5 ?_)
          case c3 => unfold maxLen; omega
          case c4 => omega
          case c5 => simp; omega
          intro v' w1 hown' hgrow _
          have hbel1 : Below w.heap.size w w1 := (hbel.alloc hbel.size _).grown hgrow (by simp; omega) (own_base hown)
          have hs1 : w.heap.size ≤ w1.heap.size := hbel1.size
          clear hgrow hown
          go_wp2_with (at_builtin; refine wpList_append_own _ rfl _ _ 34 rfl w.heap.size 5 i0 (.int .u8 0) 1 1 Tryd.underlying34 hi hz0 hz1 hz2 rfl (by decide) _ _ _ rfl (hown'.alloc _) ⟨w1.heap.size, 0, none⟩ 1 1 [.int .u8 48] rfl rfl (one_new _) (one_one _) ?d3 ?d4 ?d5 ?_)
          case d3 => unfold maxLen; omega
          case d4 => omega
          case d5 => simp; omega
          intro v2 w2 hown2 hgrow2 _
          have hbel2 : Below w.heap.size w w2 := (hbel1.alloc hbel1.size _).grown hgrow2 (by simp; omega) (own_base hown')
          have hown3 : w2.ownsRow w.heap.size 5 1 v2 (pre ++ [49, 48]).length ((pre ++ [49, 48]).map (Value.int .u8)) := by simpa [Nat.add_assoc] using hown2
          clear hown' hgrow2 hown2
          go_wp2
          go_roundw
          case rel => exact ⟨i + 1, 0, pre ++ [49, 48], by omega, by decide, by go_num, rfl, by simp; omega, HN, hown3, hbel2⟩
          case measure => simp [intOf]; omega
        · have HN : Hid (Hm.stuff 0 (Bm.nums s) = (pre ++ [49]) ++ Hm.stuff (k + 1) ((Bm.nums s).drop (i + 1))) := by
            show _ = _
            rw [HS.out, HDD.out, Hm.stuff, if_pos h49, if_neg h4]; simp
          have t5 : ((k : Int) + 1 == 5) = false := by simp; omega
          clear h49
          go_wp2_with (at_builtin; refine wpList_append_own _ rfl _ _ 34 rfl w.heap.size 5 i0 (.int .u8 0) 1 1 Tryd.underlying34 hi hz0 hz1 hz2 rfl (by decide) _ _ _ rfl (hown.alloc _) ⟨wr.heap.size, 0, none⟩ 1 1 [.int .u8 49] rfl rfl (one_new _) (one_one _) ?c3 ?c4 ?c5 ?_)
          case c3 => unfold maxLen; omega
          case c4 => omega
          case c5 => simp; omega
          intro v' w1 hown' hgrow _
          have hbel1 : Below w.heap.size w w1 := (hbel.alloc hbel.size _).grown hgrow (by simp; omega) (own_base hown)
          have hown3 : w1.ownsRow w.heap.size 5 1 v' (pre ++ [49]).length ((pre ++ [49]).map (Value.int .u8)) := by simpa using hown'
          clear hgrow hown hown'
          go_wp2
          go_roundw
          case rel => exact ⟨i + 1, k + 1, pre ++ [49], by omega, by omega, by go_num, by go_num, by simp; omega, HN, hown3, hbel1⟩
          case measure => simp [intOf]; omega
      · have t9 : ((s[i].toNat : Int) == 49) = false := by simpa using h49
        have HN : Hid (Hm.stuff 0 (Bm.nums s) = (pre ++ [48]) ++ Hm.stuff 0 ((Bm.nums s).drop (i + 1))) := by
          show _ = _
          rw [HS.out, HDD.out, Hm.stuff, if_neg h49]; simp
        clear h49
        go_wp2_with (at_builtin; refine wpList_append_own _ rfl _ _ 34 rfl w.heap.size 5 i0 (.int .u8 0) 1 1 Tryd.underlying34 hi hz0 hz1 hz2 rfl (by decide) _ _ _ rfl (hown.alloc _) ⟨wr.heap.size, 0, none⟩ 1 1 [.int .u8 48] rfl rfl (one_new _) (one_one _) ?c3 ?c4 ?c5 ?_)
        case c3 => unfold maxLen; omega
        case c4 => omega
        case c5 => simp; omega
        intro v' w1 hown' hgrow _
        have hbel1 : Below w.heap.size w w1 := (hbel.alloc hbel.size _).grown hgrow (by simp; omega) (own_base hown)
        have hown3 : w1.ownsRow w.heap.size 5 1 v' (pre ++ [48]).length ((pre ++ [48]).map (Value.int .u8)) := by simpa using hown'
        clear hgrow hown hown'
        go_wp2
        go_roundw
        case rel => exact ⟨i + 1, 0, pre ++ [48], by omega, by decide, by go_num, rfl, by simp; omega, HN, hown3, hbel1⟩
        case measure => simp [intOf]; omega
    · have HE : Hid (Hm.stuff 0 (Bm.nums s) = pre) := by show _ = _; rw [HS.out, nums_done s i hlt]; simp [Hm.stuff]
      have hcv := conv_own hown
      go_wp2
      go_ret
      exact ⟨ret_str (by rw [HE.out]), hbel⟩

set_option maxHeartbeats 400000 in
theorem ref_encode_any (s : ByteArray) (w : World) (hs : s.size ≤ 100000) :
    Calls Tryd.prog 15 #[.string s] w fun e w' => e = .returned (.string (encB s)) ∧ Below w.heap.size w w' := by
  have hz := stuffed_size s
  go_enter Tryd.func15, Tryd.ntmps15
  go_wp2_with fail
  refine (ref_of_any s _ (by omega)).mono ?_
  rintro e w1 ⟨rfl, hb1⟩
  have hst := ref_stuff_any (strOfNums (Bm.ofN (Bm.nums s))) w1 (by rw [strOfNums_size, Bm.ofN_length, Bm.nums_length]; omega)
  rw [nums_of] at hst
  go_wp2_with fail
  refine hst.mono ?_
  rintro e w2 ⟨rfl, hb2⟩
  clear hst
  have HE : Hid ((⟨#[48, 49, 49, 49, 49, 49, 49, 48]⟩ : ByteArray) ++ strOfNums (Hm.stuff 0 (Bm.ofN (Bm.nums s))) ++ ⟨#[48, 49, 49, 49, 49, 49, 49, 48]⟩ = encB s) := enc_eq s
  go_wp2
  go_ret
  exact ⟨ret_str HE.out, hb1.trans (hb2.mono hb1.size)⟩

set_option maxHeartbeats 1000000 in
theorem ref_unstuff_any (s : ByteArray) (w : World) (hs : s.size ≤ 1000000) :
    Calls Tryd.prog 10 #[.string s] w fun e w' => e = .returned (.tuple #[.string (unstRes (Bm.nums s)).1, .int .i64 (unstRes (Bm.nums s)).2]) ∧ Below w.heap.size w w' := by
  obtain ⟨i0, hi, hz0, hz1, hz2⟩ := info_parts byte5
  cases hg : Bm.goodN (Bm.nums s) with
  | false =>
    rw [unstRes, if_pos hg]
    go_enter Tryd.func10, Tryd.ntmps10
    go_wp2_with (go_at_call 27; refine (ref_good_any _ _ (by omega)).mono ?_; rintro e w' ⟨rfl, rfl⟩)
    go_ret2
    exact ⟨rfl, Below.refl _ _⟩
  | true =>
    have HU : Hid (unstRes (Bm.nums s) = if Hm.has6 0 (Bm.nums s) = true then (ByteArray.empty, 4) else if Hm.row 0 (Bm.nums s) = 5 then (ByteArray.empty, 3) else (strOfNums (Hm.unst 0 (Bm.nums s)), 0)) := by
      show _ = _
      rw [unstRes, if_neg (by rw [hg]; decide)]
    go_enter Tryd.func10, Tryd.ntmps10
    go_wp2_with (go_at_call 27; refine (ref_good_any _ _ (by omega)).mono ?_; rintro e w' ⟨rfl, rfl⟩)
    go_loop [5, 6] (fun o c => ∃ (i k : Nat), i ≤ s.size ∧ k ≤ 5 ∧ c = .int .i64 i ∧ o = .int .i64 k ∧ Hid (Hm.has6 0 (Bm.nums s) = Hm.has6 k ((Bm.nums s).drop i)) ∧ Hid (Hm.row 0 (Bm.nums s) = Hm.row k ((Bm.nums s).drop i)))
      (fun _ c => s.size - (intOf c).toNat)
    case atStart => exact ⟨0, 0, Nat.zero_le _, by decide, rfl, rfl, by show _ = _; rfl, by show _ = _; rfl⟩
    case round =>
      obtain ⟨i, k, hik, hk5, rfl, rfl, H6, HR⟩ := hrel
      by_cases hlt : i < s.size
      · have HDD : Hid ((Bm.nums s).drop i = (s[i].toNat : Int) :: (Bm.nums s).drop (i + 1)) := nums_drop s i hlt
        by_cases h49 : (s[i].toNat : Int) = 49
        · have t9 : ((s[i].toNat : Int) == 49) = true := by simp [h49]
          by_cases h5 : k = 5
          · have HE : Hid (unstRes (Bm.nums s) = (ByteArray.empty, 4)) := by
              show _ = _
              rw [HU.out, H6.out, HDD.out, Hm.has6, if_pos h49, if_pos h5, if_pos rfl]
            clear h49
            subst h5
            go_wp2
            go_ret2
            rw [HE.out]
            exact ⟨rfl, Below.refl _ _⟩
          · have N6 : Hid (Hm.has6 0 (Bm.nums s) = Hm.has6 (k + 1) ((Bm.nums s).drop (i + 1))) := by show _ = _; rw [H6.out, HDD.out, Hm.has6, if_pos h49, if_neg h5]
            have NR : Hid (Hm.row 0 (Bm.nums s) = Hm.row (k + 1) ((Bm.nums s).drop (i + 1))) := by show _ = _; rw [HR.out, HDD.out, Hm.row, if_pos h49]
            have t6 : ((k : Int) + 1 == 6) = false := by simp; omega
            clear h49
            go_wp2
            go_round
            case rel => exact ⟨i + 1, k + 1, by omega, by omega, by go_num, by go_num, N6, NR⟩
            case measure => simp [intOf]; omega
        · have t9 : ((s[i].toNat : Int) == 49) = false := by simpa using h49
          have N6 : Hid (Hm.has6 0 (Bm.nums s) = Hm.has6 0 ((Bm.nums s).drop (i + 1))) := by show _ = _; rw [H6.out, HDD.out, Hm.has6, if_neg h49]
          have NR : Hid (Hm.row 0 (Bm.nums s) = Hm.row 0 ((Bm.nums s).drop (i + 1))) := by show _ = _; rw [HR.out, HDD.out, Hm.row, if_neg h49]
          clear h49
          go_wp2
          go_round
          case rel => exact ⟨i + 1, 0, by omega, by omega, by go_num, rfl, N6, NR⟩
          case measure => simp [intOf]; omega
      · have E6 : Hid (Hm.has6 0 (Bm.nums s) = false) := by show _ = _; rw [H6.out, nums_done s i hlt]; rfl
        have ER : Hid (Hm.row 0 (Bm.nums s) = k) := by show _ = _; rw [HR.out, nums_done s i hlt]; rfl
        by_cases h5 : k = 5
        · have HE : Hid (unstRes (Bm.nums s) = (ByteArray.empty, 3)) := by
            show _ = _
            rw [HU.out, E6.out, ER.out, if_neg (by decide), if_pos h5]
          subst h5
          go_wp2
          go_ret2
          rw [HE.out]
          exact ⟨rfl, Below.refl _ _⟩
        · have HE : Hid (unstRes (Bm.nums s) = (strOfNums (Hm.unst 0 (Bm.nums s)), 0)) := by
            show _ = _
            rw [HU.out, E6.out, ER.out, if_neg (by decide), if_neg h5]
          have t5 : ((k : Int) == 5) = false := by simp; omega
          clear HU H6 HR E6 ER
          go_wp2
          go_loopw [7, 8, 9] (fun v o c wr => ∃ (j k : Nat) (pre : List Int), j ≤ s.size ∧ k ≤ 5 ∧ c = .int .i64 j ∧ o = .int .i64 k ∧ pre.length ≤ j ∧ Hid (Hm.unst 0 (Bm.nums s) = pre ++ Hm.unst k ((Bm.nums s).drop j)) ∧ wr.ownsRow w.heap.size 5 1 v pre.length (pre.map (Value.int .u8)) ∧ Below w.heap.size w wr)
            (fun _ _ c _ => s.size - (intOf c).toNat)
          case atStart => exact ⟨0, 0, [], Nat.zero_le _, by decide, rfl, rfl, by simp, by show _ = _; rfl, World.ownsRow_nil _ _ _ _, Below.refl _ _⟩
          case round =>
            obtain ⟨j, q, pre, hjk, hq5, rfl, rfl, hpl, HS, hown, hbel⟩ := hrel
            have hbs : w.heap.size ≤ wr.heap.size := hbel.size
            by_cases hlt2 : j < s.size
            · have HD2 : Hid ((Bm.nums s).drop j = (s[j].toNat : Int) :: (Bm.nums s).drop (j + 1)) := nums_drop s j hlt2
              by_cases hq : q = 5
              · have HN : Hid (Hm.unst 0 (Bm.nums s) = pre ++ Hm.unst 0 ((Bm.nums s).drop (j + 1))) := by show _ = _; rw [HS.out, HD2.out, Hm.unst, if_pos hq]
                subst hq
                go_wp2
                go_roundw
                case rel => exact ⟨j + 1, 0, pre, by omega, by decide, by go_num, rfl, by omega, HN, hown, hbel⟩
                case measure => simp [intOf]; omega
              · have tq : ((q : Int) == 5) = false := by simp; omega
                obtain ⟨c, hc⟩ : ∃ c, c = (s[j].toNat : Int) := ⟨_, rfl⟩
                have HN : Hid (Hm.unst 0 (Bm.nums s) = (pre ++ [(s[j].toNat : Int)]) ++ Hm.unst (if (s[j].toNat : Int) = 49 then q + 1 else 0) ((Bm.nums s).drop (j + 1))) := by
                  show _ = _
                  rw [HS.out, HD2.out, Hm.unst, if_neg hq]; simp
                go_wp2_with (at_builtin; refine wpList_append_own _ rfl _ _ 34 rfl w.heap.size 5 i0 (.int .u8 0) 1 1 Tryd.underlying34 hi hz0 hz1 hz2 rfl (by decide) _ _ _ rfl (hown.alloc _) ⟨wr.heap.size, 0, none⟩ 1 1 [.int .u8 (s[j].toNat : Int)] rfl rfl (one_new _) (one_one _) ?c3 ?c4 ?c5 ?_)
                case c3 => unfold maxLen; omega
                case c4 => omega
                case c5 => simp; omega
                intro v' w1 hown' hgrow _
                have hbel1 : Below w.heap.size w w1 := (hbel.alloc hbel.size _).grown hgrow (by simp; omega) (own_base hown)
                have hown3 : w1.ownsRow w.heap.size 5 1 v' (pre ++ [(s[j].toNat : Int)]).length ((pre ++ [(s[j].toNat : Int)]).map (Value.int .u8)) := by simpa using hown'
                clear hgrow hown hown' hc
                by_cases h49 : (s[j].toNat : Int) = 49
                · have t9 : ((s[j].toNat : Int) == 49) = true := by simp [h49]
                  have HN2 : Hid (Hm.unst 0 (Bm.nums s) = (pre ++ [(s[j].toNat : Int)]) ++ Hm.unst (q + 1) ((Bm.nums s).drop (j + 1))) := by show _ = _; rw [HN.out, if_pos h49]
                  clear h49
                  go_wp2
                  go_roundw
                  case rel => exact ⟨j + 1, q + 1, _, by omega, by omega, by go_num, by go_num, by simp; omega, HN2, hown3, hbel1⟩
                  case measure => simp [intOf]; omega
                · have t9 : ((s[j].toNat : Int) == 49) = false := by simpa using h49
                  have HN2 : Hid (Hm.unst 0 (Bm.nums s) = (pre ++ [(s[j].toNat : Int)]) ++ Hm.unst 0 ((Bm.nums s).drop (j + 1))) := by show _ = _; rw [HN.out, if_neg h49]
                  clear h49
                  go_wp2
                  go_roundw
                  case rel => exact ⟨j + 1, 0, _, by omega, by decide, by go_num, rfl, by simp; omega, HN2, hown3, hbel1⟩
                  case measure => simp [intOf]; omega
            · have HF : Hid (Hm.unst 0 (Bm.nums s) = pre) := by show _ = _; rw [HS.out, nums_done s j hlt2]; simp [Hm.unst]
              have hcv := conv_own hown
              go_wp2
              go_ret2
              rw [HE.out, HF.out]
              exact ⟨rfl, hbel⟩
end Go.Proofs.YtoakkfmebdglhaaDoor
