/-
  The walk of the law HdlcBack: it returns true.
-/
import Derived.Test.YtoakkfmebdglhaaDoorUnstuffWalks
import Derived.Test.YtoakkfmebdglhaaDoorWakesWalks
namespace Go.Proofs.YtoakkfmebdglhaaDoor
open Go.RowKit
set_option linter.unusedVariables false
set_option linter.unusedSimpArgs false

theorem row_take (s : ByteArray) (i : Nat) (h : i < s.size) : Hm.row 0 ((Bm.nums s).take (i + 1)) = if (s[i].toNat : Int) = 49 then Hm.row 0 ((Bm.nums s).take i) + 1 else 0 := by
  rw [Bm.nums_take s i h, Hm.row_snoc]

theorem stuff_back (l : List Int) (hb : Hm.bit l) : unstRes (Hm.stuff 0 l) = (strOfNums l, 0) := by
  have hg : Bm.goodN (Hm.stuff 0 l) = true := by
    rw [Bm.goodN, List.all_eq_true]
    intro x hx
    exact (Bm.isB_iff x).2 (Hm.stuff_bit 0 l x hx)
  have h5 := Hm.stuff_row 0 l (by decide)
  rw [unstRes, if_neg (by rw [hg]; decide), if_neg (by rw [Hm.stuff_has6 0 l (by decide)]; decide), if_neg (by omega), Hm.stuff_unst 0 l hb (by decide)]

set_option maxHeartbeats 1000000 in
theorem walk_HdlcBack (s : ByteArray) (w : World) (hs : s.size ≤ 140737488351232) (hm : MaxOk w) :
    Calls Tryd.prog 5 #[.string s] w fun e w' => e = .returned (.bool true) ∧ Below w.heap.size w w' := by
  go_enter Tryd.func5, Tryd.ntmps5
  go_wp2_with fail
  obtain ⟨t, hT⟩ : ∃ t, t = s.extract 0 (min (s.size : Int) 1000).toNat := ⟨_, rfl⟩
  have hts : t.size ≤ 1000 := by rw [hT]; simp; omega
  rw [← hT]
  clear hT
  refine (of_any t _ (by omega)).mono ?_
  rintro e w1 ⟨rfl, hb1⟩
  have hm1 := hm.later hb1 hm.lt
  have hbit : Hm.bit (Bm.nums (strOfNums (Bm.ofN (Bm.nums t)))) := by rw [nums_of]; exact Bm.ofN_01 _
  have hbs : (strOfNums (Bm.ofN (Bm.nums t))).size ≤ 8000 := by rw [strOfNums_size, Bm.ofN_length, Bm.nums_length]; omega
  generalize strOfNums (Bm.ofN (Bm.nums t)) = B at hbit hbs ⊢
  have hst := stuff_any B w1 (by omega) hm1
  have f1 : Hid (unstRes (Hm.stuff 0 (Bm.nums B)) = (B, 0)) := by
    show unstRes (Hm.stuff 0 (Bm.nums B)) = (B, 0)
    rw [stuff_back _ hbit, Bm.str_nums]
  have f2 : Hid (Bm.nums (strOfNums (Hm.stuff 0 (Bm.nums B))) = Hm.stuff 0 (Bm.nums B)) := Bm.nums_str _ (bit_range (Hm.stuff_bit _ _))
  have f3 : (strOfNums (Hm.stuff 0 (Bm.nums B))).size ≤ 16000 := by
    rw [strOfNums_size]
    have := Hm.stuff_length 0 (Bm.nums B)
    rw [Bm.nums_length] at this
    omega
  have f4 : Hid (Hm.has6 0 (Bm.nums (strOfNums (Hm.stuff 0 (Bm.nums B)))) = false) := by
    show Hm.has6 0 (Bm.nums (strOfNums (Hm.stuff 0 (Bm.nums B)))) = false
    rw [f2.out]; exact Hm.stuff_has6 0 _ (by decide)
  have f5 : Hid (unstRes (Bm.nums (strOfNums (Hm.stuff 0 (Bm.nums B)))) = (B, 0)) := by
    show unstRes (Bm.nums (strOfNums (Hm.stuff 0 (Bm.nums B)))) = (B, 0)
    rw [f2.out]; exact f1.out
  have f6 : Hid (Hm.bit (Bm.nums (strOfNums (Hm.stuff 0 (Bm.nums B))))) := by
    show Hm.bit (Bm.nums (strOfNums (Hm.stuff 0 (Bm.nums B))))
    rw [f2.out]; exact Hm.stuff_bit 0 _
  clear f1 f2
  generalize strOfNums (Hm.stuff 0 (Bm.nums B)) = T at hst f3 f4 f5 f6
  go_wp2_with fail
  refine hst.mono ?_
  rintro e w2 ⟨rfl, hb2⟩
  have hq2 := hb1.trans (hb2.mono hb1.size)
  have hm2 := hm.later hq2 hm.lt
  clear hst hm1 hb1 hb2
  have hun := unstuff_any T w2 (by omega) hm2
  rw [f5.out] at hun
  go_wp2_with fail
  refine hun.mono ?_
  rintro e w3 ⟨rfl, hb3⟩
  have hq3 := hq2.trans (hb3.mono hq2.size)
  have hm3 := hm.later hq3 hm.lt
  clear hun hm2 hb3 hq2
  go_wp2
  go_loop [7, 24] (fun x c => ∃ i : Nat, i ≤ T.size ∧ c = .int .i64 i ∧ x = .int .i64 ((Hm.row 0 ((Bm.nums T).take i) : Nat) : Int)) (fun _ c => T.size - (intOf c).toNat)
  case atStart => exact ⟨0, Nat.zero_le _, rfl, rfl⟩
  case round =>
    obtain ⟨i, hi, rfl, rfl⟩ := hrel
    have hr : Hm.row 0 ((Bm.nums T).take i) ≤ 5 := Hm.row_le 0 _ (by decide) (Hm.has6_take _ _ _ f4.out)
    by_cases hlt : i < T.size
    · have HR : Hid (Hm.row 0 ((Bm.nums T).take (i + 1)) = if (T[i].toNat : Int) = 49 then Hm.row 0 ((Bm.nums T).take i) + 1 else 0) := row_take T i hlt
      have hr1 : Hm.row 0 ((Bm.nums T).take (i + 1)) ≤ 5 := Hm.row_le 0 _ (by decide) (Hm.has6_take _ _ _ f4.out)
      have hb01 : (T[i].toNat : Int) = 48 ∨ (T[i].toNat : Int) = 49 := f6.out _ (by rw [← Bm.nums_get T i hlt]; exact List.getElem_mem _)
      rcases hb01 with h | h
      · have t8 : ((T[i].toNat : Int) == 48) = true := by simp [h]
        have HR2 : Hid (Hm.row 0 ((Bm.nums T).take (i + 1)) = 0) := by show _ = _; rw [HR.out, if_neg (by rw [h]; decide)]
        clear h hr1
        go_wp2
        go_round
        case rel => exact ⟨i + 1, by omega, by go_num, by rw [HR2.out]; rfl⟩
        case measure => simp [intOf]; omega
      · have t8 : ((T[i].toNat : Int) == 48) = false := by simp [h]
        have HR2 : Hid (Hm.row 0 ((Bm.nums T).take (i + 1)) = Hm.row 0 ((Bm.nums T).take i) + 1) := by show _ = _; rw [HR.out, if_pos h]
        have hle : Hm.row 0 ((Bm.nums T).take i) + 1 ≤ 5 := by rw [← HR2.out]; exact hr1
        have hle' : ¬ (5 : Int) < ((Hm.row 0 ((Bm.nums T).take i) : Nat) : Int) + 1 := by omega
        clear h hr1
        go_wp2
        go_round
        case rel => exact ⟨i + 1, by omega, by go_num, by rw [HR2.out]; go_num⟩
        case measure => simp [intOf]; omega
    · go_wp2_with (go_at_call 11; refine (wakes_any _ hm3).mono ?_; rintro e w4 ⟨rfl, hb4⟩)
      go_ret
      exact ⟨by simp, hq3.trans (hb4.mono hq3.size)⟩
end Go.Proofs.YtoakkfmebdglhaaDoor
