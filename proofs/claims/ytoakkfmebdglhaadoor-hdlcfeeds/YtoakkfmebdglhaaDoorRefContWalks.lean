/-
  The walks of the document's content and ended: what bits between two flags are. Nothing that was there is turned.
-/
import Derived.Test.YtoakkfmebdglhaaDoorRefDecMath
import Derived.Test.YtoakkfmebdglhaaDoorEndedWalks
import Derived.Test.YtoakkfmebdglhaaDoorRefOctetsWalks
namespace Go.Proofs.YtoakkfmebdglhaaDoor
open Go.RowKit
set_option linter.unusedVariables false
set_option linter.unusedSimpArgs false

/-- a byte of a row of the call's caller's own -/
theorem row_byte {w : World} {base n cap : Nat} {a : Option Addr} {xs : List Int} (h : w.ownsRow base 5 1 (.slice a n cap) n (xs.map (Value.int .u8))) (i : Nat) (hi : i < n) :
    ∃ g, a = some ⟨g, 0, none⟩ ∧ w.cell? ⟨g, i, none⟩ = some (.int .u8 (xs.getD i 0)) ∧ g < w.heap.size := by
  have hl : xs.length = n := by have := h.1; simpa using this
  obtain ⟨g, hg⟩ : ∃ g, a = some ⟨g, 0, none⟩ := by
    rcases h.2 with ⟨_, h0⟩ | ⟨g, cap', cur, h', _⟩
    · omega
    · injection h' with h1 h2 h3; exact ⟨g, h1⟩
  subst hg
  refine ⟨g, rfl, ?_, (h.lt g rfl).2⟩
  rw [h.cellAt i (by omega)]
  simp [List.getD, List.getElem?_eq_getElem (show i < xs.length by omega)]

theorem drop_getD (xs : List Int) (i : Nat) (h : i < xs.length) : xs.drop i = xs.getD i 0 :: xs.drop (i + 1) := by
  rw [List.drop_eq_getElem_cons h]
  simp [List.getD, h]

set_option maxHeartbeats 1000000 in
theorem ref_content_any (xs : List Int) (base : Nat) (v : Value) (w : World) (hl : xs.length ≤ 1000000) (h : w.ownsRow base 5 1 v xs.length (xs.map (Value.int .u8))) :
    Calls Tryd.prog 40 #[v] w fun e w' => ∃ x, e = .returned x ∧ w'.ownsRow w.heap.size 5 1 x (Hm.refCont xs).length ((Hm.refCont xs).map (Value.int .u8)) ∧ Below w.heap.size w w' := by
  obtain ⟨i0, hi, hz0, hz1, hz2⟩ := info_parts byte5
  obtain ⟨a, cap, hv⟩ : ∃ a cap, v = .slice a xs.length cap := by
    rcases h.2 with ⟨rfl, h0⟩ | ⟨g, cap, cur, rfl, _⟩
    · exact ⟨none, 0, by rw [h0]⟩
    · exact ⟨_, cap, rfl⟩
  subst hv
  go_enter Tryd.func40, Tryd.ntmps40
  go_wp2
  go_loopw [3, 4, 5] (fun v o c wr => ∃ (i k : Nat) (pre : List Int), i ≤ xs.length ∧ k ≤ i ∧ c = .int .i64 i ∧ o = .int .i64 k ∧ pre.length ≤ i ∧ Hid (Hm.raw 0 xs = pre ++ Hm.raw k (xs.drop i)) ∧ wr.ownsRow w.heap.size 5 1 v pre.length (pre.map (Value.int .u8)) ∧ Below w.heap.size w wr)
    (fun _ _ c _ => xs.length - (intOf c).toNat)
  case atStart => exact ⟨0, 0, [], Nat.zero_le _, Nat.le_refl _, rfl, rfl, by simp, by show _ = _; rfl, World.ownsRow_nil _ _ _ _, Below.refl _ _⟩
  case round =>
    obtain ⟨i, k, pre, hik, hki, rfl, rfl, hpl, HS, hown, hbel⟩ := hrel
    have hbs : w.heap.size ≤ wr.heap.size := hbel.size
    by_cases hlt : i < xs.length
    · obtain ⟨g, hga, hgc, hgl⟩ := row_byte h i hlt
      have hgr := (hbel.cell (p := ⟨g, i, none⟩) hgl).trans hgc
      have HDD : Hid (xs.drop i = xs.getD i 0 :: xs.drop (i + 1)) := drop_getD xs i hlt
      obtain ⟨c, hc⟩ : ∃ c, c = xs.getD i 0 := ⟨_, rfl⟩
      rw [← hc] at hgr HDD
      clear hc hgc
      subst hga
      by_cases h49 : c = 49
      · have t9 : (c == 49) = true := by simp [h49]
        by_cases h5 : k + 1 ≤ 5
        · have HN : Hid (Hm.raw 0 xs = (pre ++ [49]) ++ Hm.raw (k + 1) (xs.drop (i + 1))) := by
            show _ = _
            rw [HS.out, HDD.out, Hm.raw, if_pos h49, if_pos h5]; simp
          have t5 : (k : Int) + 1 ≤ 5 := by omega
          clear h49
          go_wp2_with (at_builtin; refine wpList_append_own _ rfl _ _ 34 rfl w.heap.size 5 i0 (.int .u8 0) 1 1 Tryd.underlying34 hi hz0 hz1 hz2 rfl (by decide) _ _ _ rfl (hown.alloc _) ⟨wr.heap.size, 0, none⟩ 1 1 [.int .u8 49] rfl rfl (one_new _) (one_one _) ?c3 ?c4 ?c5 ?_)
          case c3 => unfold maxLen; omega
          case c4 => omega
          case c5 => simp; omega
          intro v' w1 hown' hgrow _
          have hbel1 : Below w.heap.size w w1 := (hbel.alloc hbel.size _).grown hgrow (by simp; omega) (own_base hown)
          have hown3 : w1.ownsRow w.heap.size 5 1 v' (pre ++ [49]).length ((pre ++ [49]).map (Value.int .u8)) := by simpa using hown'
          clear hgrow hown hown'
          go_wp2
          go_roundw
          case rel => exact ⟨i + 1, k + 1, pre ++ [49], by omega, by omega, by go_num, by go_num, by simp; omega, HN, hown3, hbel1⟩
          case measure => simp [intOf]; omega
        · have HN : Hid (Hm.raw 0 xs = pre ++ Hm.raw (k + 1) (xs.drop (i + 1))) := by
            show _ = _
            rw [HS.out, HDD.out, Hm.raw, if_pos h49, if_neg h5]
          have t5 : ¬ (k : Int) + 1 ≤ 5 := by omega
          clear h49
          go_wp2
          go_roundw
          case rel => exact ⟨i + 1, k + 1, pre, by omega, by omega, by go_num, by go_num, by omega, HN, hown, hbel⟩
          case measure => simp [intOf]; omega
      · have t9 : (c == 49) = false := by simpa using h49
        by_cases h5 : k < 5
        · have HN : Hid (Hm.raw 0 xs = (pre ++ [48]) ++ Hm.raw 0 (xs.drop (i + 1))) := by
            show _ = _
            rw [HS.out, HDD.out, Hm.raw, if_neg h49, if_pos h5]; simp
          have t5 : (k : Int) < 5 := by omega
          clear h49
          go_wp2_with (at_builtin; refine wpList_append_own _ rfl _ _ 34 rfl w.heap.size 5 i0 (.int .u8 0) 1 1 Tryd.underlying34 hi hz0 hz1 hz2 rfl (by decide) _ _ _ rfl (hown.alloc _) ⟨wr.heap.size, 0, none⟩ 1 1 [.int .u8 48] rfl rfl (one_new _) (one_one _) ?c3 ?c4 ?c5 ?_)
          case c3 => unfold maxLen; omega
          case c4 => omega
          case c5 => simp; omega
          intro v' w1 hown' hgrow _
          have hbel1 : Below w.heap.size w w1 := (hbel.alloc hbel.size _).grown hgrow (by simp; omega) (own_base hown)
          have hown3 : w1.ownsRow w.heap.size 5 1 v' (pre ++ [48]).length ((pre ++ [48]).map (Value.int .u8)) := by simpa using hown'
          clear hgrow hown hown'
          go_wp2
          go_roundw
          case rel => exact ⟨i + 1, 0, pre ++ [48], by omega, by omega, by go_num, rfl, by simp; omega, HN, hown3, hbel1⟩
          case measure => simp [intOf]; omega
        · have HN : Hid (Hm.raw 0 xs = pre ++ Hm.raw 0 (xs.drop (i + 1))) := by
            show _ = _
            rw [HS.out, HDD.out, Hm.raw, if_neg h49, if_neg h5]
          have t5 : ¬ (k : Int) < 5 := by omega
          clear h49
          go_wp2
          go_roundw
          case rel => exact ⟨i + 1, 0, pre, by omega, by omega, by go_num, rfl, by omega, HN, hown, hbel⟩
          case measure => simp [intOf]; omega
    · have HE : Hid (Hm.raw 0 xs = pre) := by show _ = _; rw [HS.out, List.drop_eq_nil_of_le (by omega)]; simp [Hm.raw]
      by_cases h6 : pre.length < 6
      · have HC : Hid (Hm.refCont xs = []) := by show _ = _; unfold Hm.refCont; rw [HE.out, if_pos h6]
        obtain ⟨b, cap2, hv2⟩ : ∃ b cap2, u3 = .slice b pre.length cap2 := by
          rcases hown.2 with ⟨rfl, h0⟩ | ⟨g, cap2, cur, rfl, _⟩
          · exact ⟨none, 0, by rw [h0]⟩
          · exact ⟨_, cap2, rfl⟩
        subst hv2
        have t6 : (pre.length : Int) < 6 := by omega
        clear h6
        go_wp2
        go_ret
        rw [HC.out]
        exact ⟨_, rfl, World.ownsRow_nil _ _ _ _, hbel⟩
      · obtain ⟨n, hn⟩ : ∃ n, pre.length = n + 6 := ⟨pre.length - 6, by omega⟩
        have HC : Hid (Hm.refCont xs = pre.take n) := by show _ = _; unfold Hm.refCont; rw [HE.out, if_neg h6, hn, Nat.add_sub_cancel]
        obtain ⟨g2, cap2, hv2, hcp, hcm⟩ : ∃ g2 cap2, u3 = .slice (some ⟨g2, 0, none⟩) pre.length cap2 ∧ pre.length ≤ cap2 ∧ cap2 ≤ maxLen := by
          rcases hown.2 with ⟨rfl, h0⟩ | ⟨g2, cap2, cur, rfl, _, _, h1, h2, _⟩
          · omega
          · exact ⟨g2, cap2, rfl, h1, h2⟩
        subst hv2
        unfold maxLen at hcm
        have hcut := own_cut hown n (by omega)
        have hlen : (pre.take n).length = n := by simp; omega
        have HL : Hid ((pre.take n).length = n) := hlen
        rw [hn] at hcp
        have t6 : ¬ (n : Int) + 6 < 6 := by omega
        clear h6 hlen hown
        go_wp2
        go_ret
        rw [HC.out, HL.out]
        exact ⟨_, rfl, hcut, hbel⟩
end Go.Proofs.YtoakkfmebdglhaaDoor
