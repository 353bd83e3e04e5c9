/-
  The walk of the statements' wakes: what the document's own example says holds.
-/
import Derived.Test.YtoakkfmebdglhaaDoorNewWalks
import Derived.Test.YtoakkfmebdglhaaDoorStuffWalks
namespace Go.Proofs.YtoakkfmebdglhaaDoor
open Go.RowKit
set_option linter.unusedVariables false
set_option linter.unusedSimpArgs false

theorem str_eq {a b : ByteArray} (h : a = b) : (a.toList == b.toList) = true := by rw [h]; simp
theorem str_ne {a b : ByteArray} (h : a ≠ b) : (a.toList == b.toList) = false := by
  rw [ByteArray.toList_eq, ByteArray.toList_eq]
  simp only [beq_eq_false_iff_ne, ne_eq]
  intro e
  exact h (ByteArray.ext (Array.toList_inj.1 e))

/-- what a frame of these octets is met as -/
def metB (s : ByteArray) : List Hm.Ev := if s.size = 0 then [] else if 266 < s.size then [(2, ByteArray.empty)] else [(0, s)]
theorem met_nums (s : ByteArray) : Hm.met (Bm.nums s) = metB s := by
  have hl := Bm.nums_length s
  unfold Hm.met metB
  rw [hl, Bm.str_nums]
  by_cases h0 : s.size = 0
  · rw [if_pos h0, if_pos (List.eq_nil_of_length_eq_zero (by rw [hl]; exact h0))]
  · rw [if_neg h0, if_neg (fun h => h0 (by rw [← hl, h]; rfl))]
theorem feed_enc {st : Hm.St} (h : Hm.Ready st) (s : ByteArray) : Hm.feedS st (Bm.nums (encB s)) = (⟨0, true, []⟩, metB s) := by
  rw [nums_enc, ← met_nums]
  exact Hm.feed_frame h (Bm.nums s) (Bm.nums_range s)
theorem nums_app (a b : ByteArray) : Bm.nums (a ++ b) = Bm.nums a ++ Bm.nums b := by simp [Bm.nums]

/-- a row of one event -/
theorem row_one {w : World} {B : Nat} {x : Value} {k : Int} {o : ByteArray} (h : w.ownsRow B 47 2 x 1 (evCells [(k, o)])) :
    ∃ g cap, x = .slice (some ⟨g, 0, none⟩) 1 cap ∧ w.cell? ⟨g, 0, none⟩ = some (.int .i64 k) ∧ w.cell? ⟨g, 1, none⟩ = some (.string o) ∧ B ≤ g ∧ g < w.heap.size := by
  obtain ⟨g, cap, rfl⟩ : ∃ g cap, x = .slice (some ⟨g, 0, none⟩) 1 cap := by
    rcases h.2 with ⟨_, h0⟩ | ⟨g, cap, cur, h, _⟩
    · omega
    · exact ⟨g, cap, h⟩
  exact ⟨g, cap, rfl, h.cellAt 0 (by omega), h.cellAt 1 (by omega), (h.lt g rfl).1, (h.lt g rfl).2⟩

theorem enc_tilde : encB ⟨#[126]⟩ = ⟨#[48, 49, 49, 49, 49, 49, 49, 48, 48, 49, 49, 49, 49, 49, 48, 49, 48, 48, 49, 49, 49, 49, 49, 49, 48]⟩ := by decide +kernel
theorem enc_tilde_list : (encB ⟨#[126]⟩).toList = [48, 49, 49, 49, 49, 49, 49, 48, 48, 49, 49, 49, 49, 49, 48, 49, 48, 48, 49, 49, 49, 49, 49, 49, 48] := by rw [enc_tilde, ByteArray.toList_eq]
theorem met_tilde : metB ⟨#[126]⟩ = [(0, ⟨#[126]⟩)] := by
  rw [metB, if_neg (by decide), if_neg (by decide)]

set_option maxHeartbeats 400000 in
theorem wakes_any (w : World) (hm : MaxOk w) : Calls Tryd.prog 11 #[] w fun e w' => e = .returned (.bool true) ∧ Below w.heap.size w w' := by
  go_enter Tryd.func11, Tryd.ntmps11
  go_wp2_with fail
  refine (new_any _).mono ?_
  rintro e w1 ⟨rfl, hd, hb1⟩
  have hd1 := hd w.heap.size (Nat.le_refl _)
  have hm1 := hm.later hb1 hm.lt
  go_wp2_with fail
  refine (encode_any ⟨#[126]⟩ _ (by decide) hm1).mono ?_
  rintro e w2 ⟨rfl, hb2⟩
  have hd2 := hd1.below hb2 (Nat.le_refl _)
  have hs2 := hb1.size
  have hs3 := hb2.size
  have hz : (encB ⟨#[126]⟩).size ≤ 32 := (enc_size _).2
  go_wp2_with fail
  refine (feed_any _ _ w.heap.size w.heap.size _ _ hd2 (by omega) (by omega) (by simp [Hm.init]; omega)).mono ?_
  rintro e w3 ⟨x, v3, rfl, hF⟩
  rw [feed_enc Hm.ready_init, met_tilde] at hF
  obtain ⟨g, cap, rfl, hc0, hc1, hg1, hg2⟩ := row_one hF.row
  have hb3 : Below w.heap.size w2 w3 := hF.kept.below (by omega) (fun k hk => by rcases hk with rfl | hk; exact Nat.le_refl _; simp [Value.ownBlock] at hk)
  have hm3 : MaxOk w3 := (hm1.later hb2 (by have := hm.lt; omega)).later hb3 hm.lt
  go_wp2_with fail
  refine (encode_any ⟨#[126]⟩ _ (by decide) hm3).mono ?_
  rintro e w4 ⟨rfl, hb4⟩
  have q0 := (hb4.cell (p := ⟨g, 0, none⟩) hg2).trans hc0
  have q1 := (hb4.cell (p := ⟨g, 1, none⟩) hg2).trans hc1
  have hq := enc_tilde_list
  have hs4 := hb4.size
  have hs5 := hb3.size
  have hlt4 : g < w4.heap.size := by omega
  go_wp2
  go_ret
  exact ⟨by simp, ((hb1.trans (hb2.mono hs2)).trans hb3).trans (hb4.mono (by omega))⟩
end Go.Proofs.YtoakkfmebdglhaaDoor
