/-
  The walk of the law HdlcAborts: it returns true.
-/
import Derived.Test.YtoakkfmebdglhaaDoorWakesWalks
namespace Go.Proofs.YtoakkfmebdglhaaDoor
open Go.RowKit
set_option linter.unusedVariables false
set_option linter.unusedSimpArgs false

/-- bits of a frame that isn't over, seven 1s, a 0, and a frame -/
theorem feed_aborts (P : List Int) (hb : Hm.bit P) (h6 : Hm.has6 0 P = false) (z : ByteArray) :
    Hm.feedS Hm.init (flagN ++ P ++ [49, 49, 49, 49, 49, 49, 49] ++ [48] ++ encN (Bm.nums z)) = (⟨0, true, []⟩, (1, ByteArray.empty) :: metB z) := by
  have hfl : Hm.feedS Hm.init flagN = (⟨0, true, []⟩, []) := Hm.flag_ready Hm.ready_init
  obtain ⟨q1, q2, q3⟩ := Hm.feed_quiet ⟨0, true, []⟩ P hb (by simp) h6
  have hle := Hm.row_le 0 P (by omega) h6
  obtain ⟨st, hst⟩ : ∃ st, st = (Hm.feedS ⟨0, true, []⟩ P).1 := ⟨_, rfl⟩
  have hP : Hm.feedS ⟨0, true, []⟩ P = (st, []) := by rw [hst]; exact Prod.ext rfl q1
  rw [← hst] at q2 q3
  obtain ⟨k, i, C⟩ := st
  have hi : i = true := q2
  subst hi
  have hk : k ≤ 5 := by have : k = Hm.row 0 P := q3; omega
  have h7 := Hm.feed_abort (6 - k) k C 7 (by omega) (by omega)
  have hz : Hm.feedS ⟨k + 7, false, []⟩ [48] = (⟨0, false, []⟩, []) := by
    rw [Hm.feed_one]
    simp [Hm.stepS, Hm.zeroS, Hm.takeS]
  have he : Hm.feedS ⟨0, false, []⟩ (encN (Bm.nums z)) = (⟨0, true, []⟩, metB z) := by
    have := feed_enc Hm.ready_init z
    rw [nums_enc] at this
    exact this
  rw [Hm.feed_append, Hm.feed_append, Hm.feed_append, Hm.feed_append, hfl]
  simp only [hP, show ([49, 49, 49, 49, 49, 49, 49] : List Int) = List.replicate 7 49 from rfl, h7, hz, he, List.nil_append, List.append_nil, List.cons_append]

theorem extract_nums (s : ByteArray) (m : Nat) : Bm.nums (s.extract 0 m) = (Bm.nums s).take m := by
  simp [Bm.nums, List.map_take]

theorem cut_enc (s : ByteArray) (m : Nat) (h8 : 8 ≤ m) (hm : m + 8 ≤ (encB s).size) : ∃ P, Bm.nums ((encB s).extract 0 m) = flagN ++ P ∧ Hm.bit P ∧ Hm.has6 0 P = false := by
  refine ⟨(Hm.stuff 0 (Bm.ofN (Bm.nums s))).take (m - 8), ?_, fun x hx => Hm.stuff_bit _ _ x (List.mem_of_mem_take hx), Hm.has6_take _ _ _ (Hm.stuff_has6 _ _ (by decide))⟩
  have hl : (encB s).size = 16 + (Hm.stuff 0 (Bm.ofN (Bm.nums s))).length := by
    rw [encB, strOfNums_size, encN, List.length_append, List.length_append]
    simp only [flagN, List.length_cons, List.length_nil]
    omega
  rw [extract_nums, nums_enc, encN, List.append_assoc, List.take_append, List.take_append]
  rw [List.take_of_length_le (show flagN.length ≤ m from h8), show flagN.length = 8 from rfl, show m - 8 - (Hm.stuff 0 (Bm.ofN (Bm.nums s))).length = 0 from by omega]
  simp

/-- a row of two events -/
theorem row_two {w : World} {B : Nat} {x : Value} {k k' : Int} {o o' : ByteArray} (h : w.ownsRow B 47 2 x 2 (evCells [(k, o), (k', o')])) :
    ∃ g cap, x = .slice (some ⟨g, 0, none⟩) 2 cap ∧ w.cell? ⟨g, 0, none⟩ = some (.int .i64 k) ∧ w.cell? ⟨g, 1, none⟩ = some (.string o) ∧ w.cell? ⟨g, 2, none⟩ = some (.int .i64 k') ∧ w.cell? ⟨g, 3, none⟩ = some (.string o') ∧ B ≤ g ∧ g < w.heap.size := by
  obtain ⟨g, cap, rfl⟩ : ∃ g cap, x = .slice (some ⟨g, 0, none⟩) 2 cap := by
    rcases h.2 with ⟨_, h0⟩ | ⟨g, cap, cur, h, _⟩
    · omega
    · exact ⟨g, cap, h⟩
  exact ⟨g, cap, rfl, h.cellAt 0 (by omega), h.cellAt 1 (by omega), h.cellAt 2 (by omega), h.cellAt 3 (by omega), (h.lt g rfl).1, (h.lt g rfl).2⟩

theorem met_some (z : ByteArray) (h0 : 0 < z.size) (h1 : z.size ≤ 266) : metB z = [(0, z)] := by
  rw [metB, if_neg (by omega), if_neg (by omega)]

set_option maxHeartbeats 2000000 in
theorem walk_HdlcAborts (s t : ByteArray) (cut : Int) (w : World) (hs : s.size ≤ 140737488351232) (ht : t.size ≤ 140737488351232) (hc : -9223372036854775808 ≤ cut ∧ cut ≤ 9223372036854775807) (hm : MaxOk w) :
    Calls Tryd.prog 8 #[.string s, .string t, .int .i64 cut] w fun e w' => e = .returned (.bool true) ∧ Below w.heap.size w w' := by
  obtain ⟨hc1, hc2⟩ := hc
  go_enter Tryd.func8, Tryd.ntmps8
  go_wp2_with fail
  go_region
  go_wp2_with fail
  obtain ⟨a, hA⟩ : ∃ a, a = s.extract 0 (min (s.size : Int) 100).toNat := ⟨_, rfl⟩
  have ha : a.size ≤ 100 := by rw [hA]; simp; omega
  rw [← hA]
  clear hA
  obtain ⟨b, hB⟩ : ∃ b, b = t.extract 0 (min (t.size : Int) 100).toNat := ⟨_, rfl⟩
  have hb : b.size ≤ 100 := by rw [hB]; simp; omega
  rw [← hB]
  clear hB
  have hmd : MaxOk w.drew := hm
  refine (wakes_any _ hmd).mono ?_
  rintro e w1 ⟨rfl, hb1⟩
  have hq1 : Below w.heap.size w w1 := (Below.refl w.heap.size w).drew.trans hb1
  have hm1 := hm.later hq1 hm.lt
  clear hb1 hmd
  go_wp2_with fail
  refine (encode_any a _ (by omega) hm1).mono ?_
  rintro e w2 ⟨rfl, hb2⟩
  have hq2 := hq1.trans (hb2.mono hq1.size)
  have hm2 := hm.later hq2 hm.lt
  clear hb2 hq1 hm1
  have hez := enc_size a
  have hcut := cut_enc a
  generalize encB a = E at hez hcut ⊢
  obtain ⟨r, hr, hr0, hr1⟩ : ∃ r : Nat, ((max 0 cut) % (max 1 ((E.size : Int) - 8))) = (r : Int) ∧ 0 ≤ r ∧ r + 8 < E.size := by
    have h1 : max 1 ((E.size : Int) - 8) = (E.size : Int) - 8 := by omega
    rw [h1]
    have h2 := Int.emod_nonneg (max 0 cut) (show (E.size : Int) - 8 ≠ 0 by omega)
    have h3 := Int.emod_lt_of_pos (max 0 cut) (show 0 < (E.size : Int) - 8 by omega)
    exact ⟨((max 0 cut) % ((E.size : Int) - 8)).toNat, by omega, by omega, by omega⟩
  have hd0 : (0 : Int) ≤ max 0 cut := by omega
  have hd1 : (0 : Int) < max 1 ((E.size : Int) - 8) := by omega
  go_wp2_with fail
  obtain ⟨X, hX⟩ : ∃ X, X = E.extract 0 (max 8 (r : Int)).toNat := ⟨_, rfl⟩
  obtain ⟨P, hP, hPb, hP6⟩ := hcut (max 8 (r : Int)).toNat (by omega) (by omega)
  have hXz : X.size ≤ 1616 := by rw [hX]; simp; omega
  rw [← hX] at hP ⊢
  have HP : Hid (Bm.nums X = flagN ++ P) := hP
  have HB : Hid (Hm.bit P) := hPb
  have H6 : Hid (Hm.has6 0 P = false) := hP6
  clear hX hP hPb hP6 hcut hr hr0 hr1 hd0 hd1 hez
  have hsz : w.heap.size ≤ w2.heap.size := hq2.size
  refine (new_any _).mono ?_
  rintro e w3 ⟨rfl, hdn, hb3⟩
  have hd3 := hdn w.heap.size hsz
  have hq3 := hq2.trans (hb3.mono hsz)
  have hm3 := hm.later hq3 hm.lt
  have hsz3 : w2.heap.size ≤ w3.heap.size := hb3.size
  clear hdn hm2
  go_wp2_with fail
  obtain ⟨Z, hZ⟩ : ∃ Z, Z = (⟨#[122]⟩ : ByteArray) ++ b := ⟨_, rfl⟩
  have hZ1 : Z.size = 1 + b.size := by rw [hZ, ByteArray.size_append]; rfl
  have hZ2 : Z.size ≤ 101 := by omega
  have hZ3 : 0 < Z.size := by omega
  clear hZ1
  rw [← hZ]
  have HZ : Hid (Z = (⟨#[122]⟩ : ByteArray) ++ b) := hZ
  clear hZ
  refine (encode_any Z _ (by omega) hm3).mono ?_
  rintro e w4 ⟨rfl, hb4⟩
  have hd4 := hd3.below hb4 (Nat.le_refl _)
  have hq4 := hq3.trans (hb4.mono hq3.size)
  have hsz4 : w3.heap.size ≤ w4.heap.size := hb4.size
  have hEz : (encB Z).size ≤ 1632 := by have := (enc_size Z).2; omega
  have hfe := feed_any (X ++ ⟨#[49, 49, 49, 49, 49, 49, 49]⟩ ++ ⟨#[48]⟩ ++ encB Z) _ w.heap.size w2.heap.size _ w4 hd4 (by omega) (by simp only [ByteArray.size_append]; show X.size + 7 + 1 + (encB Z).size ≤ 1000000; omega) (by simp only [ByteArray.size_append]; show 0 + (X.size + 7 + 1 + (encB Z).size) ≤ 1000000000; omega)
  have hfeed : Hm.feedS Hm.init (Bm.nums (X ++ ⟨#[49, 49, 49, 49, 49, 49, 49]⟩ ++ ⟨#[48]⟩ ++ encB Z)) = (⟨0, true, []⟩, [(1, ByteArray.empty), (0, Z)]) := by
    rw [nums_app, nums_app, nums_app, HP.out, nums_enc]
    have := feed_aborts P HB.out H6.out Z
    rw [met_some Z hZ3 (by omega)] at this
    exact this
  rw [hfeed] at hfe
  clear hfeed hb3 hb4
  go_wp2_with fail
  refine hfe.mono ?_
  rintro e w5 ⟨x, v5, rfl, hF⟩
  obtain ⟨g, cap, rfl, q0, q1, q2, q3, hg1, hg2⟩ := row_two hF.row
  have hb5 : Below w.heap.size w4 w5 := hF.kept.below (by omega) (fun k hk => by rcases hk with rfl | hk; exact hsz; simp [Value.ownBlock] at hk)
  have hq5 := hq4.trans hb5
  clear hfe
  have hzz : (⟨#[122]⟩ : ByteArray) ++ b = Z := HZ.out.symm
  go_wp2_with (first | (go_at_call 18; refine (feed_nil _ _).mono ?_; rintro e w' ⟨rfl, rfl⟩) | (go_at_call 20; refine (idle_nil _).mono ?_; rintro e w' ⟨rfl, rfl⟩))
  go_ret
  exact ⟨by simp, hq5⟩
end Go.Proofs.YtoakkfmebdglhaaDoor
