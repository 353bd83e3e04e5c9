/-
  The walk of the law HdlcIdles: it returns true.
-/
import Derived.Test.YtoakkfmebdglhabDoorWakesWalks
namespace Go.Proofs.YtoakkfmebdglhabDoor
open Go.RowKit
set_option linter.unusedVariables false
set_option linter.unusedSimpArgs false

theorem one_ones' (st : Hm.St) : (Hm.feedS st (Bm.nums ⟨#[49]⟩)).1.ones = st.ones + 1 := by
  show (Hm.feedS st [49]).1.ones = _
  rw [Hm.feed_one]
  show (Hm.stepS st 49).1.ones = _
  rw [show Hm.stepS st 49 = Hm.oneS st from by simp [Hm.stepS], Hm.one_ones]
theorem zero_ones' (st : Hm.St) : (Hm.feedS st (Bm.nums ⟨#[48]⟩)).1.ones = 0 := by
  show (Hm.feedS st [48]).1.ones = _
  rw [Hm.feed_one]
  rw [show Hm.stepS st 48 = Hm.zeroS st from by simp [Hm.stepS], Hm.zero_ones]

/-- a decoder of the call's own, whatever its content -/
def Own (w : World) (base D : Nat) (st : Hm.St) : Prop := ∃ v, Dec w base D v st
theorem Feeding.own {base D : Nat} {v x v' : Value} {w w' : World} {r : Hm.St × List Hm.Ev} (h : Feeding base D v w w' r x v') : Own w' base D r.1 := ⟨v', h.dec⟩
theorem Feeding.below {base D : Nat} {v x v' : Value} {w w' : World} {r : Hm.St × List Hm.Ev} {st : Hm.St} (h : Feeding base D v w w' r x v') (hd : Dec w base D v st) (hb : base ≤ w.heap.size) : Below base w w' :=
  h.kept.below hb (fun k hk => by
    rcases hk with rfl | hk
    · exact hd.ge
    · exact (hd.own.lt k hk).1)

set_option maxHeartbeats 2000000 in
theorem walk_HdlcIdles (s : ByteArray) (n : Int) (w : World) (hs : s.size ≤ 140737488351232) (h1 : -9223372036854775808 ≤ n ∧ n ≤ 9223372036854775807) (hm : MaxOk w) :
    Calls Tryd.prog 5 #[.string s, .int .i64 n] w fun e w' => e = .returned (.bool true) ∧ Below w.heap.size w w' := by
  obtain ⟨h11, h12⟩ := h1
  obtain ⟨A, hA, hA1⟩ : ∃ A : Nat, max 0 n % 40 = (A : Int) ∧ A < 40 := ⟨(max 0 n % 40).toNat, by omega, by omega⟩
  have hp1 : (0 : Int) ≤ max 0 n := by omega
  go_enter Tryd.func5, Tryd.ntmps5
  go_wp2_with fail
  refine (new_any _).mono ?_
  rintro e w1 ⟨rfl, hdn, hb1⟩
  have hd1 := hdn w.heap.size (Nat.le_refl _)
  have hm1 := hm.later hb1 hm.lt
  clear hdn
  go_wp2_with fail
  obtain ⟨a, ha⟩ : ∃ a, a = s.extract 0 (min (s.size : Int) 50).toNat := ⟨_, rfl⟩
  have haz : a.size ≤ 50 := by rw [ha]; simp; omega
  rw [← ha]
  clear ha
  refine (encode_any a _ (by omega) hm1).mono ?_
  rintro e w2 ⟨rfl, hb2⟩
  have hd2 := hd1.below hb2 (Nat.le_refl _)
  have hq2 := hb1.trans (hb2.mono hb1.size)
  have hEz : (encB a).size ≤ 816 := by have := (enc_size a).2; omega
  have hfe := feed_any (encB a) _ w.heap.size w.heap.size _ w2 hd2 hq2.size (by omega) (by show 0 + (encB a).size ≤ _; omega)
  rw [feed_enc Hm.ready_init] at hfe
  go_wp2_with fail
  refine hfe.mono ?_
  rintro e w3 ⟨x, v3, rfl, hF⟩
  have hq3 := hq2.trans (hF.below hd2 hq2.size)
  have hO3 := hF.own
  clear hfe hF hd2 hd1 hb1 hb2 hm1
  go_wp2
  go_loopw [6, 20] (fun _ c wr => ∃ (i : Nat) (st : Hm.St), i ≤ A ∧ c = .int .i64 i ∧ st.ones = i ∧ Own wr w.heap.size w.heap.size st ∧ Below w.heap.size w wr)
    (fun _ c _ => A - (intOf c).toNat)
  case atStart => exact ⟨0, _, Nat.zero_le _, rfl, rfl, hO3, hq3⟩
  case round =>
    obtain ⟨i, st, hi, rfl, hon, ⟨v, hd⟩, hq⟩ := hrel
    have HO : Hid (st.ones = i) := hon
    have hsz : w.heap.size ≤ wr.heap.size := hq.size
    by_cases hlt : i < A
    · have hfe := feed_any ⟨#[49]⟩ st w.heap.size w.heap.size v wr hd hsz (by decide) (by show st.ones + 1 ≤ _; omega)
      clear hon
      go_wp2_with fail
      refine hfe.mono ?_
      rintro e w4 ⟨x4, v4, rfl, hF⟩
      have hq4 := hq.trans (hF.below hd hsz)
      have hon4 : (Hm.feedS st (Bm.nums ⟨#[49]⟩)).1.ones = i + 1 := by rw [one_ones', HO.out]
      have hid := idle_any _ _ _ _ _ hF.dec
      rw [hon4] at hid
      have HO4 : Hid ((Hm.feedS st (Bm.nums ⟨#[49]⟩)).1.ones = i + 1) := hon4
      clear hon4 hfe
      go_wp2_with fail
      refine hid.mono ?_
      rintro e w5 ⟨rfl, rfl⟩
      by_cases h15 : 15 ≤ i + 1
      · have e1 : decide (15 ≤ i + 1) = true := decide_eq_true h15
        have e2 : (14 : Int) ≤ (i : Int) := by omega
        rw [e1]
        clear h15 hid e1
        go_wp2
        go_roundw
        case rel => exact ⟨i + 1, _, by omega, by go_num, HO4.out, hF.own, hq4⟩
        case measure => simp [intOf]; omega
      · have e1 : decide (15 ≤ i + 1) = false := decide_eq_false h15
        have e2 : ¬ (14 : Int) ≤ (i : Int) := by omega
        rw [e1]
        clear h15 hid e1
        go_wp2
        go_roundw
        case rel => exact ⟨i + 1, _, by omega, by go_num, HO4.out, hF.own, hq4⟩
        case measure => simp [intOf]; omega
    · have hfe := feed_any ⟨#[48]⟩ st w.heap.size w.heap.size v wr hd hsz (by decide) (by show st.ones + 1 ≤ _; omega)
      clear hon
      go_wp2_with fail
      refine hfe.mono ?_
      rintro e w4 ⟨x4, v4, rfl, hF⟩
      have hq4 := hq.trans (hF.below hd hsz)
      have hm4 := hm.later hq4 hm.lt
      clear hfe
      go_wp2_with fail
      refine (wakes_any _ hm4).mono ?_
      rintro e w5 ⟨rfl, hb5⟩
      have hd5 := hF.dec.below hb5 (Nat.le_refl _)
      have hid := idle_any _ _ _ _ _ hd5
      rw [zero_ones'] at hid
      go_wp2_with (go_at_call 10; refine hid.mono ?_; rintro e w6 ⟨rfl, rfl⟩)
      go_ret
      exact ⟨by simp, hq4.trans (hb5.mono hq4.size)⟩
end Go.Proofs.YtoakkfmebdglhabDoor
