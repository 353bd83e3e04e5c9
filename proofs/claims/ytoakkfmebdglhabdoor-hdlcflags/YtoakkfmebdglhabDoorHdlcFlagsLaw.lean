/-
  The walk of the law HdlcFlags: it returns true.
-/
import Derived.Test.YtoakkfmebdglhabDoorWakesWalks
namespace Go.Proofs.YtoakkfmebdglhabDoor
open Go.RowKit
set_option linter.unusedVariables false
set_option linter.unusedSimpArgs false

theorem met_some (z : ByteArray) (h0 : 0 < z.size) (h1 : z.size ≤ 266) : metB z = [(0, z)] := by
  rw [metB, if_neg (by omega), if_neg (by omega)]
/-- one flag more -/
theorem feed_more {st0 st : Hm.St} {B : ByteArray} {evs : List Hm.Ev} (h : Hm.feedS st0 (Bm.nums B) = (st, evs)) (hr : Hm.Ready st) : Hm.feedS st0 (Bm.nums (B ++ ⟨#[48, 49, 49, 49, 49, 49, 49, 48]⟩)) = (⟨0, true, []⟩, evs) := by
  rw [nums_app, Hm.feed_append, h, show Bm.nums ⟨#[48, 49, 49, 49, 49, 49, 49, 48]⟩ = [48, 49, 49, 49, 49, 49, 49, 48] from rfl, Hm.flag_ready hr]
  simp
theorem feed_then {st0 st : Hm.St} {B : ByteArray} {evs : List Hm.Ev} (h : Hm.feedS st0 (Bm.nums B) = (st, evs)) (hr : Hm.Ready st) (s : ByteArray) : Hm.feedS st0 (Bm.nums (B ++ encB s)) = (⟨0, true, []⟩, evs ++ metB s) := by
  rw [nums_app, Hm.feed_append, h, feed_enc hr]
theorem size_flag (B : ByteArray) : (B ++ (⟨#[48, 49, 49, 49, 49, 49, 49, 48]⟩ : ByteArray)).size = B.size + 8 := by rw [ByteArray.size_append]; rfl

set_option maxHeartbeats 2000000 in
theorem walk_HdlcFlags (s : ByteArray) (ahead behind : Int) (w : World) (hs : s.size ≤ 140737488351232) (h1 : -9223372036854775808 ≤ ahead ∧ ahead ≤ 9223372036854775807) (h2 : -9223372036854775808 ≤ behind ∧ behind ≤ 9223372036854775807) (hm : MaxOk w) :
    Calls Tryd.prog 4 #[.string s, .int .i64 ahead, .int .i64 behind] w fun e w' => e = .returned (.bool true) ∧ Below w.heap.size w w' := by
  obtain ⟨h11, h12⟩ := h1
  obtain ⟨h21, h22⟩ := h2
  obtain ⟨A, hA, hA1⟩ : ∃ A : Nat, max 0 ahead % 20 = (A : Int) ∧ A < 20 := ⟨(max 0 ahead % 20).toNat, by omega, by omega⟩
  obtain ⟨C, hC, hC1⟩ : ∃ C : Nat, max 0 behind % 20 = (C : Int) ∧ C < 20 := ⟨(max 0 behind % 20).toNat, by omega, by omega⟩
  have hp1 : (0 : Int) ≤ max 0 ahead := by omega
  have hp2 : (0 : Int) ≤ max 0 behind := by omega
  go_enter Tryd.func4, Tryd.ntmps4
  go_wp2
  obtain ⟨a, ha⟩ : ∃ a, a = s.extract 0 (min (s.size : Int) 100).toNat := ⟨_, rfl⟩
  have haz : a.size ≤ 100 := by rw [ha]; simp; omega
  rw [← ha]
  clear ha
  obtain ⟨Z, hZ⟩ : ∃ Z, Z = (⟨#[122]⟩ : ByteArray) ++ a := ⟨_, rfl⟩
  have hZ1 : Z.size = 1 + a.size := by rw [hZ, ByteArray.size_append]; rfl
  have hZ2 : Z.size ≤ 101 := by omega
  have hZ3 : 0 < Z.size := by omega
  clear hZ1
  rw [← hZ]
  clear hZ
  go_loop [7, 18] (fun x c => ∃ (i : Nat) (B : ByteArray) (st : Hm.St), i ≤ A ∧ c = .int .i64 i ∧ x = .string B ∧ B.size ≤ 8 * i ∧ Hm.Ready st ∧ Hm.feedS Hm.init (Bm.nums B) = (st, []))
    (fun _ c => A - (intOf c).toNat)
  case atStart => exact ⟨0, ByteArray.empty, Hm.init, Nat.zero_le _, rfl, rfl, Nat.le_refl _, Hm.ready_init, rfl⟩
  case round =>
    obtain ⟨i, B, st, hi, rfl, rfl, hBz, hrd, hfd⟩ := hrel
    have HF : Hid (Hm.feedS Hm.init (Bm.nums B) = (st, [])) := hfd
    clear hfd
    have hsf := size_flag B
    by_cases hlt : i < A
    · go_wp2
      go_round
      case rel => exact ⟨i + 1, _, _, by omega, by go_num, rfl, by omega, Hm.ready_in, feed_more HF.out hrd⟩
      case measure => simp [intOf]; omega
    · go_wp2_with fail
      refine (encode_any Z _ (by omega) hm).mono ?_
      rintro e w1 ⟨rfl, hb1⟩
      have hm1 := hm.later hb1 hm.lt
      have hEz : (encB Z).size ≤ 1632 := by have := (enc_size Z).2; omega
      have HG : Hid (Hm.feedS Hm.init (Bm.nums (B ++ encB Z)) = (⟨0, true, []⟩, [(0, Z)])) := by
        show _ = _
        rw [feed_then HF.out hrd, met_some Z hZ3 (by omega)]; rfl
      have hBE : (B ++ encB Z).size ≤ 1792 := by rw [ByteArray.size_append]; omega
      clear hsf
      go_wp2
      clear HF
      generalize B ++ encB Z = G at HG hBE ⊢
      go_loop [7, 30] (fun x c => ∃ (j : Nat) (B : ByteArray), j ≤ C ∧ c = .int .i64 j ∧ x = .string B ∧ B.size ≤ 1792 + 8 * j ∧ Hm.feedS Hm.init (Bm.nums B) = (⟨0, true, []⟩, [(0, Z)]))
        (fun _ c => C - (intOf c).toNat)
      case atStart => exact ⟨0, G, Nat.zero_le _, rfl, rfl, by omega, HG.out⟩
      case round =>
        obtain ⟨j, B2, hj, rfl, rfl, hB2, hfd2⟩ := hrel
        have HF2 : Hid (Hm.feedS Hm.init (Bm.nums B2) = (⟨0, true, []⟩, [(0, Z)])) := hfd2
        clear hfd2
        have hsf2 := size_flag B2
        by_cases hlt2 : j < C
        · go_wp2
          go_round
          case rel => exact ⟨j + 1, _, by omega, by go_num, rfl, by omega, feed_more HF2.out Hm.ready_in⟩
          case measure => simp [intOf]; omega
        · go_wp2_with fail
          refine (new_any _).mono ?_
          rintro e w2 ⟨rfl, hdn, hb2⟩
          have hd2 := hdn w.heap.size hb1.size
          have hq2 := hb1.trans (hb2.mono hb1.size)
          have hs1 : w.heap.size ≤ w1.heap.size := hb1.size
          have hs2 : w1.heap.size ≤ w2.heap.size := hb2.size
          have hfe := feed_any B2 _ w.heap.size w1.heap.size _ w2 hd2 (by omega) (by omega) (by show 0 + B2.size ≤ _; omega)
          rw [HF2.out] at hfe
          go_wp2_with fail
          refine hfe.mono ?_
          rintro e w3 ⟨x, v3, rfl, hF⟩
          obtain ⟨g, cap, rfl, q0, q1, hg1, hg2⟩ := row_one hF.row
          have hb3 : Below w.heap.size w2 w3 := hF.kept.below (by omega) (fun k hk => by rcases hk with rfl | hk; exact hs1; simp [Value.ownBlock] at hk)
          have hq3 := hq2.trans hb3
          have hm3 := hm.later hq3 hm.lt
          clear hfe
          go_wp2_with fail
          refine (wakes_any _ hm3).mono ?_
          rintro e w4 ⟨rfl, hb4⟩
          have p0 := (hb4.cell (p := ⟨g, 0, none⟩) hg2).trans q0
          have p1 := (hb4.cell (p := ⟨g, 1, none⟩) hg2).trans q1
          have hs4 : w3.heap.size ≤ w4.heap.size := hb4.size
          have hg4 : g < w4.heap.size := by omega
          go_wp2
          go_ret
          exact ⟨by simp, hq3.trans (hb4.mono hq3.size)⟩
end Go.Proofs.YtoakkfmebdglhabDoor
