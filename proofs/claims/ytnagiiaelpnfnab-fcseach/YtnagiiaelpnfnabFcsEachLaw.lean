/-
  The walk of the law FcsEach: it returns true.
-/
import Derived.Test.YtnagiiaelpnfnabFcsTurned
import Derived.Test.YtnagiiaelpnfnabOfWalks
namespace Go.Proofs.Ytnagiiaelpnfnab
open Go.RowKit
set_option linter.unusedVariables false
set_option linter.unusedSimpArgs false

set_option maxHeartbeats 1000000 in
theorem walk_FcsEach (s : ByteArray) (w : World) (hs : s.size ≤ 140737488351232) :
    Calls Try.prog 4 #[.string s] w fun e w' => e = .returned (.bool true) ∧ Below w.heap.size w w' := by
  go_enter Try.func4, Try.ntmps4
  go_wp2_with fail
  obtain ⟨t, hT⟩ : ∃ t, t = s.extract 0 (min (s.size : Int) 60).toNat := ⟨_, rfl⟩
  have hts : t.size ≤ 60 := by rw [hT]; simp; omega
  rw [← hT]
  clear hT
  refine (seal_any t _ (by omega)).mono ?_
  rintro e w1 ⟨rfl, hb1⟩
  have hsz := Fm.sealB_size t
  go_wp2_with fail
  refine (of_any (Fm.sealB t) _ (by omega)).mono ?_
  rintro e w2 ⟨rfl, hb2⟩
  have hq2 := hb1.trans (hb2.mono hb1.size)
  clear hb2 hb1
  have HK : Hid (∀ i : Nat, i < 8 * (t.size + 2) → ∃ U : ByteArray, U.size = t.size + 2 ∧ octRes (strOfNums (Bm.flips (Bm.nums (strOfNums (Bm.ofN (Bm.nums (Fm.sealB t))))) [(i : Int)])) = (U, 0) ∧ checkRes U = (ByteArray.empty, 6)) := by
    intro i hi
    obtain ⟨U, h1, h2, h3⟩ := Fm.each_seen t i (by rw [hsz]; exact hi)
    exact ⟨U, by omega, turned_oct _ _ _ h2, turned_check U (by omega) h3⟩
  have hB : (strOfNums (Bm.ofN (Bm.nums (Fm.sealB t)))).size = 8 * (t.size + 2) := by rw [back_size, hsz]
  generalize strOfNums (Bm.ofN (Bm.nums (Fm.sealB t))) = B at HK hB ⊢
  clear hsz
  have hB1 : B.size ≤ 8 * (t.size + 2) := by omega
  have hB2 : 8 * (t.size + 2) ≤ B.size := by omega
  have hlen : ((B.size : Int) != 8 * (t.size : Int) + 16) = false := by simp; omega
  clear hB
  go_wp2
  go_loopw [26] (fun c wr => ∃ i : Nat, i ≤ B.size ∧ c = .int .i64 i ∧ Below w.heap.size w wr) (fun c _ => B.size - (intOf c).toNat)
  case atStart => exact ⟨0, Nat.zero_le _, rfl, hq2⟩
  case round =>
    obtain ⟨i, hi, rfl, hbel⟩ := hrel
    by_cases hlt : i < B.size
    · obtain ⟨U, hU, ho, hk⟩ := HK.out i (by omega)
      have HO : Hid (octRes (strOfNums (Bm.flips (Bm.nums B) [(i : Int)])) = (U, 0)) := ho
      have HC : Hid (checkRes U = (ByteArray.empty, 6)) := hk
      have hU1 : U.size ≤ 62 := by omega
      clear ho hk hU
      go_wp2_with fail
      refine (flip_some B wr.heap.size 0 1 1 [(i : Int)] _ (by omega) (by simp) rfl (by decide) (fun k hk => ?_)).mono ?_
      · have : k = 0 := by omega
        subst this
        simp
      rintro e w3 ⟨rfl, hb3⟩
      have hq3 := (hbel.alloc hbel.size _).trans (hb3.mono (by have := hbel.size; simp; omega))
      clear hb3
      go_wp2_with fail
      refine (octets_any _ _ (by rw [turned_size]; omega)).mono ?_
      rintro e w4 ⟨rfl, hb4⟩
      rw [HO.out]
      have hq4 := hq3.trans (hb4.mono hq3.size)
      clear hb4 hq3
      go_wp2_with fail
      refine (check_any U _ (by omega)).mono ?_
      rintro e w5 ⟨rfl, hb5⟩
      rw [HC.out]
      have hq5 := hq4.trans (hb5.mono hq4.size)
      clear hb5 hq4
      go_wp2
      go_roundw
      case rel => exact ⟨i + 1, by omega, by go_num, hq5⟩
      case measure => simp [intOf]; omega
    · go_wp2
      go_ret
      exact ⟨rfl, hbel⟩
end Go.Proofs.Ytnagiiaelpnfnab
