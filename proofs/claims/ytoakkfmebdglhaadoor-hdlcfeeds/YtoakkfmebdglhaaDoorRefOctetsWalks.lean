/-
  The walk of the document's Octets: it returns the octets whose bits they are, or the error; nothing that was there is turned.
-/
import Derived.Test.YtoakkfmebdglhaaDoorOctetsWalks
import Derived.Test.YtoakkfmebdglhaaDoorRefGoodWalks
namespace Go.Proofs.YtoakkfmebdglhaaDoor
open Go.RowKit
set_option linter.unusedVariables false
set_option linter.unusedSimpArgs false

set_option maxHeartbeats 400000 in
theorem ref_octets_form (s : ByteArray) (w : World) (hs : s.size ≤ 140737488351232) (hg : Bm.goodN (Bm.nums s) = false) :
    Calls Tryd.prog 41 #[.string s] w fun e w' => e = .returned (.tuple #[.string ByteArray.empty, .int .i64 4]) ∧ Below w.heap.size w w' := by
  go_enter Tryd.func41, Tryd.ntmps41
  go_wp2_with (go_at_call 27; refine (ref_good_any _ _ hs).mono ?_; rintro e w' ⟨rfl, rfl⟩)
  go_ret2
  exact ⟨rfl, Below.refl _ _⟩

set_option maxHeartbeats 400000 in
theorem ref_octets_short (s : ByteArray) (w : World) (hs : s.size ≤ 140737488351232) (hg : Bm.goodN (Bm.nums s) = true) (h8 : s.size % 8 ≠ 0) :
    Calls Tryd.prog 41 #[.string s] w fun e w' => e = .returned (.tuple #[.string ByteArray.empty, .int .i64 3]) ∧ Below w.heap.size w w' := by
  have ht : ((s.size : Int) % 8 != 0) = true := by simp; omega
  go_enter Tryd.func41, Tryd.ntmps41
  go_wp2_with (go_at_call 27; refine (ref_good_any _ _ hs).mono ?_; rintro e w' ⟨rfl, rfl⟩)
  go_ret2
  exact ⟨rfl, Below.refl _ _⟩

theorem bits01 (s : ByteArray) (n i : Nat) (hlt : i < n) (HN : s.size = 8 * n) (HG : Bm.goodN (Bm.nums s) = true) : ∀ j, j < 8 → 0 ≤ Bm.bitAt (Bm.nums s) i j ∧ Bm.bitAt (Bm.nums s) i j ≤ 1 := by
  intro j hj
  have hlt' : i * 8 + j < s.size := by omega
  rw [Bm.bitAt_s s i j hlt']
  have := Bm.good_get s HG (i * 8 + j) hlt'
  omega

set_option maxHeartbeats 1000000 in
theorem ref_octets_good (s : ByteArray) (w : World) (hs : s.size ≤ 140737488351232) (hg : Bm.goodN (Bm.nums s) = true) (h8 : s.size % 8 = 0) :
    Calls Tryd.prog 41 #[.string s] w fun e w' => e = .returned (.tuple #[.string (strOfNums (Bm.octs (Bm.nums s))), .int .i64 0]) ∧ Below w.heap.size w w' := by
  obtain ⟨i0, hi, hz0, hz1, hz2⟩ := info_parts byte5
  obtain ⟨n, hn⟩ : ∃ n, s.size = 8 * n := ⟨s.size / 8, by omega⟩
  have HN : Hid (s.size = 8 * n) := hn
  have ht : ((s.size : Int) % 8 != 0) = false := by simp; omega
  have hlen : n = (Bm.nums s).length / 8 := by rw [Bm.nums_length]; omega
  have HL : Hid (n = (Bm.nums s).length / 8) := hlen
  have HG : Hid (Bm.goodN (Bm.nums s) = true) := hg
  have hnb : 8 * n ≤ 140737488351232 := by omega
  have hn1 : 8 * n ≤ s.size := by omega
  have hn2 : s.size ≤ 8 * n := by omega
  clear hn h8 hlen
  go_enter Tryd.func41, Tryd.ntmps41
  go_wp2_with (go_at_call 27; refine (ref_good_any _ _ hs).mono ?_; rintro e w' ⟨rfl, rfl⟩)
  go_loopw [5, 6] (fun v c wr => ∃ i : Nat, i ≤ n ∧ c = .int .i64 ((i : Int) * 8) ∧ wr.ownsRow w.heap.size 5 1 v i (((Bm.octs (Bm.nums s)).take i).map (Value.int .u8)) ∧ Below w.heap.size w wr)
    (fun _ c _ => s.size - (intOf c).toNat)
  case atStart => exact ⟨0, Nat.zero_le _, rfl, by simpa using World.ownsRow_nil _ _ _ _, Below.refl _ _⟩
  case round =>
    obtain ⟨i, hik, rfl, hown, hbel⟩ := hrel
    by_cases hlt : i < n
    · go_wp2
      go_loop [7, 8] (fun q c => ∃ (z : Int) (p : Int), -1 ≤ z ∧ z ≤ 7 ∧ c = .int .i64 z ∧ q = .int .i64 p ∧ 0 ≤ p ∧ p * 2 ^ (z + 1).toNat + Bm.part (Bm.nums s) i (z + 1).toNat = Bm.oct (Bm.nums s) i)
        (fun _ c => (intOf c + 1).toNat)
      case atStart => exact ⟨7, 0, by omega, by omega, rfl, rfl, by omega, by rw [Int.zero_mul, Int.zero_add]; rfl⟩
      case round =>
        obtain ⟨z, p, hz7, hz8, rfl, rfl, hp0, hinv⟩ := hrel
        have hp1 := Bm.down_bd (Bm.nums s) i (z + 1).toNat p (bits01 s n i hlt HN.out HG.out) (by omega) hp0 hinv
        have HI : Hid (p * 2 ^ (z + 1).toNat + Bm.part (Bm.nums s) i (z + 1).toNat = Bm.oct (Bm.nums s) i) := hinv
        clear hinv
        by_cases hz : 0 ≤ z
        · obtain ⟨k, rfl⟩ := Int.eq_ofNat_of_zero_le hz
          have hix : i * 8 + k < s.size := by omega
          have hix0 : (0 : Int) ≤ (i : Int) * 8 + (k : Int) := by omega
          have hix2 : (i : Int) * 8 + (k : Int) < (s.size : Int) := by omega
          have hixt : ((i : Int) * 8 + (k : Int)).toNat = i * 8 + k := by omega
          have hb01 := Bm.good_get s HG.out (i * 8 + k) hix
          have hlo : (48 : Int) ≤ (s[i * 8 + k].toNat : Int) := by omega
          have hhi : (s[i * 8 + k].toNat : Int) ≤ 49 := by omega
          clear hb01
          go_wp2
          go_round
          case rel => exact ⟨(k : Int) - 1, 2 * p + ((s[i * 8 + k].toNat : Int) - 48), by omega, by omega, rfl, rfl, by omega, by
            rw [← Bm.bitAt_s s i k hix, show ((k : Int) - 1 + 1).toNat = k from by omega]
            have h := HI.out
            rw [show ((k : Int) + 1).toNat = k + 1 from by omega] at h
            exact Bm.down_step _ _ _ _ h⟩
          case measure => simp [intOf]
        · have hz1' : z = -1 := by omega
          subst hz1'
          have hoct : p = Bm.oct (Bm.nums s) i := Bm.down_last _ _ _ HI.out
          have HO : Hid (p = Bm.oct (Bm.nums s) i) := hoct
          clear hoct
          go_wp2_with (at_builtin; refine wpList_append_own _ rfl _ _ 34 rfl w.heap.size 5 i0 (.int .u8 0) 1 1 Tryd.underlying34 hi hz0 hz1 hz2 rfl (by decide) _ _ _ rfl (hown.alloc _) ⟨wr.heap.size, 0, none⟩ 1 1 [.int .u8 p] rfl rfl (one_new _) (one_one _) ?c3 ?c4 ?c5 ?_)
          case c3 => unfold maxLen; omega
          case c4 => omega
          case c5 => have := hbel.size; simp; omega
          intro v' w1 hown' hgrow _
          have hbel3 : Below w.heap.size w w1 := (hbel.alloc hbel.size _).grown hgrow (by have := hbel.size; simp; omega) (own_base hown)
          have hown3 : w1.ownsRow w.heap.size 5 1 v' (i + 1) (((Bm.octs (Bm.nums s)).take (i + 1)).map (Value.int .u8)) := by
            rw [Bm.octs_take _ i (by rw [← HL.out]; exact hlt), ← HO.out]
            simpa using hown'
          clear hown' hgrow hown
          go_wp2
          go_roundw
          case rel => exact ⟨i + 1, by omega, by go_num, hown3, hbel3⟩
          case measure => simp [intOf]; omega
    · have : i = n := by omega
      subst this
      have hcv := conv_own hown
      go_wp2
      go_ret2
      refine ⟨?_, hbel⟩
      rw [List.take_of_length_le (by rw [Bm.octs_length, ← HL.out]; exact Nat.le_refl _)]
      rfl

theorem ref_octets_any (s : ByteArray) (w : World) (hs : s.size ≤ 140737488351232) :
    Calls Tryd.prog 41 #[.string s] w fun e w' => e = .returned (.tuple #[.string (octRes s).1, .int .i64 (octRes s).2]) ∧ Below w.heap.size w w' := by
  by_cases hg : Bm.goodN (Bm.nums s) = false
  · rw [octRes, if_pos hg]; exact ref_octets_form s w hs hg
  · have hg' : Bm.goodN (Bm.nums s) = true := by simpa using hg
    by_cases h8 : s.size % 8 = 0
    · rw [octRes, if_neg hg, if_neg (by omega)]; exact ref_octets_good s w hs hg' h8
    · rw [octRes, if_neg hg, if_pos h8]; exact ref_octets_short s w hs hg' h8
end Go.Proofs.YtoakkfmebdglhaaDoor
