/-
  The walk of bits.Of: it returns the bits of the octets, and turns nothing that was there.
-/
import Derived.Test.YtdcohbdndkphnabDoorCommon
namespace Go.Proofs.YtdcohbdndkphnabDoor
open Go.RowKit
set_option linter.unusedVariables false
set_option linter.unusedSimpArgs false

set_option maxHeartbeats 1000000 in
set_option maxRecDepth 100000 in
theorem of_any (s : ByteArray) (w : World) (hs : s.size ≤ 1000000) :
    Calls Tryd.prog 29 #[.string s] w fun e w' => e = .returned (.string (strOfNums (Bm.ofN (Bm.nums s)))) ∧ Below w.heap.size w w' := by
  obtain ⟨i0, hi, hz0, hz1, hz2⟩ := info_parts byte5
  go_enter Tryd.func29, Tryd.ntmps29
  go_wp2_with (at_make; refine wpList_make_own _ rfl _ _ 26 rfl w.heap.size 5 i0 (.int .u8 0) 1 Tryd.underlying26 hi hz0 hz1 _ _ _ (s.size * 8) rfl rfl (by omega) ?b2 ?b3 (Nat.le_refl _) ?_)
  case b2 => rw [hz2]; omega
  case b3 => unfold maxLen; omega
  intro w0 hown0 hgrow0
  go_wp2
  go_loopw [3, 12] (fun v c wr => ∃ i : Nat, i ≤ s.size ∧ c = .int .i64 i ∧ wr.ownsRow w.heap.size 5 1 v (8 * i) ((Bm.ofN ((Bm.nums s).take i)).map (Value.int .u8)) ∧ Below w.heap.size w wr)
    (fun _ c _ => s.size - (intOf c).toNat)
  case atStart => exact ⟨0, Nat.zero_le _, rfl, by simpa [Bm.ofN] using hown0, (Below.refl _ _).grown hgrow0 (Nat.le_refl _) (fun k h => by cases h)⟩
  case round =>
    obtain ⟨i, hik, rfl, hown, hbel⟩ := hrel
    by_cases hlt : i < s.size
    · have hbd := s[i].toNat_lt
      have hge0 : (0 : Int) ≤ (s[i].toNat : Int) := by omega
      have hle255 : (s[i].toNat : Int) ≤ 255 := by omega
      go_wp2
      go_loopw [3, 15] (fun v c wq => ∃ k : Nat, k ≤ 8 ∧ c = .int .i64 k ∧ wq.ownsRow w.heap.size 5 1 v (8 * i + k) ((Bm.ofN ((Bm.nums s).take i) ++ (Bm.bitsN (s[i].toNat : Int)).take k).map (Value.int .u8)) ∧ Below w.heap.size w wq)
        (fun _ c _ => 8 - (intOf c).toNat)
      case atStart => exact ⟨0, Nat.zero_le _, rfl, by simpa using hown, hbel⟩
      case round =>
        obtain ⟨k, hk8, rfl, hown2, hbel2⟩ := hrel
        by_cases hk : k < 8
        · go_wp2_with (at_builtin; refine wpList_append_own _ rfl _ _ 26 rfl w.heap.size 5 i0 (.int .u8 0) 1 1 Tryd.underlying26 hi hz0 hz1 hz2 rfl (by decide) _ _ _ rfl (hown2.alloc _) ⟨wr.heap.size, 0, none⟩ 1 1 [.int .u8 ((48 + bits .and .u8 ((s[i].toNat : Int) / 2 ^ k) 1) % 256)] rfl rfl (one_new _) (one_one _) ?c3 ?c4 ?c5 ?_)
          case c3 => unfold maxLen; omega
          case c4 => omega
          case c5 => have := hbel2.size; simp; omega
          intro v' w1 hown' hgrow _
          have hbel3 : Below w.heap.size w w1 := (hbel2.alloc hbel2.size _).grown hgrow (by have := hbel2.size; simp; omega) (own_base hown2)
          have hown3 : w1.ownsRow w.heap.size 5 1 v' (8 * i + (k + 1)) ((Bm.ofN ((Bm.nums s).take i) ++ (Bm.bitsN (s[i].toNat : Int)).take (k + 1)).map (Value.int .u8)) := by
            rw [Bm.bitsN_take _ k hk, ← Bm.bit_code _ k hge0 hle255]
            simpa [Nat.add_assoc] using hown'
          clear hown' hgrow hown2
          go_wp2
          go_roundw
          case rel => exact ⟨k + 1, by omega, by go_num, hown3, hbel3⟩
          case measure => simp [intOf]; omega
        · go_wp2
          go_roundw
          case rel => exact ⟨i + 1, by omega, by go_num, by
            have : k = 8 := by omega
            subst this
            rw [Bm.ofN_take s i hlt]
            exact hown2, hbel2⟩
          case measure => simp [intOf]; omega
    · have hcv := conv_own hown
      have : i = s.size := by omega
      subst this
      go_wp2
      go_ret
      exact ⟨ret_str (by rw [List.take_of_length_le (by rw [Bm.nums_length]; exact Nat.le_refl _)]), hbel⟩
end Go.Proofs.YtdcohbdndkphnabDoor
