/-
  The walks of the document's Sum, Seal and Check: the numbers, the octets, the error; nothing that was there is turned.
-/
import Derived.Test.YtdcohbdndkphnaaDoorRefFcsWalks
import Derived.Test.YtdcohbdndkphnaaDoorFcsCheckWalks
namespace Go.Proofs.YtdcohbdndkphnaaDoor
open Go.RowKit
set_option linter.unusedVariables false
set_option linter.unusedSimpArgs false

set_option maxHeartbeats 400000 in
set_option maxRecDepth 100000 in
theorem ref_sum_any (s : ByteArray) (w : World) (hs : s.size ≤ 140737488351232) :
    Calls Tryd.prog 54 #[.string s] w fun e w' => e = .returned (.int .i64 ((Fm.sum s : Nat) : Int)) ∧ Below w.heap.size w w' := by
  go_enter Tryd.func54, Tryd.ntmps54
  go_wp2
  go_loopw [3, 4] (fun x c wr => ∃ i : Nat, i ≤ s.size ∧ c = .int .i64 i ∧ x = .int .i64 ((Fm.regK 65535 s i : Nat) : Int) ∧ Below w.heap.size w wr) (fun _ c _ => s.size - (intOf c).toNat)
  case atStart => exact ⟨0, Nat.zero_le _, rfl, rfl, Below.refl _ _⟩
  case round =>
    obtain ⟨i, hi, rfl, rfl, hbel⟩ := hrel
    have hr : Fm.regK 65535 s i < 65536 := Fm.regK_lt _ s i (by decide)
    by_cases hlt : i < s.size
    · have hb := s[i].toNat_lt
      have HS : Hid (Fm.regK 65535 s (i + 1) = Fm.step (Fm.regK 65535 s i) s[i].toNat) := Fm.regK_succ _ s i hlt
      go_wp2_with fail
      refine (ref_step_any (Fm.regK 65535 s i) s[i].toNat _ hr (by omega)).mono ?_
      rintro e w1 ⟨rfl, hb1⟩
      have hq1 := hbel.trans (hb1.mono hbel.size)
      clear hb1
      go_wp2
      go_roundw
      case rel => exact ⟨i + 1, by omega, by go_num, by rw [HS.out], hq1⟩
      case measure => simp [intOf]; omega
    · have HE : Hid ((65535 : Int) - ((Fm.regK 65535 s i : Nat) : Int) = ((Fm.sum s : Nat) : Int)) := by
        have e : i = s.size := by omega
        show (65535 : Int) - ((Fm.regK 65535 s i : Nat) : Int) = ((Fm.sum s : Nat) : Int)
        rw [Fm.sum, ← Fm.regK_all, ← e]; omega
      go_wp2
      go_ret
      exact ⟨ret_int HE.out, hbel⟩

set_option maxHeartbeats 400000 in
set_option maxRecDepth 100000 in
theorem ref_seal_any (s : ByteArray) (w : World) (hs : s.size ≤ 100000000000000) :
    Calls Tryd.prog 33 #[.string s] w fun e w' => e = .returned (.string (Fm.sealB s)) ∧ Below w.heap.size w w' := by
  have hl := Fm.sum_lt s
  have HQ : Hid ((Fm.sum s : Int) / 256 = (Fm.sum s : Int) / 256 % 256) := by show (Fm.sum s : Int) / 256 = (Fm.sum s : Int) / 256 % 256; omega
  have hz : (strOfNums [(Fm.sum s : Int) % 256, (Fm.sum s : Int) / 256]).size ≤ 2 := by rw [strOfNums_size]; exact Nat.le_refl _
  go_enter Tryd.func33, Tryd.ntmps33
  go_wp2_with fail
  refine (ref_sum_any s _ (by omega)).mono ?_
  rintro e w1 ⟨rfl, hb1⟩
  have hcv := fconv_two w1 ((Fm.sum s : Int) % 256) ((Fm.sum s : Int) / 256)
  go_wp2
  go_ret
  exact ⟨ret_str (by rw [Fm.sealB, ← HQ.out]), hb1.trans (((Below.refl _ _).alloc (Nat.le_refl _) _).mono hb1.size)⟩

set_option maxHeartbeats 400000 in
set_option maxRecDepth 100000 in
theorem ref_check_short (s : ByteArray) (w : World) (hs : s.size < 2) :
    Calls Tryd.prog 39 #[.string s] w fun e w' => e = .returned (.tuple #[.string ByteArray.empty, .int .i64 3]) ∧ Below w.heap.size w w' := by
  go_enter Tryd.func39, Tryd.ntmps39
  go_wp2
  go_ret2
  exact ⟨rfl, Below.refl _ _⟩

set_option maxHeartbeats 400000 in
set_option maxRecDepth 100000 in
theorem ref_check_sum (s : ByteArray) (w : World) (hs : 2 ≤ s.size) (hl : s.size ≤ 1000000) (hn : Fm.sealB (ahead s) ≠ s) :
    Calls Tryd.prog 39 #[.string s] w fun e w' => e = .returned (.tuple #[.string ByteArray.empty, .int .i64 6]) ∧ Below w.heap.size w w' := by
  have H : Hid (Fm.sealB (ahead s) ≠ s) := hn
  clear hn
  go_enter Tryd.func39, Tryd.ntmps39
  go_wp2_with fail
  refine (ref_seal_any (ahead s) _ (by rw [ahead_size]; omega)).mono ?_
  rintro e w1 ⟨rfl, hb⟩
  have hne : ((Fm.sealB (ahead s)).toList == s.toList) = false := str_ne H.out
  go_wp2
  go_ret2
  exact ⟨rfl, hb⟩

set_option maxHeartbeats 400000 in
set_option maxRecDepth 100000 in
theorem ref_check_ok (s : ByteArray) (w : World) (hs : 2 ≤ s.size) (hl : s.size ≤ 1000000) (hn : Fm.sealB (ahead s) = s) :
    Calls Tryd.prog 39 #[.string s] w fun e w' => e = .returned (.tuple #[.string (ahead s), .int .i64 0]) ∧ Below w.heap.size w w' := by
  have H : Hid (Fm.sealB (ahead s) = s) := hn
  clear hn
  go_enter Tryd.func39, Tryd.ntmps39
  go_wp2_with fail
  refine (ref_seal_any (ahead s) _ (by rw [ahead_size]; omega)).mono ?_
  rintro e w1 ⟨rfl, hb⟩
  have hne : ((Fm.sealB (ahead s)).toList == s.toList) = true := str_eq H.out
  go_wp2
  go_ret2
  exact ⟨rfl, hb⟩

theorem ref_check_any (s : ByteArray) (w : World) (hs : s.size ≤ 1000000) :
    Calls Tryd.prog 39 #[.string s] w fun e w' => e = .returned (.tuple #[.string (checkRes s).1, .int .i64 (checkRes s).2]) ∧ Below w.heap.size w w' := by
  by_cases h2 : s.size < 2
  · rw [checkRes, if_pos h2]; exact ref_check_short s w h2
  · by_cases hn : Fm.sealB (ahead s) = s
    · rw [checkRes, if_neg h2, if_pos hn]; exact ref_check_ok s w (by omega) hs hn
    · rw [checkRes, if_neg h2, if_neg hn]; exact ref_check_sum s w (by omega) hs hn
end Go.Proofs.YtdcohbdndkphnaaDoor
