/-
  The walk of fcs.Check: the octets ahead of a check sequence that is right, or the error; nothing that was there is turned.
-/
import Derived.Test.YtfpdkdaoomakgaaDoorFcsSumWalks
import Derived.Test.YtfpdkdaoomakgaaDoorCloneWalks
namespace Go.Proofs.YtfpdkdaoomakgaaDoor
open Go.RowKit
set_option linter.unusedVariables false
set_option linter.unusedSimpArgs false

set_option maxHeartbeats 400000 in
theorem check_short (s : ByteArray) (w : World) (hs : s.size < 2) :
    Calls Tryd.prog 23 #[.string s] w fun e w' => e = .returned (.tuple #[.string ByteArray.empty, .int .i64 3]) ∧ Below w.heap.size w w' := by
  go_enter Tryd.func23, Tryd.ntmps23
  go_wp2
  go_ret2
  exact ⟨rfl, Below.refl _ _⟩

theorem str_eq {a b : ByteArray} (h : a = b) : (a.toList == b.toList) = true := by rw [h]; simp
theorem str_ne {a b : ByteArray} (h : a ≠ b) : (a.toList == b.toList) = false := by
  rw [ByteArray.toList_eq, ByteArray.toList_eq]
  simp only [beq_eq_false_iff_ne, ne_eq]
  intro e
  exact h (ByteArray.ext (Array.toList_inj.1 e))
/-- the octets ahead of the last two -/
def ahead (s : ByteArray) : ByteArray := s.extract 0 (s.size - 2)
theorem ahead_size (s : ByteArray) : (ahead s).size = s.size - 2 := by rw [ahead, ByteArray.size_extract]; omega

set_option maxHeartbeats 400000 in
theorem check_sum (s : ByteArray) (w : World) (hs : 2 ≤ s.size) (hl : s.size ≤ 140737488351232) (hn : Fm.sealB (ahead s) ≠ s) :
    Calls Tryd.prog 23 #[.string s] w fun e w' => e = .returned (.tuple #[.string ByteArray.empty, .int .i64 6]) ∧ Below w.heap.size w w' := by
  have H : Hid (Fm.sealB (ahead s) ≠ s) := hn
  clear hn
  go_enter Tryd.func23, Tryd.ntmps23
  go_wp2_with fail
  refine (seal_any (ahead s) _ (by rw [ahead_size]; omega)).mono ?_
  rintro e w1 ⟨rfl, hb⟩
  have hne : ((Fm.sealB (ahead s)).toList == s.toList) = false := str_ne H.out
  go_wp2
  go_ret2
  exact ⟨rfl, hb⟩

set_option maxHeartbeats 400000 in
theorem check_ok (s : ByteArray) (w : World) (hs : 2 ≤ s.size) (hl : s.size ≤ 140737488351232) (hn : Fm.sealB (ahead s) = s) :
    Calls Tryd.prog 23 #[.string s] w fun e w' => e = .returned (.tuple #[.string (ahead s), .int .i64 0]) ∧ Below w.heap.size w w' := by
  have H : Hid (Fm.sealB (ahead s) = s) := hn
  clear hn
  go_enter Tryd.func23, Tryd.ntmps23
  go_wp2_with fail
  refine (seal_any (ahead s) _ (by rw [ahead_size]; omega)).mono ?_
  rintro e w1 ⟨rfl, hb⟩
  have hne : ((Fm.sealB (ahead s)).toList == s.toList) = true := str_eq H.out
  go_wp2_with fail
  refine (clone_any (ahead s) _ (by rw [ahead_size]; omega)).mono ?_
  rintro e w2 ⟨rfl, hb2⟩
  go_wp2
  go_ret2
  exact ⟨rfl, hb.trans (hb2.mono hb.size)⟩

/-- P2.2: the octets ahead and OK, or the error -/
def checkRes (s : ByteArray) : ByteArray × Int := if s.size < 2 then (ByteArray.empty, 3) else if Fm.sealB (ahead s) = s then (ahead s, 0) else (ByteArray.empty, 6)

theorem check_any (s : ByteArray) (w : World) (hs : s.size ≤ 140737488351232) :
    Calls Tryd.prog 23 #[.string s] w fun e w' => e = .returned (.tuple #[.string (checkRes s).1, .int .i64 (checkRes s).2]) ∧ Below w.heap.size w w' := by
  by_cases h2 : s.size < 2
  · rw [checkRes, if_pos h2]; exact check_short s w h2
  · by_cases hn : Fm.sealB (ahead s) = s
    · rw [checkRes, if_neg h2, if_pos hn]; exact check_ok s w (by omega) hs hn
    · rw [checkRes, if_neg h2, if_neg hn]; exact check_sum s w (by omega) hs hn

/-! ### what was sealed is found right -/
theorem ahead_seal (s : ByteArray) : ahead (Fm.sealB s) = s := by
  rw [ahead, Fm.sealB_size, Nat.add_sub_cancel, Fm.sealB]
  exact ByteArray.extract_append_eq_left rfl
theorem check_seal (s : ByteArray) : checkRes (Fm.sealB s) = (s, 0) := by
  rw [checkRes, if_neg (by rw [Fm.sealB_size]; omega), ahead_seal, if_pos rfl]
end Go.Proofs.YtfpdkdaoomakgaaDoor
