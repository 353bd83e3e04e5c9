/-
  The walks of bits.isBit and bits.Good: they tell whether all bytes are bits; nothing is turned.
-/
import Derived.Test.YtdcohbdndkphnabDoorCommon
namespace Go.Proofs.YtdcohbdndkphnabDoor
open Go.RowKit
set_option linter.unusedVariables false
set_option linter.unusedSimpArgs false

set_option maxHeartbeats 400000 in
set_option maxRecDepth 100000 in
theorem isBit_any (c : Int) (w : World) :
    Calls Tryd.prog 30 #[.int .u8 c] w fun e w' => e = .returned (.bool (Bm.isB c)) ∧ w = w' := by
  go_enter Tryd.func30, Tryd.ntmps30
  go_wp2
  all_goals go_ret
  all_goals exact ⟨ret_bool (by simp_all [Bm.isB]), rfl⟩

set_option maxHeartbeats 400000 in
set_option maxRecDepth 100000 in
theorem good_any (s : ByteArray) (w : World) (hs : s.size ≤ 140737488351232) :
    Calls Tryd.prog 58 #[.string s] w fun e w' => e = .returned (.bool (Bm.goodN (Bm.nums s))) ∧ w = w' := by
  go_enter Tryd.func58, Tryd.ntmps58
  go_wp2
  go_loop [6] (fun c => ∃ i : Nat, i ≤ s.size ∧ c = .int .i64 i ∧ ∀ j, (hj : j < s.size) → j < i → Bm.isB (s[j].toNat : Int) = true) (fun c => s.size - (intOf c).toNat)
  case atStart => exact ⟨0, Nat.zero_le _, rfl, fun j _ h => by omega⟩
  case round =>
    obtain ⟨i, hi, rfl, hall⟩ := hrel
    have Hall := hall
    by_cases hlt : i < s.size
    · have HA : Hid (∀ j, (hj : j < s.size) → j < i → Bm.isB (s[j].toNat : Int) = true) := hall
      clear hall Hall
      cases hb : Bm.isB (s[i].toNat : Int) with
      | true =>
        have HB : Hid (Bm.isB (s[i].toNat : Int) = true) := hb
        go_wp2_with (go_at_call 30; refine (isBit_any _ _).mono ?_; rintro e w' ⟨rfl, rfl⟩)
        go_round
        case rel => exact ⟨i + 1, by omega, by go_num, fun j hj h => by
          by_cases e : j = i
          · subst e; exact HB.out
          · exact HA.out j hj (by omega)⟩
        case measure => simp [intOf]; omega
      | false =>
        have HB : Hid (Bm.goodN (Bm.nums s) = false) := Bm.bad_of s i hlt hb
        go_wp2_with (go_at_call 30; refine (isBit_any _ _).mono ?_; rintro e w' ⟨rfl, rfl⟩)
        go_ret
        exact ⟨ret_bool HB.out.symm, rfl⟩
    · have HB : Hid (Bm.goodN (Bm.nums s) = true) := Bm.good_of s (fun j hj => hall j hj (by omega))
      clear hall Hall
      go_wp2
      go_ret
      exact ⟨ret_bool HB.out.symm, rfl⟩

end Go.Proofs.YtdcohbdndkphnabDoor
