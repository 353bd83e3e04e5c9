/-
  The walk of the document's Good: it tells whether all bytes are bits; nothing is turned.
-/
import Derived.Test.YtoakkfmebdglhaaDoorCommon
namespace Go.Proofs.YtoakkfmebdglhaaDoor
open Go.RowKit
set_option linter.unusedVariables false
set_option linter.unusedSimpArgs false

set_option maxHeartbeats 400000 in
theorem ref_good_any (s : ByteArray) (w : World) (hs : s.size ≤ 140737488351232) :
    Calls Tryd.prog 27 #[.string s] w fun e w' => e = .returned (.bool (Bm.goodN (Bm.nums s))) ∧ w = w' := by
  go_enter Tryd.func27, Tryd.ntmps27
  go_wp2
  go_loop [3] (fun c => ∃ i : Nat, i ≤ s.size ∧ c = .int .i64 i ∧ ∀ j, (hj : j < s.size) → j < i → Bm.isB (s[j].toNat : Int) = true) (fun c => s.size - (intOf c).toNat)
  case atStart => exact ⟨0, Nat.zero_le _, rfl, fun j _ h => by omega⟩
  case round =>
    obtain ⟨i, hi, rfl, hall⟩ := hrel
    have HA : Hid (∀ j, (hj : j < s.size) → j < i → Bm.isB (s[j].toNat : Int) = true) := hall
    clear hall
    by_cases hlt : i < s.size
    · by_cases h8 : (s[i].toNat : Int) = 48
      · have HB : Hid (Bm.isB (s[i].toNat : Int) = true) := (Bm.isB_iff _).2 (Or.inl h8)
        have ht : ((s[i].toNat : Int) != 48) = false := by simp [h8]
        clear h8
        go_wp2
        go_round
        case rel => exact ⟨i + 1, by omega, by go_num, fun j hj h => by
          by_cases e : j = i
          · subst e; exact HB.out
          · exact HA.out j hj (by omega)⟩
        case measure => simp [intOf]; omega
      · have ht : ((s[i].toNat : Int) != 48) = true := by simpa using h8
        by_cases h9 : (s[i].toNat : Int) = 49
        · have HB : Hid (Bm.isB (s[i].toNat : Int) = true) := (Bm.isB_iff _).2 (Or.inr h9)
          have ht' : ((s[i].toNat : Int) != 49) = false := by simp [h9]
          clear h8 h9
          go_wp2
          go_round
          case rel => exact ⟨i + 1, by omega, by go_num, fun j hj h => by
            by_cases e : j = i
            · subst e; exact HB.out
            · exact HA.out j hj (by omega)⟩
          case measure => simp [intOf]; omega
        · have ht' : ((s[i].toNat : Int) != 49) = true := by simpa using h9
          have HB : Hid (Bm.goodN (Bm.nums s) = false) := Bm.bad_of s i hlt (by rw [Bool.eq_false_iff]; intro h; rcases (Bm.isB_iff _).1 h with h | h; exact h8 h; exact h9 h)
          clear h8 h9
          go_wp2
          go_ret
          exact ⟨ret_bool HB.out.symm, rfl⟩
    · have HB : Hid (Bm.goodN (Bm.nums s) = true) := Bm.good_of s (fun j hj => HA.out j hj (by omega))
      go_wp2
      go_ret
      exact ⟨ret_bool HB.out.symm, rfl⟩
end Go.Proofs.YtoakkfmebdglhaaDoor
