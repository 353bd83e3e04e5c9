/-
  The walks of package seq: Norm, Add, Sub, Valid, Room answer what is said of numbers modulo 128, and turn nothing.
-/
import Derived.Test.YtidemohpngkedabGreatDoorBase
import Derived.Test.YtidemohpngkedabGreatDoorSeqMath
namespace Go.Proofs.YtidemohpngkedabGreatDoor
open Go.RowKit
set_option linter.unusedVariables false
set_option maxRecDepth 100000
set_option linter.unusedSimpArgs false

set_option maxHeartbeats 400000 in
theorem modulo_any (n : Int) (w : World) (h0 : -9223372036854775808 ≤ n) (h1 : n ≤ 9223372036854775807) :
    Calls Tryz.prog 170 #[.int .i64 n] w fun e w' => e = .returned (.int .i64 (Sm.nm n)) ∧ w = w' := by
  have hlo := Sm.tmod_lo n
  have hhi := Sm.tmod_hi n
  have HM : Hid ((n.tmod 128 + 128) % 128 = Sm.nm n) := Sm.modulo n
  go_enter Tryz.func170, Tryz.ntmps170
  go_wp2
  go_ret
  exact ⟨ret_int HM.out, rfl⟩

set_option maxHeartbeats 400000 in
theorem snorm_any (n : Int) (w : World) (h0 : -9223372036854775808 ≤ n) (h1 : n ≤ 9223372036854775807) :
    Calls Tryz.prog 165 #[.int .i64 n] w fun e w' => e = .returned (.int .i64 (Sm.nm n)) ∧ w = w' := by
  go_enter Tryz.func165, Tryz.ntmps165
  go_wp2_with (go_at_call 170; refine (modulo_any _ _ (by omega) (by omega)).mono ?_; rintro e w' ⟨rfl, rfl⟩)
  go_ret
  exact ⟨rfl, rfl⟩

set_option maxHeartbeats 400000 in
theorem sadd_any (a n : Int) (w : World) (ha0 : -9223372036854775808 ≤ a) (ha1 : a ≤ 9223372036854775807) (hn0 : -9223372036854775808 ≤ n) (hn1 : n ≤ 9223372036854775807) :
    Calls Tryz.prog 163 #[.int .i64 a, .int .i64 n] w fun e w' => e = .returned (.int .i64 (Sm.ad a n)) ∧ w = w' := by
  have l1 := Sm.nm_lo a
  have l2 := Sm.nm_hi a
  have l3 := Sm.nm_lo n
  have l4 := Sm.nm_hi n
  have HM : Hid (Sm.nm (Sm.nm a + Sm.nm n) = Sm.ad a n) := Sm.ad_eq a n
  go_enter Tryz.func163, Tryz.ntmps163
  go_wp2_with (go_at_call 170; refine (modulo_any _ _ (by omega) (by omega)).mono ?_; rintro e w' ⟨rfl, rfl⟩)
  go_ret
  exact ⟨ret_int HM.out, rfl⟩

set_option maxHeartbeats 400000 in
theorem ssub_any (a b : Int) (w : World) (ha0 : -9223372036854775808 ≤ a) (ha1 : a ≤ 9223372036854775807) (hb0 : -9223372036854775808 ≤ b) (hb1 : b ≤ 9223372036854775807) :
    Calls Tryz.prog 167 #[.int .i64 a, .int .i64 b] w fun e w' => e = .returned (.int .i64 (Sm.sb a b)) ∧ w = w' := by
  have l1 := Sm.nm_lo a
  have l2 := Sm.nm_hi a
  have l3 := Sm.nm_lo b
  have l4 := Sm.nm_hi b
  have HM : Hid (Sm.nm (Sm.nm a - Sm.nm b) = Sm.sb a b) := Sm.sb_eq a b
  go_enter Tryz.func167, Tryz.ntmps167
  go_wp2_with (go_at_call 170; refine (modulo_any _ _ (by omega) (by omega)).mono ?_; rintro e w' ⟨rfl, rfl⟩)
  go_ret
  exact ⟨ret_int HM.out, rfl⟩

set_option maxHeartbeats 400000 in
theorem svalid_any (va nr vs : Int) (w : World) (ha0 : -9223372036854775808 ≤ va) (ha1 : va ≤ 9223372036854775807) (hn0 : -9223372036854775808 ≤ nr) (hn1 : nr ≤ 9223372036854775807) (hs0 : -9223372036854775808 ≤ vs) (hs1 : vs ≤ 9223372036854775807) :
    Calls Tryz.prog 166 #[.int .i64 va, .int .i64 nr, .int .i64 vs] w fun e w' => e = .returned (.bool (Sm.vd va nr vs)) ∧ w = w' := by
  have HM : Hid (Sm.vd va nr vs = decide (Sm.sb nr va ≤ Sm.sb vs va)) := rfl
  go_enter Tryz.func166, Tryz.ntmps166
  go_wp2_with (go_at_call 167; refine (ssub_any _ _ _ (by omega) (by omega) (by omega) (by omega)).mono ?_; rintro e w' ⟨rfl, rfl⟩)
  go_ret
  exact ⟨ret_bool HM.out.symm, rfl⟩

set_option maxHeartbeats 400000 in
theorem sroom_any (va vs k : Int) (w : World) (ha0 : -9223372036854775808 ≤ va) (ha1 : va ≤ 9223372036854775807) (hs0 : -9223372036854775808 ≤ vs) (hs1 : vs ≤ 9223372036854775807) (hk0 : -9223372036854775808 ≤ k) (hk1 : k ≤ 9223372036854775807) :
    Calls Tryz.prog 161 #[.int .i64 va, .int .i64 vs, .int .i64 k] w fun e w' => e = .returned (.int .i64 (Sm.rm va vs k)) ∧ w = w' := by
  have l1 := Sm.sb_lo vs va
  have l2 := Sm.sb_hi vs va
  have HM : Hid (Sm.rm va vs k = max (min (max k 1) 127 - Sm.sb vs va) 0) := rfl
  go_enter Tryz.func161, Tryz.ntmps161
  go_wp2_with (go_at_call 167; refine (ssub_any _ _ _ (by omega) (by omega) (by omega) (by omega)).mono ?_; rintro e w' ⟨rfl, rfl⟩)
  all_goals go_ret
  all_goals exact ⟨ret_int (by rw [HM.out]; omega), rfl⟩
end Go.Proofs.YtidemohpngkedabGreatDoor
