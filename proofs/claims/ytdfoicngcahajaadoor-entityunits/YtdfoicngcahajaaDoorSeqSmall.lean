/-
  The walks of package seq: Norm, Add, Sub, Valid, Room answer what is said of numbers modulo 128, and turn nothing.
-/
import Derived.Test.YtdfoicngcahajaaDoorBase
import Derived.Test.YtdfoicngcahajaaDoorSeqMath
namespace Go.Proofs.YtdfoicngcahajaaDoor
open Go.RowKit
set_option linter.unusedVariables false
set_option maxRecDepth 100000
set_option linter.unusedSimpArgs false

set_option maxHeartbeats 400000 in
theorem modulo_any (n : Int) (w : World) (h0 : -9223372036854775808 ≤ n) (h1 : n ≤ 9223372036854775807) :
    Calls Tryd.prog 90 #[.int .i64 n] w fun e w' => e = .returned (.int .i64 (Sm.nm n)) ∧ w = w' := by
  have hlo := Sm.tmod_lo n
  have hhi := Sm.tmod_hi n
  have HM : Hid ((n.tmod 128 + 128) % 128 = Sm.nm n) := Sm.modulo n
  go_enter Tryd.func90, Tryd.ntmps90
  go_wp2
  go_ret
  exact ⟨ret_int HM.out, rfl⟩

set_option maxHeartbeats 400000 in
theorem snorm_any (n : Int) (w : World) (h0 : -9223372036854775808 ≤ n) (h1 : n ≤ 9223372036854775807) :
    Calls Tryd.prog 85 #[.int .i64 n] w fun e w' => e = .returned (.int .i64 (Sm.nm n)) ∧ w = w' := by
  go_enter Tryd.func85, Tryd.ntmps85
  go_wp2_with (go_at_call 90; refine (modulo_any _ _ (by omega) (by omega)).mono ?_; rintro e w' ⟨rfl, rfl⟩)
  go_ret
  exact ⟨rfl, rfl⟩

set_option maxHeartbeats 400000 in
theorem sadd_any (a n : Int) (w : World) (ha0 : -9223372036854775808 ≤ a) (ha1 : a ≤ 9223372036854775807) (hn0 : -9223372036854775808 ≤ n) (hn1 : n ≤ 9223372036854775807) :
    Calls Tryd.prog 83 #[.int .i64 a, .int .i64 n] w fun e w' => e = .returned (.int .i64 (Sm.ad a n)) ∧ w = w' := by
  have l1 := Sm.nm_lo a
  have l2 := Sm.nm_hi a
  have l3 := Sm.nm_lo n
  have l4 := Sm.nm_hi n
  have HM : Hid (Sm.nm (Sm.nm a + Sm.nm n) = Sm.ad a n) := Sm.ad_eq a n
  go_enter Tryd.func83, Tryd.ntmps83
  go_wp2_with (go_at_call 90; refine (modulo_any _ _ (by omega) (by omega)).mono ?_; rintro e w' ⟨rfl, rfl⟩)
  go_ret
  exact ⟨ret_int HM.out, rfl⟩

set_option maxHeartbeats 400000 in
theorem ssub_any (a b : Int) (w : World) (ha0 : -9223372036854775808 ≤ a) (ha1 : a ≤ 9223372036854775807) (hb0 : -9223372036854775808 ≤ b) (hb1 : b ≤ 9223372036854775807) :
    Calls Tryd.prog 87 #[.int .i64 a, .int .i64 b] w fun e w' => e = .returned (.int .i64 (Sm.sb a b)) ∧ w = w' := by
  have l1 := Sm.nm_lo a
  have l2 := Sm.nm_hi a
  have l3 := Sm.nm_lo b
  have l4 := Sm.nm_hi b
  have HM : Hid (Sm.nm (Sm.nm a - Sm.nm b) = Sm.sb a b) := Sm.sb_eq a b
  go_enter Tryd.func87, Tryd.ntmps87
  go_wp2_with (go_at_call 90; refine (modulo_any _ _ (by omega) (by omega)).mono ?_; rintro e w' ⟨rfl, rfl⟩)
  go_ret
  exact ⟨ret_int HM.out, rfl⟩

set_option maxHeartbeats 400000 in
theorem svalid_any (va nr vs : Int) (w : World) (ha0 : -9223372036854775808 ≤ va) (ha1 : va ≤ 9223372036854775807) (hn0 : -9223372036854775808 ≤ nr) (hn1 : nr ≤ 9223372036854775807) (hs0 : -9223372036854775808 ≤ vs) (hs1 : vs ≤ 9223372036854775807) :
    Calls Tryd.prog 86 #[.int .i64 va, .int .i64 nr, .int .i64 vs] w fun e w' => e = .returned (.bool (Sm.vd va nr vs)) ∧ w = w' := by
  have HM : Hid (Sm.vd va nr vs = decide (Sm.sb nr va ≤ Sm.sb vs va)) := rfl
  go_enter Tryd.func86, Tryd.ntmps86
  go_wp2_with (go_at_call 87; refine (ssub_any _ _ _ (by omega) (by omega) (by omega) (by omega)).mono ?_; rintro e w' ⟨rfl, rfl⟩)
  go_ret
  exact ⟨ret_bool HM.out.symm, rfl⟩

set_option maxHeartbeats 400000 in
theorem sroom_any (va vs k : Int) (w : World) (ha0 : -9223372036854775808 ≤ va) (ha1 : va ≤ 9223372036854775807) (hs0 : -9223372036854775808 ≤ vs) (hs1 : vs ≤ 9223372036854775807) (hk0 : -9223372036854775808 ≤ k) (hk1 : k ≤ 9223372036854775807) :
    Calls Tryd.prog 81 #[.int .i64 va, .int .i64 vs, .int .i64 k] w fun e w' => e = .returned (.int .i64 (Sm.rm va vs k)) ∧ w = w' := by
  have l1 := Sm.sb_lo vs va
  have l2 := Sm.sb_hi vs va
  have HM : Hid (Sm.rm va vs k = max (min (max k 1) 127 - Sm.sb vs va) 0) := rfl
  go_enter Tryd.func81, Tryd.ntmps81
  go_wp2_with (go_at_call 87; refine (ssub_any _ _ _ (by omega) (by omega) (by omega) (by omega)).mono ?_; rintro e w' ⟨rfl, rfl⟩)
  all_goals go_ret
  all_goals exact ⟨ret_int (by rw [HM.out]; omega), rfl⟩
end Go.Proofs.YtdfoicngcahajaaDoor
