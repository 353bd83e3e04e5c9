/-
  The walks of the document's Valid and Room: by counting they come to the same.
-/
import Derived.Test.YtidemohpngkedabGreatDoorRefSeq
namespace Go.Proofs.YtidemohpngkedabGreatDoor
open Go.RowKit
set_option linter.unusedVariables false
set_option maxRecDepth 100000
set_option linter.unusedSimpArgs false

set_option maxHeartbeats 400000 in
set_option maxRecDepth 10000 in
theorem ref_svalid_any (va nr vs : Int) (w : World) (ha0 : -9223372036854775808 ≤ va) (ha1 : va ≤ 9223372036854775807) (hn0 : -9223372036854775808 ≤ nr) (hn1 : nr ≤ 9223372036854775807) (hs0 : -9223372036854775808 ≤ vs) (hs1 : vs ≤ 9223372036854775807) :
    Calls Tryz.prog 157 #[.int .i64 va, .int .i64 nr, .int .i64 vs] w fun e w' => e = .returned (.bool (Sm.vd va nr vs)) ∧ w = w' := by
  have HM : Hid (Sm.vd va nr vs = decide (Sm.sb nr va ≤ Sm.sb vs va)) := rfl
  have H0 : Hid (Sm.nm va = Sm.ad va 0) := Sm.ad_zero va
  have l1 := Sm.sb_lo nr va
  have l2 := Sm.sb_hi nr va
  have l3 := Sm.sb_lo vs va
  have l4 := Sm.sb_hi vs va
  go_enter Tryz.func157, Tryz.ntmps157
  go_wp2_with (go_at_call 70; refine (ref_snorm_any _ _ (by omega) (by omega)).mono ?_; rintro e w' ⟨rfl, rfl⟩)
  go_loop [7, 10] (fun x c => ∃ i : Nat, (i : Int) ≤ Sm.sb nr va ∧ (i : Int) ≤ Sm.sb vs va ∧ c = .int .i64 i ∧ x = .int .i64 (Sm.ad va i)) (fun _ c => 128 - (intOf c).toNat)
  case atStart => exact ⟨0, by omega, by omega, rfl, by rw [H0.out]; rfl⟩
  case round =>
    obtain ⟨i, hi, hj, rfl, rfl⟩ := hrel
    have k1 := Sm.ad_lo va i
    have k2 := Sm.ad_hi va i
    have e1 := Sm.at_way va nr i (by omega)
    have e2 := Sm.at_way va vs i (by omega)
    have hlt : i < 128 := by omega
    by_cases hr : (i : Int) = Sm.sb nr va
    · have t1 : (Sm.ad va i == Sm.nm nr) = true := by rw [e1]; simpa using hr
      have HR : Hid (decide (Sm.sb nr va ≤ Sm.sb vs va) = true) := by show decide (Sm.sb nr va ≤ Sm.sb vs va) = true; simp; omega
      clear e1 e2 hr
      go_wp2
      go_ret
      exact ⟨ret_bool (by rw [HM.out, HR.out]), rfl⟩
    · have t1 : (Sm.ad va i == Sm.nm nr) = false := by rw [e1]; simpa using hr
      by_cases hs : (i : Int) = Sm.sb vs va
      · have t2 : (Sm.ad va i == Sm.nm vs) = true := by rw [e2]; simpa using hs
        have HR : Hid (decide (Sm.sb nr va ≤ Sm.sb vs va) = false) := by show decide (Sm.sb nr va ≤ Sm.sb vs va) = false; simp; omega
        clear e1 e2 hr hs
        go_wp2
        go_ret
        exact ⟨ret_bool (by rw [HM.out, HR.out]), rfl⟩
      · have t2 : (Sm.ad va i == Sm.nm vs) = false := by rw [e2]; simpa using hs
        have HS : Hid (Sm.ad (Sm.ad va i) 1 = Sm.ad va ((i + 1 : Nat) : Int)) := Sm.ad_one va i
        clear e1 e2
        go_wp2_with (go_at_call 155; refine (ref_sadd_any _ _ _ (by omega) (by omega) (by omega) (by omega)).mono ?_; rintro e w' ⟨rfl, rfl⟩)
        go_round
        case rel => exact ⟨i + 1, by omega, by omega, by go_num, by rw [HS.out]⟩
        case measure => simp [intOf]; omega

set_option maxHeartbeats 400000 in
theorem ref_sroom_any (va vs k : Int) (w : World) (ha0 : -9223372036854775808 ≤ va) (ha1 : va ≤ 9223372036854775807) (hs0 : -9223372036854775808 ≤ vs) (hs1 : vs ≤ 9223372036854775807) (hk0 : -9223372036854775808 ≤ k) (hk1 : k ≤ 9223372036854775807) :
    Calls Tryz.prog 153 #[.int .i64 va, .int .i64 vs, .int .i64 k] w fun e w' => e = .returned (.int .i64 (Sm.rm va vs k)) ∧ w = w' := by
  have l1 := Sm.sb_lo vs va
  have l2 := Sm.sb_hi vs va
  have HM : Hid (Sm.rm va vs k = if min (max k 1) 127 < Sm.sb vs va then 0 else min (max k 1) 127 - Sm.sb vs va) := Sm.rm_eq va vs k
  go_enter Tryz.func153, Tryz.ntmps153
  go_wp2_with (go_at_call 158; refine (ref_ssub_any _ _ _ (by omega) (by omega) (by omega) (by omega)).mono ?_; rintro e w' ⟨rfl, rfl⟩)
  all_goals go_ret
  all_goals exact ⟨ret_int (by rw [HM.out]; split <;> omega), rfl⟩
end Go.Proofs.YtidemohpngkedabGreatDoor
