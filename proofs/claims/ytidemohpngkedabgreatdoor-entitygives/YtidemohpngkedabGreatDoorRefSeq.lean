/-
  The walks of the document's answer for layer 8: by counting it comes to the same numbers modulo 128.
-/
import Derived.Test.YtidemohpngkedabGreatDoorBase
import Derived.Test.YtidemohpngkedabGreatDoorSeqMath
namespace Go.Proofs.YtidemohpngkedabGreatDoor
open Go.RowKit
set_option linter.unusedVariables false
set_option maxRecDepth 100000
set_option linter.unusedSimpArgs false

set_option maxHeartbeats 400000 in
theorem ref_snorm_any (n : Int) (w : World) (h0 : -9223372036854775808 ≤ n) (h1 : n ≤ 9223372036854775807) :
    Calls Tryz.prog 70 #[.int .i64 n] w fun e w' => e = .returned (.int .i64 (Sm.nm n)) ∧ w = w' := by
  have hlo := Sm.tmod_lo n
  have hhi := Sm.tmod_hi n
  have HN := Sm.nm_neg n
  have HP := Sm.nm_pos n
  by_cases h : n.tmod 128 < 0
  · have H : Hid (n.tmod 128 + 128 = Sm.nm n) := HN h
    clear HN HP
    go_enter Tryz.func70, Tryz.ntmps70
    go_wp2
    go_ret
    exact ⟨ret_int H.out, rfl⟩
  · have H : Hid (n.tmod 128 = Sm.nm n) := HP h
    clear HN HP
    go_enter Tryz.func70, Tryz.ntmps70
    go_wp2
    go_ret
    exact ⟨ret_int H.out, rfl⟩

set_option maxHeartbeats 400000 in
theorem ref_sadd_any (a n : Int) (w : World) (ha0 : -9223372036854775808 ≤ a) (ha1 : a ≤ 9223372036854775807) (hn0 : -9223372036854775808 ≤ n) (hn1 : n ≤ 9223372036854775807) :
    Calls Tryz.prog 155 #[.int .i64 a, .int .i64 n] w fun e w' => e = .returned (.int .i64 (Sm.ad a n)) ∧ w = w' := by
  have l1 := Sm.nm_lo n
  have l2 := Sm.nm_hi n
  have HE : Hid (Sm.ad a (Sm.nm n) = Sm.ad a n) := Sm.ad_nm a n
  have H0 : Hid (Sm.nm a = Sm.ad a 0) := Sm.ad_zero a
  go_enter Tryz.func155, Tryz.ntmps155
  go_wp2_with (go_at_call 70; refine (ref_snorm_any _ _ (by omega) (by omega)).mono ?_; rintro e w' ⟨rfl, rfl⟩)
  generalize Sm.nm n = y at l1 l2 HE ⊢
  go_loop [5, 7] (fun x c => ∃ i : Nat, (i : Int) ≤ y ∧ c = .int .i64 i ∧ x = .int .i64 (Sm.ad a i)) (fun _ c => y.toNat - (intOf c).toNat)
  case atStart => exact ⟨0, by omega, rfl, by rw [H0.out]; rfl⟩
  case round =>
    obtain ⟨i, hi, rfl, rfl⟩ := hrel
    have k1 := Sm.ad_lo a i
    have k2 := Sm.ad_hi a i
    by_cases hlt : (i : Int) < y
    · by_cases h7 : Sm.ad a i = 127
      · have HS : Hid (Sm.ad a ((i + 1 : Nat) : Int) = 0) := Sm.ad_wrap a i h7
        rw [h7]
        clear h7 k1 k2
        go_wp2
        go_round
        case rel => exact ⟨i + 1, by omega, by go_num, by rw [HS.out]⟩
        case measure => simp [intOf]; omega
      · have HS : Hid (Sm.ad a ((i + 1 : Nat) : Int) = Sm.ad a i + 1) := Sm.ad_step a i h7
        have h8 : (Sm.ad a i + 1 == 128) = false := by simp; omega
        go_wp2
        go_round
        case rel => exact ⟨i + 1, by omega, by go_num, by rw [HS.out]⟩
        case measure => simp [intOf]; omega
    · have HY : Hid ((i : Int) = y) := by show (i : Int) = y; omega
      go_wp2
      go_ret
      exact ⟨ret_int (by rw [HY.out, HE.out]), rfl⟩

set_option maxHeartbeats 400000 in
theorem ref_ssub_any (a b : Int) (w : World) (ha0 : -9223372036854775808 ≤ a) (ha1 : a ≤ 9223372036854775807) (hb0 : -9223372036854775808 ≤ b) (hb1 : b ≤ 9223372036854775807) :
    Calls Tryz.prog 158 #[.int .i64 a, .int .i64 b] w fun e w' => e = .returned (.int .i64 (Sm.sb a b)) ∧ w = w' := by
  have H0 : Hid (Sm.nm b = Sm.ad b 0) := Sm.ad_zero b
  have l1 := Sm.sb_lo a b
  have l2 := Sm.sb_hi a b
  go_enter Tryz.func158, Tryz.ntmps158
  go_wp2_with (go_at_call 70; refine (ref_snorm_any _ _ (by omega) (by omega)).mono ?_; rintro e w' ⟨rfl, rfl⟩)
  go_loop [6, 7] (fun y c => ∃ i : Nat, (i : Int) ≤ Sm.sb a b ∧ c = .int .i64 i ∧ y = .int .i64 (Sm.ad b i)) (fun _ c => (Sm.sb a b).toNat - (intOf c).toNat)
  case atStart => exact ⟨0, by omega, rfl, by rw [H0.out]; rfl⟩
  case round =>
    obtain ⟨i, hi, rfl, rfl⟩ := hrel
    have k1 := Sm.ad_lo b i
    have k2 := Sm.ad_hi b i
    by_cases hlt : (i : Int) < Sm.sb a b
    · have hne : (Sm.ad b i != Sm.nm a) = true := Sm.sb_on a b i hlt
      by_cases h7 : Sm.ad b i = 127
      · have HS : Hid (Sm.ad b ((i + 1 : Nat) : Int) = 0) := Sm.ad_wrap b i h7
        rw [h7] at hne ⊢
        clear h7 k1 k2
        go_wp2
        go_round
        case rel => exact ⟨i + 1, by omega, by go_num, by rw [HS.out]⟩
        case measure => simp [intOf]; omega
      · have HS : Hid (Sm.ad b ((i + 1 : Nat) : Int) = Sm.ad b i + 1) := Sm.ad_step b i h7
        have h8 : (Sm.ad b i + 1 == 128) = false := by simp; omega
        go_wp2
        go_round
        case rel => exact ⟨i + 1, by omega, by go_num, by rw [HS.out]⟩
        case measure => simp [intOf]; omega
    · have HY : Hid ((i : Int) = Sm.sb a b) := by show (i : Int) = Sm.sb a b; omega
      have he : (Sm.ad b i != Sm.nm a) = false := by rw [HY.out]; exact Sm.sb_end a b
      go_wp2
      go_ret
      exact ⟨ret_int HY.out, rfl⟩
end Go.Proofs.YtidemohpngkedabGreatDoor
