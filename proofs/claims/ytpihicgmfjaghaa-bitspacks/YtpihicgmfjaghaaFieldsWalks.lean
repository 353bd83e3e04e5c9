/-
  The walks of bits.Field, of the document's Field and its power: each call returns the number 'fld' (or 2 to the power of k), and turns nothing that was there.
-/
import Derived.Test.YtpihicgmfjaghaaCommon
namespace Go.Proofs.Ytpihicgmfjaghaa
open Go.RowKit
set_option linter.unusedVariables false
set_option linter.unusedSimpArgs false

set_option maxHeartbeats 400000 in
theorem power_any (k : Int) (w : World) (h0 : 0 ≤ k) (h1 : k ≤ 16) :
    Calls Try.prog 22 #[.int .i64 k] w fun e w' => e = .returned (.int .i64 (2 ^ k.toNat)) ∧ w = w' := by
  obtain ⟨n, rfl⟩ := Int.eq_ofNat_of_zero_le h0
  rw [Int.toNat_natCast]
  go_enter Try.func22, Try.ntmps22
  go_wp2
  go_loop [3, 4] (fun p i => ∃ j : Nat, j ≤ n ∧ i = .int .i64 j ∧ p = .int .i64 (2 ^ j)) (fun _ i => n - (intOf i).toNat)
  case atStart => exact ⟨0, Nat.zero_le _, rfl, rfl⟩
  case round =>
    obtain ⟨j, hj, rfl, rfl⟩ := hrel
    have hp : (2 : Int) ^ j ≤ 65536 := by
      have h : (2 : Nat) ^ j ≤ 2 ^ 16 := Nat.pow_le_pow_right (by decide) (by omega)
      have e : (2 : Int) ^ j = ((2 ^ j : Nat) : Int) := by simp
      rw [e]; omega
    have hq : 1 ≤ (2 : Int) ^ j := by
      have h : 1 ≤ 2 ^ j := Nat.one_le_two_pow
      have e : (2 : Int) ^ j = ((2 ^ j : Nat) : Int) := by simp
      rw [e]; omega
    have HS : Hid ((2 : Int) ^ (j + 1) = 2 * 2 ^ j) := by show (2 : Int) ^ (j + 1) = 2 * 2 ^ j; rw [Int.pow_succ]; omega
    by_cases hlt : j < n
    · go_wp2
      go_round
      case rel => exact ⟨j + 1, by omega, by go_num, by rw [HS.out]⟩
      case measure => simp [intOf]; omega
    · go_wp2
      go_ret
      have : j = n := by omega
      subst this
      exact ⟨rfl, rfl⟩

set_option maxHeartbeats 400000 in
theorem field_in (x low count : Int) (w : World) (hx0 : 0 ≤ x) (hx1 : x ≤ 255) (h0 : 0 ≤ low) (h1 : low < 8) (hc : 1 ≤ count) (hcm : count ≤ 9223372036854775807) :
    Calls Try.prog 17 #[.int .u8 x, .int .i64 low, .int .i64 count] w fun e w' => e = .returned (.int .i64 (Bm.fld x low count)) ∧ ∃ n, w' = w.drewN n := by
  go_enter Try.func17, Try.ntmps17
  go_wp2
  all_goals (go_quiet (fail))
  all_goals go_wp2
  all_goals go_ret
  · exact ⟨ret_int (Bm.fld_cut x low count hx0 hx1 h0 h1 (by omega)), _, rfl⟩
  · exact ⟨ret_int (Bm.fld_whole x low count hx0 hx1 h0 h1 hc (by omega)), _, rfl⟩

set_option maxHeartbeats 400000 in
theorem field_out (x low count : Int) (w : World) (h : low < 0 ∨ 7 < low ∨ count < 1) :
    Calls Try.prog 17 #[.int .u8 x, .int .i64 low, .int .i64 count] w fun e w' => e = .returned (.int .i64 (Bm.fld x low count)) ∧ ∃ n, w' = w.drewN n := by
  have hf : Hid (Bm.fld x low count = 0) := Bm.fld_none x low count h
  go_enter Try.func17, Try.ntmps17
  go_wp2
  all_goals go_ret
  all_goals exact ⟨ret_int hf.out.symm, 0, rfl⟩

theorem field_any (x low count : Int) (w : World) (hx0 : 0 ≤ x) (hx1 : x ≤ 255) (hcm : count ≤ 9223372036854775807) :
    Calls Try.prog 17 #[.int .u8 x, .int .i64 low, .int .i64 count] w fun e w' => e = .returned (.int .i64 (Bm.fld x low count)) ∧ ∃ n, w' = w.drewN n := by
  by_cases h : low < 0 ∨ 7 < low ∨ count < 1
  · exact field_out x low count w h
  · exact field_in x low count w hx0 hx1 (by omega) (by omega) (by omega) hcm

theorem tmod_pos {a b c : Int} (h : 0 ≤ a) (e : c = a % b) : Ending.returned (.int .i64 (a.tmod b)) = .returned (.int .i64 c) := by
  rw [Int.tmod_eq_emod_of_nonneg h, e]

set_option maxHeartbeats 400000 in
theorem ref_field_in (x low count : Int) (w : World) (hx0 : 0 ≤ x) (hx1 : x ≤ 255) (h0 : 0 ≤ low) (h1 : low < 8) (hc : 1 ≤ count) :
    Calls Try.prog 18 #[.int .u8 x, .int .i64 low, .int .i64 count] w fun e w' => e = .returned (.int .i64 (Bm.fld x low count)) ∧ w = w' := by
  have hb := Bm.pow_bd low h0 (by omega)
  by_cases h8 : 8 < count
  · have hf : Hid (Bm.fld x low count = x / 2 ^ low.toNat % 256) := by
      show Bm.fld x low count = _
      rw [Bm.fld, if_neg (by omega), Int.min_eq_right (by omega)]; rfl
    go_enter Try.func18, Try.ntmps18
    go_wp2_with (go_at_call 22; refine (power_any _ _ (by omega) (by omega)).mono ?_; rintro e w' ⟨rfl, rfl⟩)
    go_ret
    exact ⟨tmod_pos (Bm.div_bd x low hx0 hx1 h0 (by omega)).1 hf.out, rfl⟩
  · have hf : Hid (Bm.fld x low count = x / 2 ^ low.toNat % 2 ^ count.toNat) := by
      show Bm.fld x low count = _
      rw [Bm.fld, if_neg (by omega), Int.min_eq_left (by omega)]
    have hb2 := Bm.pow_bd count (by omega) (by omega)
    go_enter Try.func18, Try.ntmps18
    go_wp2_with (go_at_call 22; refine (power_any _ _ (by omega) (by omega)).mono ?_; rintro e w' ⟨rfl, rfl⟩)
    go_ret
    exact ⟨tmod_pos (Bm.div_bd x low hx0 hx1 h0 (by omega)).1 hf.out, rfl⟩

set_option maxHeartbeats 400000 in
theorem ref_field_out (x low count : Int) (w : World) (h : low < 0 ∨ 7 < low ∨ count < 1) :
    Calls Try.prog 18 #[.int .u8 x, .int .i64 low, .int .i64 count] w fun e w' => e = .returned (.int .i64 (Bm.fld x low count)) ∧ w = w' := by
  have hf : Hid (Bm.fld x low count = 0) := Bm.fld_none x low count h
  go_enter Try.func18, Try.ntmps18
  go_wp2
  all_goals go_ret
  all_goals exact ⟨ret_int hf.out.symm, rfl⟩

theorem ref_field_any (x low count : Int) (w : World) (hx0 : 0 ≤ x) (hx1 : x ≤ 255) :
    Calls Try.prog 18 #[.int .u8 x, .int .i64 low, .int .i64 count] w fun e w' => e = .returned (.int .i64 (Bm.fld x low count)) ∧ w = w' := by
  by_cases h : low < 0 ∨ 7 < low ∨ count < 1
  · exact ref_field_out x low count w h
  · exact ref_field_in x low count w hx0 hx1 (by omega) (by omega) (by omega)

end Go.Proofs.Ytpihicgmfjaghaa
