/-
  The walk of the law SeqWalks: it returns true.
-/
import Derived.Test.YtbhnhpfcnhgghaaSeqWakes
namespace Go.Proofs.Ytbhnhpfcnhgghaa
open Go.RowKit
set_option linter.unusedVariables false
set_option linter.unusedSimpArgs false

set_option maxHeartbeats 1000000 in
set_option maxRecDepth 10000 in
theorem walks_none (a n : Int) (w : World) (ha0 : -9223372036854775808 ≤ a) (ha1 : a ≤ 9223372036854775807) (hn0 : -9223372036854775808 ≤ n) (hn : n ≤ 0) :
    Calls Try.prog 8 #[.int .i64 a, .int .i64 n] w fun e w' => e = .returned (.bool true) ∧ Below w.heap.size w w' := by
  have l1 := Sm.nm_lo a
  have l2 := Sm.nm_hi a
  have t1 : (Sm.nm a == Sm.ad a 0) = true := by rw [Sm.ad_zero a]; simp
  have t2 : (Sm.sb (Sm.nm a) a == 0) = true := by rw [Sm.sb_self]; rfl
  go_enter Try.func8, Try.ntmps8
  go_wp2_with fail
  refine (snorm_any a _ ha0 ha1).mono ?_
  rintro e w' ⟨rfl, rfl⟩
  go_wp2
  go_loop [5, 13] (fun x c => c = .int .i64 0 ∧ x = .int .i64 (Sm.nm a)) (fun _ _ => 0)
  case atStart => exact ⟨rfl, rfl⟩
  case round =>
    obtain ⟨rfl, rfl⟩ := hrel
    go_wp2_with (first
      | (go_at_call 9; refine (swakes_any _).mono ?_; rintro e w' ⟨rfl, rfl⟩)
      | (go_at_call 12; refine (sadd_any _ _ _ (by omega) (by omega) (by omega) (by omega)).mono ?_; rintro e w' ⟨rfl, rfl⟩)
      | (go_at_call 14; refine (ssub_any _ _ _ (by omega) (by omega) (by omega) (by omega)).mono ?_; rintro e w' ⟨rfl, rfl⟩))
    go_ret
    exact ⟨by simp, Below.refl _ _⟩

set_option maxHeartbeats 1000000 in
set_option maxRecDepth 10000 in
theorem walks_some (a n : Int) (w : World) (ha0 : -9223372036854775808 ≤ a) (ha1 : a ≤ 9223372036854775807) (hn : 0 < n) (hn1 : n ≤ 9223372036854775807) :
    Calls Try.prog 8 #[.int .i64 a, .int .i64 n] w fun e w' => e = .returned (.bool true) ∧ Below w.heap.size w w' := by
  have H0 : Hid (Sm.nm a = Sm.ad a 0) := Sm.ad_zero a
  obtain ⟨m, HM, hm⟩ : ∃ m : Nat, Hid (n % 300 = (m : Int)) ∧ m < 300 := ⟨(n % 300).toNat, by show n % 300 = ((n % 300).toNat : Int); omega, by omega⟩
  go_enter Try.func8, Try.ntmps8
  go_wp2_with fail
  refine (snorm_any a _ ha0 ha1).mono ?_
  rintro e w' ⟨rfl, rfl⟩
  rw [HM.out]
  clear HM
  go_wp2
  go_loop [5, 13] (fun x c => ∃ i : Nat, i ≤ m ∧ c = .int .i64 i ∧ x = .int .i64 (Sm.ad a i)) (fun _ c => m - (intOf c).toNat)
  case atStart => exact ⟨0, Nat.zero_le _, rfl, by rw [H0.out]; rfl⟩
  case round =>
    obtain ⟨i, hi, rfl, rfl⟩ := hrel
    have k1 := Sm.ad_lo a i
    have k2 := Sm.ad_hi a i
    by_cases hlt : i < m
    · have HS : Hid (Sm.ad (Sm.ad a i) 1 = Sm.ad a ((i + 1 : Nat) : Int)) := Sm.ad_next a i
      by_cases h7 : Sm.ad a i = 127
      · have e0 : Hid (Sm.ad (Sm.ad a i) 1 = 0) := by show Sm.ad (Sm.ad a i) 1 = 0; rw [h7]; decide
        have e1 : Hid (Sm.ad a ((i + 1 : Nat) : Int) = 0) := HS.out.symm.trans e0.out
        rw [h7]
        clear h7 HS k1 k2 e0
        go_wp2_with fail
        refine (sadd_any 127 1 _ (by decide) (by decide) (by decide) (by decide)).mono ?_
        rintro e w' ⟨rfl, rfl⟩
        rw [show Sm.ad 127 1 = 0 from by decide]
        go_wp2
        go_round
        case rel => exact ⟨i + 1, by omega, by go_num, by rw [e1.out]⟩
        case measure => simp [intOf]; omega
      · have e0 : Hid (Sm.ad (Sm.ad a i) 1 = Sm.ad a i + 1) := by show Sm.ad (Sm.ad a i) 1 = Sm.ad a i + 1; rw [HS.out]; exact Sm.ad_step a i h7
        have e1 : Hid (Sm.ad a ((i + 1 : Nat) : Int) = Sm.ad a i + 1) := HS.out.symm.trans e0.out
        go_wp2_with fail
        refine (sadd_any (Sm.ad a i) 1 _ (by omega) (by omega) (by decide) (by decide)).mono ?_
        rintro e w' ⟨rfl, rfl⟩
        rw [e0.out]
        clear e0 HS
        have t1 : (Sm.ad a i + 1 != Sm.ad a i + 1) = false := by simp
        go_wp2
        go_round
        case rel => exact ⟨i + 1, by omega, by go_num, by rw [e1.out]⟩
        case measure => simp [intOf]; omega
    · have he : i = m := by omega
      subst he
      clear hlt hi
      have t1 : (Sm.ad a i == Sm.ad a i) = true := by simp
      have t2 : (Sm.sb (Sm.ad a i) a == (i : Int) % 128) = true := by rw [Sm.sb_way]; simp
      go_wp2_with (first
        | (go_at_call 9; refine (swakes_any _).mono ?_; rintro e w' ⟨rfl, rfl⟩)
        | (go_at_call 12; refine (sadd_any _ _ _ (by omega) (by omega) (by omega) (by omega)).mono ?_; rintro e w' ⟨rfl, rfl⟩)
        | (go_at_call 14; refine (ssub_any _ _ _ (by omega) (by omega) (by omega) (by omega)).mono ?_; rintro e w' ⟨rfl, rfl⟩))
      go_ret
      exact ⟨by simp, Below.refl _ _⟩

theorem walk_SeqWalks (a n : Int) (w : World) (ha : -9223372036854775808 ≤ a ∧ a ≤ 9223372036854775807) (hn : -9223372036854775808 ≤ n ∧ n ≤ 9223372036854775807) :
    Calls Try.prog 8 #[.int .i64 a, .int .i64 n] w fun e w' => e = .returned (.bool true) ∧ Below w.heap.size w w' := by
  by_cases h : n ≤ 0
  · exact walks_none a n w ha.1 ha.2 hn.1 h
  · exact walks_some a n w ha.1 ha.2 (by omega) hn.2
end Go.Proofs.Ytbhnhpfcnhgghaa
