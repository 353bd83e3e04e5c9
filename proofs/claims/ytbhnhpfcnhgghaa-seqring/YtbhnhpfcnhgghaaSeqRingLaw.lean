/-
  The walk of the law SeqRing: it returns true.
-/
import Derived.Test.YtbhnhpfcnhgghaaSeqWakes
namespace Go.Proofs.Ytbhnhpfcnhgghaa
open Go.RowKit
set_option linter.unusedVariables false
set_option linter.unusedSimpArgs false

set_option maxHeartbeats 1000000 in
set_option maxRecDepth 10000 in
theorem walk_SeqRing (a b c : Int) (w : World) (ha : -9223372036854775808 ≤ a ∧ a ≤ 9223372036854775807) (hb : -9223372036854775808 ≤ b ∧ b ≤ 9223372036854775807) (hc : -9223372036854775808 ≤ c ∧ c ≤ 9223372036854775807) :
    Calls Try.prog 6 #[.int .i64 a, .int .i64 b, .int .i64 c] w fun e w' => e = .returned (.bool true) ∧ Below w.heap.size w w' := by
  obtain ⟨ha0, ha1⟩ := ha
  obtain ⟨hb0, hb1⟩ := hb
  obtain ⟨hc0, hc1⟩ := hc
  have l1 := Sm.ad_lo a b
  have l2 := Sm.ad_hi a b
  have l3 := Sm.sb_lo a b
  have l4 := Sm.sb_hi a b
  have l5 := Sm.ad_lo b c
  have l6 := Sm.ad_hi b c
  have l7 := Sm.sb_lo b a
  have l8 := Sm.sb_hi b a
  have t1 : (Sm.sb (Sm.ad a b) b == Sm.nm a) = true := by rw [Sm.sb_ad]; simp
  have t2 : (Sm.ad (Sm.sb a b) b == Sm.nm a) = true := by rw [Sm.ad_sb]; simp
  have t3 : (Sm.ad (Sm.ad a b) c == Sm.ad a (Sm.ad b c)) = true := by rw [Sm.ad_assoc]; simp
  have t4 : (Sm.ad a b == Sm.ad b a) = true := by rw [Sm.ad_comm]; simp
  go_enter Try.func6, Try.ntmps6
  go_wp2
  go_loop [7, 9] (fun n x => ∃ i : Nat, i ≤ 128 ∧ x = .int .i64 i ∧ n = .int .i64 (Sm.cnt a b i : Nat)) (fun _ x => 128 - (intOf x).toNat)
  case atStart => exact ⟨0, Nat.zero_le _, rfl, rfl⟩
  case round =>
    obtain ⟨i, hi, rfl, rfl⟩ := hrel
    have hn := Sm.cnt_le a b i
    by_cases hlt : i < 128
    · have HS : Hid (Sm.cnt a b (i + 1) = Sm.cnt a b i + (if Sm.vd a i b then 1 else 0)) := rfl
      clear t1 t2 t3 t4
      go_wp2_with fail
      refine (svalid_any a i b _ ha0 ha1 (by omega) (by omega) hb0 hb1).mono ?_
      rintro e w' ⟨rfl, rfl⟩
      cases hv : Sm.vd a i b
      · rw [hv] at HS
        go_wp2
        go_round
        case rel => exact ⟨i + 1, by omega, by go_num, by rw [HS.out]; rfl⟩
        case measure => simp [intOf]; omega
      · rw [hv] at HS
        go_wp2
        go_round
        case rel => exact ⟨i + 1, by omega, by go_num, by rw [HS.out]; rfl⟩
        case measure => simp [intOf]; omega
    · have he : i = 128 := by omega
      subst he
      clear hlt hi hn
      have t5 : ((Sm.cnt a b 128 : Int) == Sm.sb b a + 1) = true := by rw [Sm.cnt_all]; simp
      go_wp2_with (first
        | (go_at_call 9; refine (swakes_any _).mono ?_; rintro e w' ⟨rfl, rfl⟩)
        | (go_at_call 10; refine (snorm_any _ _ (by omega) (by omega)).mono ?_; rintro e w' ⟨rfl, rfl⟩)
        | (go_at_call 12; refine (sadd_any _ _ _ (by omega) (by omega) (by omega) (by omega)).mono ?_; rintro e w' ⟨rfl, rfl⟩)
        | (go_at_call 14; refine (ssub_any _ _ _ (by omega) (by omega) (by omega) (by omega)).mono ?_; rintro e w' ⟨rfl, rfl⟩))
      go_ret
      exact ⟨by simp, Below.refl _ _⟩
end Go.Proofs.Ytbhnhpfcnhgghaa
