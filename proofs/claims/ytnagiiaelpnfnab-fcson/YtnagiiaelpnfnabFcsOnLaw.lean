/-
  The walk of the law FcsOn: it returns true.
-/
import Derived.Test.YtnagiiaelpnfnabFcsSumWalks
namespace Go.Proofs.Ytnagiiaelpnfnab
open Go.RowKit
set_option linter.unusedVariables false
set_option linter.unusedSimpArgs false

theorem sum_nine' : ((Fm.sum ⟨#[49, 50, 51, 52, 53, 54, 55, 56, 57]⟩ : Nat) : Int) = 36974 := by decide +kernel

set_option maxHeartbeats 400000 in
theorem walk_FcsOn (s t : ByteArray) (w : World) (hs : s.size ≤ 140737488351232) (ht : t.size ≤ 140737488351232) :
    Calls Try.prog 3 #[.string s, .string t] w fun e w' => e = .returned (.bool true) ∧ Below w.heap.size w w' := by
  go_enter Try.func3, Try.ntmps3
  go_wp2_with fail
  go_region
  all_goals go_wp2_with fail
  all_goals first
    | (obtain ⟨a, hA, ha⟩ : ∃ a : ByteArray, a = s.extract 0 600 ∧ a.size ≤ 600 := ⟨_, rfl, by simp; omega⟩
       rw [← hA]; clear hA)
    | (have ha : s.size ≤ 600 := by omega
       generalize s = a at ha ⊢)
  all_goals first
    | (obtain ⟨b, hB, hb⟩ : ∃ b : ByteArray, b = t.extract 0 600 ∧ b.size ≤ 600 := ⟨_, rfl, by simp; omega⟩
       rw [← hB]; clear hB)
    | (have hb : t.size ≤ 600 := by omega
       generalize t = b at hb ⊢)
  all_goals
    refine (sum_any a _ (by omega)).mono ?_
    rintro e w' ⟨rfl, rfl⟩
    have HC : Hid (bits .xor .u16 IntKind.u16.max ((Fm.sum a : Nat) : Int) = ((Fm.reg 65535 (Fm.octN a) : Nat) : Int)) := by
      show bits .xor .u16 IntKind.u16.max ((Fm.sum a : Nat) : Int) = ((Fm.reg 65535 (Fm.octN a) : Nat) : Int)
      rw [Fm.compl_u16 _ (Fm.sum_lt a), Fm.sum_back]
    have hr : Fm.reg 65535 (Fm.octN a) < 65536 := Fm.reg_lt _ _ (by decide)
    have HF : Hid (Fm.sum (a ++ b) = 65535 - Fm.reg (Fm.reg 65535 (Fm.octN a)) (Fm.octN b)) := Fm.sum_on a b
    go_wp2
    rw [HC.out]
    clear HC
    generalize Fm.reg 65535 (Fm.octN a) = R at hr HF ⊢
    go_loop [5, 22] (fun x c => ∃ i : Nat, i ≤ b.size ∧ c = .int .i64 i ∧ x = .int .u16 ((Fm.regK R b i : Nat) : Int)) (fun _ c => b.size - (intOf c).toNat)
    case atStart => exact ⟨0, Nat.zero_le _, rfl, rfl⟩
    case round =>
      obtain ⟨i, hi, rfl, rfl⟩ := hrel
      have hk : Fm.regK R b i < 65536 := Fm.regK_lt _ b i hr
      by_cases hlt : i < b.size
      · have hbb := b[i].toNat_lt
        have HS : Hid (Fm.regK R b (i + 1) = Fm.step (Fm.regK R b i) b[i].toNat) := Fm.regK_succ _ b i hlt
        go_wp2_with (go_at_call 6; refine (step_any _ _ _ hk (by omega)).mono ?_; rintro e w' ⟨rfl, rfl⟩)
        go_round
        case rel => exact ⟨i + 1, by omega, by go_num, by rw [HS.out]⟩
        case measure => simp [intOf]; omega
      · have HE : Hid (bits .xor .u16 IntKind.u16.max ((Fm.regK R b i : Nat) : Int) = ((Fm.sum (a ++ b) : Nat) : Int)) := by
          have e : i = b.size := by omega
          show bits .xor .u16 IntKind.u16.max ((Fm.regK R b i : Nat) : Int) = ((Fm.sum (a ++ b) : Nat) : Int)
          rw [Fm.compl_u16 _ hk, HF.out, e, Fm.regK_all]
        go_wp2_with fail
        refine (sum_any ⟨#[49, 50, 51, 52, 53, 54, 55, 56, 57]⟩ _ (by decide)).mono ?_
        rintro e w' ⟨rfl, rfl⟩
        rw [sum_nine']
        go_wp2_with fail
        refine (sum_any (a ++ b) _ (by rw [ByteArray.size_append]; omega)).mono ?_
        rintro e w' ⟨rfl, rfl⟩
        rw [HE.out]
        go_wp2
        go_ret
        exact ⟨by simp, (Below.refl _ _).drew⟩
end Go.Proofs.Ytnagiiaelpnfnab
