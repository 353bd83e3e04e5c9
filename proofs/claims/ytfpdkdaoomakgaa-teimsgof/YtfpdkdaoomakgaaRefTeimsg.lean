/-
  The walks of the document's FromNetwork and Put of layer 7: Put answers 'putRes'. Nothing that was there is turned.
-/
import Derived.Test.YtfpdkdaoomakgaaTeimsgSmall
namespace Go.Proofs.Ytfpdkdaoomakgaa
open Go.RowKit
set_option linter.unusedVariables false
set_option linter.unusedSimpArgs false

set_option maxHeartbeats 400000 in
set_option maxRecDepth 100000 in
theorem ref_from_any (t : Int) (w : World) :
    Calls Try.prog 16 #[.int .i64 t] w fun e w' => e = .returned (.bool (Tm.net t)) ∧ w = w' := by
  have HK : Hid (Tm.net t = decide (t = 2 ∨ t = 3 ∨ t = 4 ∨ t = 6)) := rfl
  go_enter Try.func16, Try.ntmps16
  go_wp2
  all_goals go_ret
  all_goals exact ⟨ret_bool (by rw [HK.out, Bool.eq_iff_iff]; (try simp only [beq_iff_eq, beq_eq_false_iff_ne, ne_eq] at *); simp; try omega), rfl⟩

set_option maxHeartbeats 1000000 in
set_option maxRecDepth 100000 in
theorem ref_tput_any (t ri ai : Int) (w : World) :
    Calls Try.prog 10 #[.agg #[.int .i64 t, .int .i64 ri, .int .i64 ai]] w fun e w' => e = .returned (.tuple #[.string (Tm.putRes t ri ai).1, .int .i64 (Tm.putRes t ri ai).2]) ∧ Below w.heap.size w w' := by
  have hq0 : Below w.heap.size w (w.alloc (.cells #[.int .i64 t, .int .i64 ri, .int .i64 ai] 33)) := (Below.refl _ _).alloc (Nat.le_refl _) _
  by_cases hk : Tm.known t
  · by_cases hg : Tm.fits ri ai
    · have HR : Hid (Tm.putRes t ri ai = (strOfNums [15, ri / 256, ri % 256, t, 2 * ai + 1], 0)) := Tm.put_good hk hg
      obtain ⟨⟨r0, r1⟩, a0, a1⟩ := hg
      obtain ⟨k0, k1⟩ := hk
      have hcv := conv_five (w.alloc (.cells #[.int .i64 t, .int .i64 ri, .int .i64 ai] 33)) 15 (ri / 256) (ri % 256) t (2 * ai + 1)
      rw [show (w.alloc (.cells #[.int .i64 t, .int .i64 ri, .int .i64 ai] 33)).heap.size = w.heap.size + 1 from by simp] at hcv
      go_enter Try.func10, Try.ntmps10
      go_wp2
      go_ret2
      rw [HR.out]
      exact ⟨rfl, hq0.alloc hq0.size _⟩
    · have HR : Hid (Tm.putRes t ri ai = (ByteArray.empty, 2)) := Tm.put_bad hk hg
      have hg' : ¬ ((0 ≤ ri ∧ ri ≤ 65535) ∧ (0 ≤ ai ∧ ai ≤ 127)) := hg
      obtain ⟨k0, k1⟩ := hk
      clear hg
      go_enter Try.func10, Try.ntmps10
      go_wp2
      all_goals first | (exfalso; omega) | skip
      all_goals go_ret2
      all_goals rw [HR.out]
      all_goals exact ⟨rfl, hq0⟩
  · have HR : Hid (Tm.putRes t ri ai = (ByteArray.empty, 4)) := Tm.put_none ri ai hk
    have hk' : ¬ (1 ≤ t ∧ t ≤ 7) := hk
    clear hk
    go_enter Try.func10, Try.ntmps10
    go_wp2
    all_goals first | (exfalso; omega) | skip
    all_goals go_ret2
    all_goals rw [HR.out]
    all_goals exact ⟨rfl, hq0⟩
end Go.Proofs.Ytfpdkdaoomakgaa
