/-
  The walk of the document's Put of layer 7: it answers 'putRes'. Nothing that was there is turned.
-/
import Derived.Test.YtdnhcpkpajbhoaaTeimsgFew
namespace Go.Proofs.Ytdnhcpkpajbhoaa
open Go.RowKit
set_option linter.unusedVariables false
set_option linter.unusedSimpArgs false

set_option maxHeartbeats 1000000 in
set_option maxRecDepth 100000 in
theorem ref_tput_any (t ri ai : Int) (w : World) :
    Calls Try.prog 47 #[.agg #[.int .i64 t, .int .i64 ri, .int .i64 ai]] w fun e w' => e = .returned (.tuple #[.string (Tm.putRes t ri ai).1, .int .i64 (Tm.putRes t ri ai).2]) ∧ Below w.heap.size w w' := by
  have hq0 : Below w.heap.size w (w.alloc (.cells #[.int .i64 t, .int .i64 ri, .int .i64 ai] 75)) := (Below.refl _ _).alloc (Nat.le_refl _) _
  by_cases hk : Tm.known t
  · by_cases hg : Tm.fits ri ai
    · have HR : Hid (Tm.putRes t ri ai = (strOfNums [15, ri / 256, ri % 256, t, 2 * ai + 1], 0)) := Tm.put_good hk hg
      obtain ⟨⟨r0, r1⟩, a0, a1⟩ := hg
      obtain ⟨k0, k1⟩ := hk
      have hcv := conv_five (w.alloc (.cells #[.int .i64 t, .int .i64 ri, .int .i64 ai] 75)) 15 (ri / 256) (ri % 256) t (2 * ai + 1)
      rw [show (w.alloc (.cells #[.int .i64 t, .int .i64 ri, .int .i64 ai] 75)).heap.size = w.heap.size + 1 from by simp] at hcv
      go_enter Try.func47, Try.ntmps47
      go_wp2
      go_ret2
      rw [HR.out]
      exact ⟨rfl, hq0.alloc hq0.size _⟩
    · have HR : Hid (Tm.putRes t ri ai = (ByteArray.empty, 2)) := Tm.put_bad hk hg
      have hg' : ¬ ((0 ≤ ri ∧ ri ≤ 65535) ∧ (0 ≤ ai ∧ ai ≤ 127)) := hg
      obtain ⟨k0, k1⟩ := hk
      clear hg
      go_enter Try.func47, Try.ntmps47
      go_wp2
      all_goals first | (exfalso; omega) | skip
      all_goals go_ret2
      all_goals rw [HR.out]
      all_goals exact ⟨rfl, hq0⟩
  · have HR : Hid (Tm.putRes t ri ai = (ByteArray.empty, 4)) := Tm.put_none ri ai hk
    have hk' : ¬ (1 ≤ t ∧ t ≤ 7) := hk
    clear hk
    go_enter Try.func47, Try.ntmps47
    go_wp2
    all_goals first | (exfalso; omega) | skip
    all_goals go_ret2
    all_goals rw [HR.out]
    all_goals exact ⟨rfl, hq0⟩
end Go.Proofs.Ytdnhcpkpajbhoaa
