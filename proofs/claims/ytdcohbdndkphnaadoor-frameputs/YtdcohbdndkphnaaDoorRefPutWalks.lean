/-
  The walk of the document's Put: it answers 'putRes'. Nothing that was there is turned.
-/
import Derived.Test.YtdcohbdndkphnaaDoorPutWalks
namespace Go.Proofs.YtdcohbdndkphnaaDoor
open Go.RowKit
set_option linter.unusedVariables false
set_option linter.unusedSimpArgs false

set_option maxHeartbeats 1000000 in
set_option maxRecDepth 100000 in
theorem ref_put_any (a b : Int) (c : Bool) (w : World) :
    Calls Tryd.prog 32 #[.agg #[.int .i64 a, .int .i64 b, .bool c]] w fun e w' => e = .returned (.tuple #[.string (Am.putRes a b c).1, .int .i64 (Am.putRes a b c).2]) ∧ Below w.heap.size w w' := by
  have HP : Hid (Am.putRes a b c = if Am.good a b then (strOfNums (Am.octs2 a b c), 0) else (ByteArray.empty, 2)) := rfl
  by_cases hg : Am.good a b
  · have HP2 : Hid (Am.putRes a b c = (strOfNums (Am.octs2 a b c), 0)) := by show _ = _; rw [HP.out, if_pos hg]
    obtain ⟨⟨h1, h2⟩, h3, h4⟩ := hg
    clear HP
    cases c
    · have hcv := conv_two (w.alloc (.cells #[.int .i64 a, .int .i64 b, .bool false] 70)) (4 * a) (2 * b + 1)
      rw [show (w.alloc (.cells #[.int .i64 a, .int .i64 b, .bool false] 70)).heap.size = w.heap.size + 1 from by simp] at hcv
      have HO : Hid (strOfNums [4 * a, 2 * b + 1] = strOfNums (Am.octs2 a b false)) := by show _ = _; simp [Am.octs2, Am.crN]
      go_enter Tryd.func32, Tryd.ntmps32
      go_wp2
      go_ret2
      rw [HP2.out, HO.out]
      exact ⟨rfl, ((Below.refl _ _).alloc (Nat.le_refl _) _).alloc (by simp) _⟩
    · have hcv := conv_two (w.alloc (.cells #[.int .i64 a, .int .i64 b, .bool true] 70)) (4 * a + 2) (2 * b + 1)
      rw [show (w.alloc (.cells #[.int .i64 a, .int .i64 b, .bool true] 70)).heap.size = w.heap.size + 1 from by simp] at hcv
      have HO : Hid (strOfNums [4 * a + 2, 2 * b + 1] = strOfNums (Am.octs2 a b true)) := by show _ = _; simp [Am.octs2, Am.crN]
      go_enter Tryd.func32, Tryd.ntmps32
      go_wp2
      go_ret2
      rw [HP2.out, HO.out]
      exact ⟨rfl, ((Below.refl _ _).alloc (Nat.le_refl _) _).alloc (by simp) _⟩
  · have HP2 : Hid (Am.putRes a b c = (ByteArray.empty, 2)) := by show _ = _; rw [HP.out, if_neg hg]
    have hg' : ¬ ((0 ≤ a ∧ a ≤ 63) ∧ (0 ≤ b ∧ b ≤ 127)) := hg
    clear HP hg
    go_enter Tryd.func32, Tryd.ntmps32
    go_wp2
    all_goals first | (exfalso; omega) | skip
    all_goals go_ret2
    all_goals rw [HP2.out]
    all_goals exact ⟨rfl, (Below.refl _ _).alloc (Nat.le_refl _) _⟩
end Go.Proofs.YtdcohbdndkphnaaDoor
