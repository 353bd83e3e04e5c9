/-
  The walk of the document's Get: it answers 'getRes'. Nothing that was there is turned.
-/
import Derived.Test.YtdcohbdndkphnaaDoorGetWalks
namespace Go.Proofs.YtdcohbdndkphnaaDoor
open Go.RowKit
set_option linter.unusedVariables false
set_option linter.unusedSimpArgs false

set_option maxHeartbeats 1000000 in
set_option maxRecDepth 100000 in
theorem ref_get_any (s : ByteArray) (w : World) (hs : s.size ≤ 140737488355328) :
    Calls Tryd.prog 40 #[.string s] w fun e w' => e = .returned (.tuple #[.agg #[.int .i64 (Am.getRes s).1.1, .int .i64 (Am.getRes s).1.2.1, .bool (Am.getRes s).1.2.2], .int .i64 (Am.getRes s).2]) ∧ Below w.heap.size w w' := by
  by_cases h2 : s.size < 2
  · have HG : Hid (Am.getRes s = ((0, 0, false), 3)) := get_short s h2
    go_enter Tryd.func40, Tryd.ntmps40
    go_wp2
    exact bodyPost_ret (v := .tuple #[.agg #[.int .i64 0, .int .i64 0, .bool false], .int .i64 3]) (by simp [results, Tryd.results40, go_sem]) rfl ⟨by rw [HG.out], (Below.refl _ _).alloc (Nat.le_refl _) _⟩
  · have h0 : 0 < s.size := by omega
    have h1 : 1 < s.size := by omega
    have h1' : (1 : Int) < (s.size : Int) := by omega
    have h0' : (0 : Int) < (s.size : Int) := by omega
    have HG : Hid (Am.getRes s = if (s[0].toNat : Int) % 2 ≠ 0 ∨ (s[1].toNat : Int) % 2 ≠ 1 then (((0 : Int), (0 : Int), false), (4 : Int)) else (((s[0].toNat : Int) / 4, (s[1].toNat : Int) / 2, decide ((s[0].toNat : Int) / 2 % 2 = 1)), 0)) := get_at s (by omega)
    have b0 : 0 ≤ (s[0].toNat : Int) ∧ (s[0].toNat : Int) ≤ 255 := by have := s[0].toNat_lt; omega
    have b1 : 0 ≤ (s[1].toNat : Int) ∧ (s[1].toNat : Int) ≤ 255 := by have := s[1].toNat_lt; omega
    obtain ⟨x0, x1⟩ := b0
    obtain ⟨y0, y1⟩ := b1
    by_cases hx : (s[0].toNat : Int) % 2 = 0
    · have tx : ((s[0].toNat : Int) % 2 == 1) = false := by simp; omega
      by_cases hy : (s[1].toNat : Int) % 2 = 1
      · have ty : ((s[1].toNat : Int) % 2 == 0) = false := by simp; omega
        have HG2 : Hid (Am.getRes s = (((s[0].toNat : Int) / 4, (s[1].toNat : Int) / 2, (s[0].toNat : Int) / 2 % 2 == 1), 0)) := by show _ = _; rw [HG.out, if_neg (by omega)]; rfl
        clear HG hx hy
        go_enter Tryd.func40, Tryd.ntmps40
        go_wp2
        exact bodyPost_ret (v := .tuple #[.agg #[.int .i64 ((s[0].toNat : Int) / 4), .int .i64 ((s[1].toNat : Int) / 2), .bool ((s[0].toNat : Int) / 2 % 2 == 1)], .int .i64 0]) (by simp [results, Tryd.results40, go_sem]) rfl ⟨by rw [HG2.out], (Below.refl _ _).alloc (Nat.le_refl _) _⟩
      · have ty : ((s[1].toNat : Int) % 2 == 0) = true := by simp; omega
        have HG2 : Hid (Am.getRes s = ((0, 0, false), 4)) := by show _ = _; rw [HG.out, if_pos (Or.inr hy)]
        clear HG hx hy
        go_enter Tryd.func40, Tryd.ntmps40
        go_wp2
        exact bodyPost_ret (v := .tuple #[.agg #[.int .i64 0, .int .i64 0, .bool false], .int .i64 4]) (by simp [results, Tryd.results40, go_sem]) rfl ⟨by rw [HG2.out], (Below.refl _ _).alloc (Nat.le_refl _) _⟩
    · have tx : ((s[0].toNat : Int) % 2 == 1) = true := by simp; omega
      have HG2 : Hid (Am.getRes s = ((0, 0, false), 4)) := by show _ = _; rw [HG.out, if_pos (Or.inl hx)]
      clear HG hx
      go_enter Tryd.func40, Tryd.ntmps40
      go_wp2
      exact bodyPost_ret (v := .tuple #[.agg #[.int .i64 0, .int .i64 0, .bool false], .int .i64 4]) (by simp [results, Tryd.results40, go_sem]) rfl ⟨by rw [HG2.out], (Below.refl _ _).alloc (Nat.le_refl _) _⟩
end Go.Proofs.YtdcohbdndkphnaaDoor
