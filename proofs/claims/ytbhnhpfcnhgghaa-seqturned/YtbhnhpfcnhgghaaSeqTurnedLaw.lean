/-
  The walk of the law SeqTurned: it returns true.
-/
import Derived.Test.YtbhnhpfcnhgghaaSeqWakes
namespace Go.Proofs.Ytbhnhpfcnhgghaa
open Go.RowKit
set_option linter.unusedVariables false
set_option linter.unusedSimpArgs false

/-- the function within: all turned by the number that lies in the block B -/
theorem turned_by (k n : Int) (B : Nat) (w : World) (hk0 : -9223372036854775808 ≤ k) (hk1 : k ≤ 9223372036854775807) (hn0 : -9223372036854775808 ≤ n) (hn1 : n ≤ 9223372036854775807) (hB : w.cell? ⟨B, 0, none⟩ = some (.int .i64 n)) :
    Calls Try.prog 20 #[.int .i64 k, .pointer (some ⟨B, 0, none⟩)] w fun e w' => e = .returned (.int .i64 (Sm.ad k n)) ∧ w = w' := by
  go_enter Try.func20, Try.ntmps20
  go_wp2_with (go_at_call 12; refine (sadd_any _ _ _ (by omega) (by omega) (by omega) (by omega)).mono ?_; rintro e w' ⟨rfl, rfl⟩)
  go_ret
  exact ⟨rfl, rfl⟩

set_option maxHeartbeats 1000000 in
set_option maxRecDepth 10000 in
theorem walk_SeqTurned (a b c n : Int) (w : World) (ha : -9223372036854775808 ≤ a ∧ a ≤ 9223372036854775807) (hb : -9223372036854775808 ≤ b ∧ b ≤ 9223372036854775807) (hc : -9223372036854775808 ≤ c ∧ c ≤ 9223372036854775807) (hn : -9223372036854775808 ≤ n ∧ n ≤ 9223372036854775807) :
    Calls Try.prog 7 #[.int .i64 a, .int .i64 b, .agg #[.int .i64 c, .int .i64 n]] w fun e w' => e = .returned (.bool true) ∧ Below w.heap.size w w' := by
  obtain ⟨ha0, ha1⟩ := ha
  obtain ⟨hb0, hb1⟩ := hb
  obtain ⟨hc0, hc1⟩ := hc
  obtain ⟨hn0, hn1⟩ := hn
  have l1 := Sm.ad_lo a n
  have l2 := Sm.ad_hi a n
  have l3 := Sm.ad_lo b n
  have l4 := Sm.ad_hi b n
  have l5 := Sm.ad_lo c n
  have l6 := Sm.ad_hi c n
  have t1 : (Sm.vd a b c == Sm.vd (Sm.ad a n) (Sm.ad b n) (Sm.ad c n)) = true := by rw [Sm.vd_turned]; simp
  have t2 : (Sm.rm a b c == Sm.rm (Sm.ad a n) (Sm.ad b n) c) = true := by rw [Sm.rm_turned]; simp
  go_enter Try.func7, Try.ntmps7
  go_wp2_with fail
  go_region
  have hcell : ((w.alloc (Obj.cells #[Value.int IntKind.i64 c, Value.int IntKind.i64 n] 28)).alloc (Obj.cells #[Value.int IntKind.i64 n] 3)).drew.cell? ⟨w.heap.size + 1, 0, none⟩ = some (.int .i64 n) := by simp
  have hbel : Below w.heap.size w ((w.alloc (Obj.cells #[Value.int IntKind.i64 c, Value.int IntKind.i64 n] 28)).alloc (Obj.cells #[Value.int IntKind.i64 n] 3)).drew := (((Below.refl _ _).alloc (Nat.le_refl _) _).alloc (by simp) _).drew
  generalize w.heap.size + 1 = B at hcell ⊢
  generalize ((w.alloc (Obj.cells #[Value.int IntKind.i64 c, Value.int IntKind.i64 n] 28)).alloc (Obj.cells #[Value.int IntKind.i64 n] 3)).drew = W at hcell hbel ⊢
  go_wp2_with (first
    | (go_at_call 9; refine (swakes_any _).mono ?_; rintro e w' ⟨rfl, rfl⟩)
    | (go_at_call 16; refine (svalid_any _ _ _ _ (by omega) (by omega) (by omega) (by omega) (by omega) (by omega)).mono ?_; rintro e w' ⟨rfl, rfl⟩)
    | (go_at_call 18; refine (sroom_any _ _ _ _ (by omega) (by omega) (by omega) (by omega) (by omega) (by omega)).mono ?_; rintro e w' ⟨rfl, rfl⟩)
    | (go_at_call 20; refine (turned_by _ n _ _ (by omega) (by omega) (by omega) (by omega) hcell).mono ?_; rintro e w' ⟨rfl, rfl⟩))
  go_ret
  exact ⟨by simp, hbel⟩
end Go.Proofs.Ytbhnhpfcnhgghaa
