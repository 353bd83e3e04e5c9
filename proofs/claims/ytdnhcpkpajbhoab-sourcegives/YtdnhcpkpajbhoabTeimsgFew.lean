/-
  The walk of a type's method known: it turns nothing; a message's cells.
-/
import Derived.Test.YtdnhcpkpajbhoabCommon
import Derived.Test.YtdnhcpkpajbhoabTeimsgMath
namespace Go.Proofs.Ytdnhcpkpajbhoab
open Go.RowKit
set_option linter.unusedVariables false
set_option linter.unusedSimpArgs false

set_option maxHeartbeats 400000 in
set_option maxRecDepth 100000 in
theorem tknown_any (t : Int) (w : World) :
    Calls Try.prog 65 #[.int .i64 t] w fun e w' => e = .returned (.bool (Tm.kn t)) ∧ w = w' := by
  have HK : Hid (Tm.kn t = decide (1 ≤ t ∧ t ≤ 7)) := rfl
  go_enter Try.func65, Try.ntmps65
  go_wp2
  all_goals go_ret
  all_goals exact ⟨ret_bool (by rw [HK.out, Bool.eq_iff_iff]; simp; try omega), rfl⟩

/-- a message lies where it was put, behind whatever was made since -/
structure Msg3 (w : World) (B : Nat) (t ri ai : Int) : Prop where
  lt : B < w.heap.size
  c0 : w.cell? ⟨B, 0, none⟩ = some (.int .i64 t)
  c1 : w.cell? ⟨B, 1, none⟩ = some (.int .i64 ri)
  c2 : w.cell? ⟨B, 2, none⟩ = some (.int .i64 ai)
theorem Msg3.later {w w' : World} {B : Nat} {t ri ai : Int} (h : Msg3 w B t ri ai) (hb : Below w.heap.size w w') : Msg3 w' B t ri ai :=
  ⟨Nat.lt_of_lt_of_le h.lt hb.size, (hb.cell (p := ⟨B, 0, none⟩) h.lt).trans h.c0, (hb.cell (p := ⟨B, 1, none⟩) h.lt).trans h.c1, (hb.cell (p := ⟨B, 2, none⟩) h.lt).trans h.c2⟩
theorem msg3_new (w : World) (t ri ai : Int) (T : TypeId) : Msg3 (w.alloc (.cells #[.int .i64 t, .int .i64 ri, .int .i64 ai] T)) w.heap.size t ri ai := ⟨by simp, by simp, by simp, by simp⟩

theorem conv_five (w : World) (a b c d e : Int) : (convert 109 9 (.slice (some ⟨w.heap.size, 0, none⟩) 5 5)).run Try.prog (w.alloc (.cells #[.int .u8 a, .int .u8 b, .int .u8 c, .int .u8 d, .int .u8 e] 5)) = .ok (.string (strOfNums [a, b, c, d, e])) (w.alloc (.cells #[.int .u8 a, .int .u8 b, .int .u8 c, .int .u8 d, .int .u8 e] 5)) := by
  refine run_convert_bytes_arg _ 109 5 Try.underlying109 Try.underlying5 w.heap.size 0 5 5 [a, b, c, d, e] rfl (fun i hi => ?_) 9 Try.underlying9
  have : i = 0 ∨ i = 1 ∨ i = 2 ∨ i = 3 ∨ i = 4 := by omega
  rcases this with rfl | rfl | rfl | rfl | rfl <;> simp
end Go.Proofs.Ytdnhcpkpajbhoab
