/-
  The walk of bits.Field: it returns the number 'fld', and turns nothing that was there.
-/
import Derived.Test.YtfpdkdaoomakgaaDoorCommon
namespace Go.Proofs.YtfpdkdaoomakgaaDoor
open Go.RowKit
set_option linter.unusedVariables false
set_option linter.unusedSimpArgs false

set_option maxHeartbeats 400000 in
theorem field_in (x low count : Int) (w : World) (hx0 : 0 ≤ x) (hx1 : x ≤ 255) (h0 : 0 ≤ low) (h1 : low < 8) (hc : 1 ≤ count) (hcm : count ≤ 9223372036854775807) :
    Calls Tryd.prog 15 #[.int .u8 x, .int .i64 low, .int .i64 count] w fun e w' => e = .returned (.int .i64 (Bm.fld x low count)) ∧ ∃ n, w' = w.drewN n := by
  go_enter Tryd.func15, Tryd.ntmps15
  go_wp2
  all_goals (go_quiet (fail))
  all_goals go_wp2
  all_goals go_ret
  · exact ⟨ret_int (Bm.fld_cut x low count hx0 hx1 h0 h1 (by omega)), _, rfl⟩
  · exact ⟨ret_int (Bm.fld_whole x low count hx0 hx1 h0 h1 hc (by omega)), _, rfl⟩

set_option maxHeartbeats 400000 in
theorem field_out (x low count : Int) (w : World) (h : low < 0 ∨ 7 < low ∨ count < 1) :
    Calls Tryd.prog 15 #[.int .u8 x, .int .i64 low, .int .i64 count] w fun e w' => e = .returned (.int .i64 (Bm.fld x low count)) ∧ ∃ n, w' = w.drewN n := by
  have hf : Hid (Bm.fld x low count = 0) := Bm.fld_none x low count h
  go_enter Tryd.func15, Tryd.ntmps15
  go_wp2
  all_goals go_ret
  all_goals exact ⟨ret_int hf.out.symm, 0, rfl⟩

theorem field_any (x low count : Int) (w : World) (hx0 : 0 ≤ x) (hx1 : x ≤ 255) (hcm : count ≤ 9223372036854775807) :
    Calls Tryd.prog 15 #[.int .u8 x, .int .i64 low, .int .i64 count] w fun e w' => e = .returned (.int .i64 (Bm.fld x low count)) ∧ ∃ n, w' = w.drewN n := by
  by_cases h : low < 0 ∨ 7 < low ∨ count < 1
  · exact field_out x low count w h
  · exact field_in x low count w hx0 hx1 (by omega) (by omega) (by omega) hcm

end Go.Proofs.YtfpdkdaoomakgaaDoor
