/-
  The walk of addr.KindOf: it answers 'kind', and turns nothing.
-/
import Derived.Test.YtdnhcpkpajbhoabCommon
import Derived.Test.YtdnhcpkpajbhoabAddrMath
namespace Go.Proofs.Ytdnhcpkpajbhoab
open Go.RowKit
set_option linter.unusedVariables false
set_option linter.unusedSimpArgs false

set_option maxHeartbeats 400000 in
theorem kind_any (t : Int) (w : World) :
    Calls Try.prog 36 #[.int .i64 t] w fun e w' => e = .returned (.int .i64 (Am.kind t)) ∧ w = w' := by
  have HK : Hid (Am.kind t = if 0 ≤ t ∧ t ≤ 63 then 1 else if 64 ≤ t ∧ t ≤ 126 then 2 else if t = 127 then 3 else 0) := rfl
  by_cases h7 : t = 127
  · subst h7
    go_enter Try.func36, Try.ntmps36
    go_wp2
    go_ret
    exact ⟨ret_int (by rw [HK.out]; decide), rfl⟩
  · have h8 : (t == 127) = false := by simpa using h7
    go_enter Try.func36, Try.ntmps36
    go_wp2
    all_goals go_ret
    all_goals exact ⟨ret_int (by rw [HK.out]; repeat' split <;> omega), rfl⟩
end Go.Proofs.Ytdnhcpkpajbhoab
