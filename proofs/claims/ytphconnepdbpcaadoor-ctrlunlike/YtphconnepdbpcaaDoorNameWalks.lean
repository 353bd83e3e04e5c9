/-
  The walks of a kind's method Name: it turns nothing.
-/
import Derived.Test.YtphconnepdbpcaaDoorCtrlSmall
import Derived.Test.YtphconnepdbpcaaDoorNamesTab
namespace Go.Proofs.YtphconnepdbpcaaDoor
open Go.RowKit
set_option linter.unusedVariables false
set_option linter.unusedSimpArgs false

theorem nameOf_in (n : Nat) (h : n < 10) : Cm.nameOf (n : Int) = Cm.nameAt n := by
  rw [Cm.nameOf, if_pos (by show 0 ≤ (n : Int) ∧ (n : Int) ≤ 9; omega), Int.toNat_natCast]
theorem nameOf_out (k : Int) (h : ¬ Cm.known k) : Cm.nameOf k = ByteArray.empty := by rw [Cm.nameOf, if_neg h]

set_option maxHeartbeats 400000 in
theorem name_any (k : Int) (w : World) (hT : Names w) :
    Calls Tryd.prog 12 #[.int .i64 k] w fun e w' => e = .returned (.string (Cm.nameOf k)) ∧ w = w' := by
  have hK := known_any k w
  by_cases h : Cm.known k
  · rw [Cm.kn_in h] at hK
    obtain ⟨n, rfl⟩ : ∃ n : Nat, k = (n : Int) := ⟨k.toNat, by have : 0 ≤ k := h.1; omega⟩
    have hn : n < 10 := by have : (n : Int) ≤ 9 := h.2; omega
    have hc := hT n hn
    have hlt := hT.lt
    rw [nameOf_in n hn]
    obtain ⟨x, hx⟩ : ∃ x, x = Cm.nameAt n := ⟨_, rfl⟩
    rw [← hx] at hc ⊢
    clear hx hT h
    go_enter Tryd.func12, Tryd.ntmps12
    go_wp2_with fail
    refine hK.mono ?_
    rintro e w' ⟨rfl, rfl⟩
    go_wp2
    go_ret
    exact ⟨rfl, rfl⟩
  · rw [Cm.kn_out h] at hK
    rw [nameOf_out k h]
    clear hT h
    go_enter Tryd.func12, Tryd.ntmps12
    go_wp2_with fail
    refine hK.mono ?_
    rintro e w' ⟨rfl, rfl⟩
    go_wp2
    go_ret
    exact ⟨rfl, rfl⟩
end Go.Proofs.YtphconnepdbpcaaDoor
