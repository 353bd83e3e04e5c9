/-
  Frames: what May and Carries answer, as plain mathematics. It names nothing of the program.
-/
import Derived.Test.YtidemohpngkedabGreatDoorCtrlMath
namespace Go.Proofs.YtidemohpngkedabGreatDoor.Xm
open Go.RowKit
set_option linter.unusedVariables false
set_option linter.unusedSimpArgs false

def cmdT : List Bool := [true, false, false, false, true, false, true, true, false, false]
def respT : List Bool := [false, false, false, false, false, true, false, false, true, true]
/-- P6.1 -/
def mayB (k : Int) (c : Bool) : Bool := Cm.kn k && !((if c then respT else cmdT).getD k.toNat false)
def carB (k n : Int) : Bool := if k = 0 ∨ k = 6 then decide (0 ≤ n ∧ n ≤ 260) else if k = 9 then decide (n = 5) else Cm.kn k && decide (n = 0)
theorem may_out {k : Int} (c : Bool) (h : ¬ Cm.known k) : mayB k c = false := by rw [mayB, Cm.kn_out h]; rfl
theorem may_known {k : Int} {c : Bool} (h : mayB k c = true) : Cm.known k := by
  rcases Decidable.em (Cm.known k) with h' | h'
  · exact h'
  · rw [may_out c h'] at h; exact absurd h (by decide)
end Go.Proofs.YtidemohpngkedabGreatDoor.Xm
