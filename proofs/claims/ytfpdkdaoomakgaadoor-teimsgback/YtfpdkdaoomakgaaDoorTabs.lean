/-
  The two tables of package ctrl, as the walks read them: they hold what the program's text lays, in every world behind the call's start.
-/
import Derived.Test.YtfpdkdaoomakgaaDoorCommon
import Derived.Test.YtfpdkdaoomakgaaDoorCtrlMath
import Derived.Lib.LaidTab
import Derived.MakeChecks
namespace Go.Proofs.YtfpdkdaoomakgaaDoor
open Go.RowKit
set_option linter.unusedVariables false
set_option linter.unusedSimpArgs false

/-- the first octets -/
def First (w : World) : Prop := ∀ i, i < 10 → w.cell? ⟨2, i, none⟩ = some (.int .u8 (Cm.octs.getD i 0))
theorem First.lt {w : World} (h : First w) : 2 < w.heap.size := cell_lt (h 0 (by decide))
theorem First.later {w w' : World} (h : First w) (hb : Below w.heap.size w w') : First w' := fun i hi => (hb.cell (p := ⟨2, i, none⟩) h.lt).trans (h i hi)
theorem First.drewN {w : World} (h : First w) (n : Nat) : First (w.drewN n) := h.later (below_drewN (Below.refl _ _) n)

theorem first_of {W : World} {rest : List (String × DataW Unit)} (h : laidMet Tryd.prog (("lapwing/ctrl.firstOctets", Rows.laid_lapwing_ctrl_firstOctets) :: rest) W) : First W := by
  have e : (Rows.laid_lapwing_ctrl_firstOctets : DataW Unit) = Lib.tabData .u8 Cm.octs := rfl
  rw [e] at h
  have hT := Lib.tabIs_of_head (g := 2) (t := 80) (e := 5) (n := 10) (by kernel_rfl) (by kernel_rfl) Tryd.underlying80 Tryd.underlying5 (by kernel_rfl) (by kernel_rfl) h
  exact fun i hi => hT.cell (by kernel_rfl) i hi
end Go.Proofs.YtfpdkdaoomakgaaDoor
