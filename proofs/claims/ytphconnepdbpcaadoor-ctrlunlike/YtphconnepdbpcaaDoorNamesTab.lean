/-
  The table of names of package ctrl, as the walks read it.
-/
import Derived.Test.YtphconnepdbpcaaDoorTabs
namespace Go.Proofs.YtphconnepdbpcaaDoor
open Go.RowKit
set_option linter.unusedVariables false
set_option linter.unusedSimpArgs false

def Names (w : World) : Prop := ∀ i, i < 10 → w.cell? ⟨0, i, none⟩ = some (.string (Cm.nameAt i))
theorem Names.lt {w : World} (h : Names w) : 0 < w.heap.size := cell_lt (h 0 (by decide))
theorem Names.later {w w' : World} (h : Names w) (hb : Below w.heap.size w w') : Names w' := fun i hi => (hb.cell (p := ⟨0, i, none⟩) h.lt).trans (h i hi)

theorem names_of {W : World} (h : laidMet Tryd.prog [("lapwing/ctrl.firstOctets", Rows.laid_lapwing_ctrl_firstOctets), ("lapwing/ctrl.names", Rows.laid_lapwing_ctrl_names)] W) : Names W := by
  obtain ⟨ps, ⟨_, _, _, _, _, _, _, _, _, _, ⟨g, t, cs, fuel, p, q, hg, ht, hvar, hd, _, _⟩, _⟩, _⟩ := h
  obtain rfl := Option.some.inj ((show Tryd.prog.globalNamed "lapwing/ctrl.names" = some 0 by kernel_rfl).symm.trans hg)
  obtain rfl := Option.some.inj ((show (Tryd.prog.globals[0]?).map (·.type) = some 51 by kernel_rfl).symm.trans ht)
  obtain ⟨xs, k, hk, hxy, hcl, hxl, hfe⟩ := DataW.trod_array Tryd.underlying51 hd
  have ce : Tryd.prog.cellsOf 9 = 1 := by kernel_rfl
  rw [ce] at hfe
  have hds := congrArg Prod.fst hxy
  intro i hi
  have hx : xs[i]? = some (xs[i]'(by omega)) := List.getElem?_eq_getElem (by omega)
  have g0 := (hfe i hi).trans hx
  obtain ⟨b, eb, hb, _⟩ := DataW.trod_string Tryd.underlying9 g0
  have h1 : cs.toList[i]? = some (.string b) := by
    have := congrArg (·[0]?) eb
    simpa [List.getElem?_take, List.getElem?_drop] using this
  have h2 : W.cell? ⟨0, i, none⟩ = some (.string b) := by
    rw [World.var?_cell (by kernel_rfl) hvar i, ← Array.getElem?_toList]; exact h1
  rw [h2]
  have h3 : (xs.map (·.1))[i]? = some (.lit (.string b.data.toList)) := by rw [List.getElem?_map, hx, hb]; rfl
  have h4 : (xs.map (·.1)) = (Cm.names.map fun s => (DataW.lit (.string s.data.toList) : DataW Unit)) := by
    have : (Rows.laid_lapwing_ctrl_names : DataW Unit) = .agg (Cm.names.map fun s => .lit (.string s.data.toList)) := rfl
    simp only [this] at hds
    injection hds with hds
    exact hds.symm
  rw [h4, List.getElem?_map] at h3
  obtain ⟨z, hz, hzb⟩ := Option.map_eq_some_iff.1 h3
  injection hzb with hzb
  injection hzb with hzb
  have e : z = b := by
    cases z; cases b
    exact congrArg ByteArray.mk (Array.toList_inj.1 hzb)
  rw [Cm.nameAt, List.getD, hz, e]; rfl
end Go.Proofs.YtphconnepdbpcaaDoor
