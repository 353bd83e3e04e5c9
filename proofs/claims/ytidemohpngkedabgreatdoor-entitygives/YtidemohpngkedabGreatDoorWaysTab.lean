/-
  The two tables of package frame, as the walks read them: they hold what the program's text lays, in every world behind the call's start.
-/
import Derived.Test.YtidemohpngkedabGreatDoorBase
import Derived.Test.YtidemohpngkedabGreatDoorWaysMath
import Derived.Lib.LaidTab
import Derived.MakeChecks
namespace Go.Proofs.YtidemohpngkedabGreatDoor
open Go.RowKit
set_option linter.unusedVariables false
set_option maxRecDepth 100000
set_option linter.unusedSimpArgs false

/-- what may be commands alone, and responses alone -/
structure Ways (w : World) : Prop where
  cmd : ∀ i, i < 10 → w.cell? ⟨1, i, none⟩ = some (.bool (Xm.cmdT.getD i false))
  resp : ∀ i, i < 10 → w.cell? ⟨0, i, none⟩ = some (.bool (Xm.respT.getD i false))
theorem Ways.lt {w : World} (h : Ways w) : 1 < w.heap.size ∧ 0 < w.heap.size := ⟨cell_lt (h.cmd 0 (by decide)), cell_lt (h.resp 0 (by decide))⟩
theorem Ways.later {w w' : World} (h : Ways w) (hb : Below w.heap.size w w') : Ways w' :=
  ⟨fun i hi => (hb.cell (p := ⟨1, i, none⟩) h.lt.1).trans (h.cmd i hi), fun i hi => (hb.cell (p := ⟨0, i, none⟩) h.lt.2).trans (h.resp i hi)⟩
/-- a table of truth values, cell by cell -/
theorem bool_cells {H : Type} {enc : TypeId × Value → H} {W : World} {base : Nat} {spare : Nat → Bool} {held : Bool} {fuel : Nat} {cs : Array Value} {p : List MemPlace} {l : List Bool} {nm : String} {g : Nat} (hl : l.length = 10)
    (hgn : Tryz.prog.globalNamed nm = some g) (hvar : W.var? Tryz.prog nm = some cs) (hd : DataW.trod enc Tryz.prog W base spare held fuel 112 cs.toList = some (.agg (l.map fun b => .lit (.bool b)), p)) :
    ∀ i, i < 10 → W.cell? ⟨g, i, none⟩ = some (.bool (l.getD i false)) := by
  obtain ⟨xs, k, hk, hxy, hcl, hxl, hfe⟩ := DataW.trod_array Tryz.underlying112 hd
  have ce : Tryz.prog.cellsOf 4 = 1 := by kernel_rfl
  rw [ce] at hfe
  have hds := congrArg Prod.fst hxy
  intro i hi
  have hx : xs[i]? = some (xs[i]'(by omega)) := List.getElem?_eq_getElem (by omega)
  have g0 := (hfe i hi).trans hx
  obtain ⟨b, eb, hb⟩ := DataW.trod_bool Tryz.underlying4 g0
  have h1 : cs.toList[i]? = some (.bool b) := by
    have := congrArg (·[0]?) eb
    simpa [List.getElem?_take, List.getElem?_drop] using this
  have h2 : W.cell? ⟨g, i, none⟩ = some (.bool b) := by
    rw [World.var?_cell hgn hvar i, ← Array.getElem?_toList]; exact h1
  rw [h2]
  have h3 : (xs.map (·.1))[i]? = some (.lit (.bool b)) := by rw [List.getElem?_map, hx, hb]; rfl
  have hds' : (l.map fun b => (DataW.lit (.bool b) : DataW H)) = xs.map (·.1) := DataW.agg.inj hds
  rw [← hds', List.getElem?_map] at h3
  obtain ⟨z, hz, hzb⟩ := Option.map_eq_some_iff.1 h3
  have e : z = b := by simpa using hzb
  rw [List.getD, hz, e]; rfl
end Go.Proofs.YtidemohpngkedabGreatDoor
