/-
  The two tables of package frame, as the walks read them: they hold what the program's text lays, in every world behind the call's start.
-/
import Derived.Test.YtfpdkdaoomakgaaDoorTabs
import Derived.Test.YtfpdkdaoomakgaaDoorFrameMath
namespace Go.Proofs.YtfpdkdaoomakgaaDoor
open Go.RowKit
set_option linter.unusedVariables false
set_option linter.unusedSimpArgs false

/-- what may be commands alone, and responses alone -/
structure Ways (w : World) : Prop where
  cmd : ∀ i, i < 10 → w.cell? ⟨1, i, none⟩ = some (.bool (Xm.cmdT.getD i false))
  resp : ∀ i, i < 10 → w.cell? ⟨0, i, none⟩ = some (.bool (Xm.respT.getD i false))
theorem Ways.lt {w : World} (h : Ways w) : 1 < w.heap.size ∧ 0 < w.heap.size := ⟨cell_lt (h.cmd 0 (by decide)), cell_lt (h.resp 0 (by decide))⟩
theorem Ways.later {w w' : World} (h : Ways w) (hb : Below w.heap.size w w') : Ways w' :=
  ⟨fun i hi => (hb.cell (p := ⟨1, i, none⟩) h.lt.1).trans (h.cmd i hi), fun i hi => (hb.cell (p := ⟨0, i, none⟩) h.lt.2).trans (h.resp i hi)⟩
/-- all three tables -/
structure Laws6 (w : World) : Prop where
  first : First w
  ways : Ways w
theorem Laws6.later {w w' : World} (h : Laws6 w) (hb : Below w.heap.size w w') : Laws6 w' := ⟨h.first.later hb, h.ways.later hb⟩
theorem Laws6.drewN {w : World} (h : Laws6 w) (n : Nat) : Laws6 (w.drewN n) := h.later (below_drewN (Below.refl _ _) n)

/-- a table of truth values, cell by cell -/
theorem bool_cells {H : Type} {enc : TypeId × Value → H} {W : World} {base : Nat} {spare : Nat → Bool} {held : Bool} {fuel : Nat} {cs : Array Value} {p : List MemPlace} {l : List Bool} {nm : String} {g : Nat} (hl : l.length = 10)
    (hgn : Tryd.prog.globalNamed nm = some g) (hvar : W.var? Tryd.prog nm = some cs) (hd : DataW.trod enc Tryd.prog W base spare held fuel 72 cs.toList = some (.agg (l.map fun b => .lit (.bool b)), p)) :
    ∀ i, i < 10 → W.cell? ⟨g, i, none⟩ = some (.bool (l.getD i false)) := by
  obtain ⟨xs, k, hk, hxy, hcl, hxl, hfe⟩ := DataW.trod_array Tryd.underlying72 hd
  have ce : Tryd.prog.cellsOf 4 = 1 := by kernel_rfl
  rw [ce] at hfe
  have hds := congrArg Prod.fst hxy
  intro i hi
  have hx : xs[i]? = some (xs[i]'(by omega)) := List.getElem?_eq_getElem (by omega)
  have g0 := (hfe i hi).trans hx
  obtain ⟨b, eb, hb⟩ := DataW.trod_bool Tryd.underlying4 g0
  have h1 : cs.toList[i]? = some (.bool b) := by
    have := congrArg (·[0]?) eb
    simpa [List.getElem?_take, List.getElem?_drop] using this
  have h2 : W.cell? ⟨g, i, none⟩ = some (.bool b) := by
    rw [World.var?_cell hgn hvar i, ← Array.getElem?_toList]; exact h1
  rw [h2]
  have h3 : (xs.map (·.1))[i]? = some (.lit (.bool b)) := by rw [List.getElem?_map, hx, hb]; rfl
  have hds' : (l.map fun b => (DataW.lit (.bool b) : DataW H)) = xs.map (·.1) := DataW.agg.inj hds
  rw [← hds', List.getElem?_map] at h3
  obtain ⟨z, hz, hzb⟩ := Option.map_eq_some_iff.1 h3
  have e : z = b := by simpa using hzb
  rw [List.getD, hz, e]; rfl

theorem laws6_of {W : World} (h : laidMet Tryd.prog [("lapwing/ctrl.firstOctets", Rows.laid_lapwing_ctrl_firstOctets), ("lapwing/frame.commandsAlone", Rows.laid_lapwing_frame_commandsAlone), ("lapwing/frame.responsesAlone", Rows.laid_lapwing_frame_responsesAlone)] W) : Laws6 W := by
  refine ⟨first_of h, ?_⟩
  obtain ⟨ps, ⟨_, _, _, _, _, _, _, _, _, _, ⟨g, t, cs, fuel, p, q, hg, ht, hvar, hd, ⟨g2, t2, cs2, fuel2, p2, q2, hg2, ht2, hvar2, hd2, _, _⟩, _⟩, _⟩, _⟩ := h
  obtain rfl := Option.some.inj ((show Tryd.prog.globalNamed "lapwing/frame.commandsAlone" = some 1 by kernel_rfl).symm.trans hg)
  obtain rfl := Option.some.inj ((show (Tryd.prog.globals[1]?).map (·.type) = some 72 by kernel_rfl).symm.trans ht)
  obtain rfl := Option.some.inj ((show Tryd.prog.globalNamed "lapwing/frame.responsesAlone" = some 0 by kernel_rfl).symm.trans hg2)
  obtain rfl := Option.some.inj ((show (Tryd.prog.globals[0]?).map (·.type) = some 72 by kernel_rfl).symm.trans ht2)
  exact ⟨bool_cells (l := Xm.cmdT) rfl hg hvar hd, bool_cells (l := Xm.respT) rfl hg2 hvar2 hd2⟩
end Go.Proofs.YtfpdkdaoomakgaaDoor
