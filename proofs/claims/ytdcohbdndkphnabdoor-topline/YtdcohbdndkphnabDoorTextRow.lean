/-
  A slice of texts (frames as plain data) that came in: its elements, one behind the other.
-/
import Derived.Test.YtdcohbdndkphnabDoorCommon
import Derived.OpenShut
import Derived.Deep.Slices
namespace Go.Proofs.YtdcohbdndkphnabDoor
open Go.RowKit Go.ChangeShapes Go.WideShapes
set_option linter.unusedVariables false
set_option linter.unusedSimpArgs false

/-- a text -/
structure Txt where
  kind : Int
  ns : Int
  nr : Int
  pf : Bool
  info : ByteArray
def txt0 : Txt := ⟨0, 0, 0, false, ByteArray.empty⟩
structure TxtAt (w : World) (b off : Nat) (z : Txt) : Prop where
  c0 : w.cell? ⟨b, off, none⟩ = some (.int .i64 z.kind)
  c1 : w.cell? ⟨b, off + 1, none⟩ = some (.int .i64 z.ns)
  c2 : w.cell? ⟨b, off + 2, none⟩ = some (.int .i64 z.nr)
  c3 : w.cell? ⟨b, off + 3, none⟩ = some (.bool z.pf)
  c4 : w.cell? ⟨b, off + 4, none⟩ = some (.string z.info)
def TextRow (w : World) (a : Option Addr) (len cap : Nat) (zs : List Txt) : Prop :=
  zs.length = len ∧ len ≤ cap ∧ cap ≤ maxLen ∧ (∀ z ∈ zs, (-9223372036854775808 ≤ z.kind ∧ z.kind ≤ 9223372036854775807) ∧ z.info.size ≤ 9223372036854775807) ∧
  (len = 0 ∨ ∃ b off, a = some ⟨b, off, none⟩ ∧ b < w.heap.size ∧ ∀ i, i < len → TxtAt w b (off + i * 5) (zs.getD i txt0))
theorem TextRow.at {w : World} {a : Option Addr} {len cap : Nat} {zs : List Txt} (h : TextRow w a len cap zs) (i : Nat) (hi : i < len) :
    ∃ b off z, a = some ⟨b, off, none⟩ ∧ b < w.heap.size ∧ TxtAt w b (off + i * 5) z ∧ (-9223372036854775808 ≤ z.kind ∧ z.kind ≤ 9223372036854775807) ∧ z.info.size ≤ 9223372036854775807 := by
  obtain ⟨h1, h2, h3, h4, h5⟩ := h
  rcases h5 with h0 | ⟨b, off, e, hlt, hc⟩
  · omega
  · have hm : zs.getD i txt0 ∈ zs := by
      rw [List.getD, List.getElem?_eq_getElem (by omega)]
      exact List.getElem_mem _
    exact ⟨b, off, _, e, hlt, hc i hi, (h4 _ hm).1, (h4 _ hm).2⟩
theorem TxtAt.later {w w' : World} {b off : Nat} {z : Txt} {B : Nat} (h : TxtAt w b off z) (hb : Below B w w') (hB : b < B) : TxtAt w' b off z :=
  ⟨(hb.cell (p := ⟨b, off, none⟩) hB).trans h.c0, (hb.cell (p := ⟨b, off + 1, none⟩) hB).trans h.c1, (hb.cell (p := ⟨b, off + 2, none⟩) hB).trans h.c2, (hb.cell (p := ⟨b, off + 3, none⟩) hB).trans h.c3, (hb.cell (p := ⟨b, off + 4, none⟩) hB).trans h.c4⟩

theorem add_plain' (b off i : Nat) : (⟨b, off, none⟩ : Addr).add i = ⟨b, off + i, none⟩ := by unfold Addr.add; split <;> simp_all

set_option maxRecDepth 100000 in
theorem open_TopLine0 {H : Type} {enc : TypeId × Value → H} {w : World} {a : Option Addr} {len cap : Nat} {d : DataW H} {p : List MemPlace}
    (h : DataW.Trod enc Tryd.prog w 0 (fun _ => true) true 39 (.slice a len cap) d p) : ∃ zs, TextRow w a len cap zs := by
  obtain ⟨fuel, hf⟩ := h
  have ce : Tryd.prog.cellsOf 43 = 5 := by kernel_rfl
  have ci : Tryd.prog.cellsOf 3 = 1 := by kernel_rfl
  have cb : Tryd.prog.cellsOf 4 = 1 := by kernel_rfl
  have cS : Tryd.prog.cellsOf 9 = 1 := by kernel_rfl
  rcases Deep.open_slice Tryd.underlying39 hf with ⟨hcs, _⟩ | ⟨x, l, c, m, n, D, Pl, hcs, _, hl, hm, hmm, _, hx⟩
  · simp [Value.cells] at hcs
    obtain ⟨rfl, rfl, rfl⟩ := hcs
    exact ⟨[], rfl, Nat.le_refl _, Nat.zero_le _, fun q h => by simp at h, Or.inl rfl⟩
  · simp [Value.cells] at hcs
    obtain ⟨rfl, rfl, rfl⟩ := hcs
    have hmc : m = cap := by rw [hmm]; rfl
    subst hmc
    rw [ce] at hx
    have each : ∀ i, i < m → ∃ z : Txt, (w.cell? (x.add (i * 5)) = some (.int .i64 z.kind) ∧ w.cell? (x.add (i * 5 + 1)) = some (.int .i64 z.ns) ∧ w.cell? (x.add (i * 5 + 2)) = some (.int .i64 z.nr) ∧ w.cell? (x.add (i * 5 + 3)) = some (.bool z.pf) ∧ w.cell? (x.add (i * 5 + 4)) = some (.string z.info)) ∧ (Lit.int .i64 z.kind).wf = true ∧ z.info.size ≤ maxLen := by
      intro i hi
      obtain ⟨cs', h1, h2⟩ := hx i hi
      obtain ⟨_, hlen, hcell⟩ := World.cells?_some h1
      obtain ⟨xs, k, hk, hxy, _, hxl, hfe⟩ := DataW.trod_struct Tryd.underlying43 h2
      match xs, hxl, cs', hlen with
      | [y0, y1, y2, y3, y4], _, [v0, v1, v2, v3, v4], _ =>
        have g0 := hfe 0 _ rfl
        have g1 := hfe 1 _ rfl
        have g2 := hfe 2 _ rfl
        have g3 := hfe 3 _ rfl
        have g4 := hfe 4 _ rfl
        simp [ci, cb, cS] at g0 g1 g2 g3 g4
        have e0 := hcell 0 (by decide)
        have e1 := hcell 1 (by decide)
        have e2 := hcell 2 (by decide)
        have e3 := hcell 3 (by decide)
        have e4 := hcell 4 (by decide)
        rw [Deep.add_add] at e0 e1 e2 e3 e4
        obtain ⟨a0, ea, _, wa⟩ := DataW.trod_int Tryd.underlying3 g0
        obtain ⟨a1, eb, _, _⟩ := DataW.trod_int Tryd.underlying3 g1
        obtain ⟨a2, ec, _, _⟩ := DataW.trod_int Tryd.underlying3 g2
        obtain ⟨a3, ed, _⟩ := DataW.trod_bool Tryd.underlying4 g3
        obtain ⟨a4, ef, _, wf⟩ := DataW.trod_string Tryd.underlying9 g4
        simp at ea eb ec ed ef
        subst ea eb ec ed ef
        exact ⟨⟨a0, a1, a2, a3, a4⟩, ⟨by simpa using e0, by simpa using e1, by simpa using e2, by simpa using e3, by simpa using e4⟩, wa, wf⟩
    have hI : Inhabited Txt := ⟨txt0⟩
    obtain ⟨q, hq⟩ := Deep.choose_lt each
    refine ⟨(List.range len).map q, by simp, hl, hm, ?_, ?_⟩
    · intro z hz
      simp only [List.mem_map, List.mem_range] at hz
      obtain ⟨i, hi, rfl⟩ := hz
      have h3 := (hq i (by omega)).2.2
      unfold maxLen at h3
      exact ⟨bounds_i64 (hq i (by omega)).2.1, by omega⟩
    · by_cases h0 : len = 0
      · exact Or.inl h0
      · obtain ⟨b, off, spot⟩ := x
        have hc := (hq 0 (by omega)).1.1
        have hspot : spot = none := by simpa [Addr.add] using World.cell?_spot hc
        subst hspot
        have hadd : ∀ i, (⟨b, off, none⟩ : Addr).add i = ⟨b, off + i, none⟩ := add_plain' b off
        refine Or.inr ⟨b, off, rfl, cell_lt (by rw [hadd] at hc; exact hc), fun i hi => ?_⟩
        obtain ⟨h1, h2, h3, h4, h5⟩ := (hq i (by omega)).1
        rw [hadd] at h1 h2 h3 h4 h5
        have e : ((List.range len).map q).getD i txt0 = q i := by simp [List.getD, hi]
        rw [e]
        exact ⟨h1, h2, h3, h4, h5⟩
end Go.Proofs.YtdcohbdndkphnabDoor
