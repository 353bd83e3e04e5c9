/-
  A slice of calls as plain data (structs of five numbers) that came in.
-/
import Derived.Test.YtalpfcckdjipoaaOpenAgg5
import Derived.Test.YtalpfcckdjipoaaBase
import Derived.Deep.Slices
namespace Go.Proofs.Ytalpfcckdjipoaa
open Go.RowKit Go.ChangeShapes Go.WideShapes
set_option linter.unusedVariables false
set_option linter.unusedSimpArgs false

def I64 (a : Int) : Prop := -9223372036854775808 ≤ a ∧ a ≤ 9223372036854775807
/-- one call as plain data -/
structure ActV where
  (d o t n p : Int)
def act0 : ActV := ⟨0, 0, 0, 0, 0⟩
structure ActV.Ok (q : ActV) : Prop where
  d : I64 q.d
  o : I64 q.o
  t : I64 q.t
  n : I64 q.n
  p : I64 q.p
/-- it stands at that place -/
structure ActV.At (q : ActV) (w : World) (b off : Nat) : Prop where
  d : w.cell? ⟨b, off, none⟩ = some (.int .i64 q.d)
  o : w.cell? ⟨b, off + 1, none⟩ = some (.int .i64 q.o)
  t : w.cell? ⟨b, off + 2, none⟩ = some (.int .i64 q.t)
  n : w.cell? ⟨b, off + 3, none⟩ = some (.int .i64 q.n)
  p : w.cell? ⟨b, off + 4, none⟩ = some (.int .i64 q.p)
theorem ActV.At.below {q : ActV} {w w' : World} {b off B : Nat} (h : q.At w b off) (hb : Below B w w') (hB : b < B) : q.At w' b off :=
  ⟨(hb.cell (p := ⟨b, off, none⟩) hB).trans h.d, (hb.cell (p := ⟨b, off + 1, none⟩) hB).trans h.o, (hb.cell (p := ⟨b, off + 2, none⟩) hB).trans h.t, (hb.cell (p := ⟨b, off + 3, none⟩) hB).trans h.n, (hb.cell (p := ⟨b, off + 4, none⟩) hB).trans h.p⟩

/-- A slice of calls that came in: its elements ps, one behind the other. -/
def RowA (w : World) (a : Option Addr) (len cap : Nat) (ps : List ActV) : Prop :=
  ps.length = len ∧ len ≤ cap ∧ cap ≤ maxLen ∧ (∀ q ∈ ps, q.Ok) ∧
  (len = 0 ∨ ∃ b off, a = some ⟨b, off, none⟩ ∧ b < w.heap.size ∧ ∀ i, i < len → (ps.getD i act0).At w b (off + i * 5))
theorem RowA.at {w : World} {a : Option Addr} {len cap : Nat} {ps : List ActV} (h : RowA w a len cap ps) (i : Nat) (hi : i < len) :
    ∃ b off q, a = some ⟨b, off, none⟩ ∧ b < w.heap.size ∧ q = ps.getD i act0 ∧ q.At w b (off + i * 5) ∧ q.Ok := by
  obtain ⟨h1, h2, h3, h4, h5⟩ := h
  rcases h5 with h0 | ⟨b, off, e, hlt, hc⟩
  · omega
  · have hm : ps.getD i act0 ∈ ps := by
      rw [List.getD, List.getElem?_eq_getElem (by omega)]
      exact List.getElem_mem _
    exact ⟨b, off, _, e, hlt, rfl, hc i hi, h4 _ hm⟩

theorem act_plain (b off i : Nat) : (⟨b, off, none⟩ : Addr).add i = ⟨b, off + i, none⟩ := by unfold Addr.add; split <;> simp_all

set_option maxRecDepth 100000 in
theorem open_acts {H : Type} {enc : TypeId × Value → H} {w : World} {a : Option Addr} {len cap : Nat} {d : DataW H} {p : List MemPlace}
    (h : DataW.Trod enc Try.prog w 0 (fun _ => true) true 22 (.slice a len cap) d p) : ∃ ps, RowA w a len cap ps := by
  obtain ⟨fuel, hf⟩ := h
  have ce : Try.prog.cellsOf 24 = 5 := by kernel_rfl
  have ci : Try.prog.cellsOf 3 = 1 := by kernel_rfl
  have cj : Try.prog.cellsOf 2 = 1 := by kernel_rfl
  rcases Deep.open_slice Try.underlying22 hf with ⟨hcs, _⟩ | ⟨x, l, c, m, n, D, Pl, hcs, _, hl, hm, hmm, _, hx⟩
  · simp [Value.cells] at hcs
    obtain ⟨rfl, rfl, rfl⟩ := hcs
    exact ⟨[], rfl, Nat.le_refl _, Nat.zero_le _, fun q h => by simp at h, Or.inl rfl⟩
  · simp [Value.cells] at hcs
    obtain ⟨rfl, rfl, rfl⟩ := hcs
    have hmc : m = cap := by rw [hmm]; rfl
    subst hmc
    rw [ce] at hx
    have each : ∀ i, i < m → ∃ q : ActV, (w.cell? (x.add (i * 5)) = some (.int .i64 q.d) ∧ w.cell? (x.add (i * 5 + 1)) = some (.int .i64 q.o) ∧ w.cell? (x.add (i * 5 + 2)) = some (.int .i64 q.t) ∧ w.cell? (x.add (i * 5 + 3)) = some (.int .i64 q.n) ∧ w.cell? (x.add (i * 5 + 4)) = some (.int .i64 q.p)) ∧ q.Ok := by
      intro i hi
      obtain ⟨cs', h1, h2⟩ := hx i hi
      obtain ⟨_, hlen, hcell⟩ := World.cells?_some h1
      obtain ⟨y0, y1, y2, y3, y4, k, _, _, g0, g1, g2, g3, g4⟩ := trod_struct_5 Try.underlying24 h2
      match cs', hlen with
      | [v0, v1, v2, v3, v4], _ =>
        simp [ci, cj] at g0 g1 g2 g3 g4
        have e0 := hcell 0 (by decide)
        have e1 := hcell 1 (by decide)
        have e2 := hcell 2 (by decide)
        have e3 := hcell 3 (by decide)
        have e4 := hcell 4 (by decide)
        rw [Deep.add_add] at e0 e1 e2 e3 e4
        obtain ⟨a0, ea, _, wa⟩ := DataW.trod_int Try.underlying3 g0
        obtain ⟨a1, eb, _, wb⟩ := DataW.trod_int Try.underlying3 g1
        obtain ⟨a2, ec, _, wc⟩ := DataW.trod_int Try.underlying3 g2
        obtain ⟨a3, ed, _, wd⟩ := DataW.trod_int Try.underlying2 g3
        obtain ⟨a4, ef, _, wf⟩ := DataW.trod_int Try.underlying3 g4
        simp at ea eb ec ed ef
        subst ea eb ec ed ef
        exact ⟨⟨a0, a1, a2, a3, a4⟩, ⟨by simpa using e0, by simpa using e1, by simpa using e2, by simpa using e3, by simpa using e4⟩, ⟨bounds_i64 wa, bounds_i64 wb, bounds_i64 wc, bounds_i64 wd, bounds_i64 wf⟩⟩
    letI : Inhabited ActV := ⟨act0⟩
    obtain ⟨q, hq⟩ := Deep.choose_lt each
    refine ⟨(List.range len).map q, by simp, hl, hm, ?_, ?_⟩
    · intro z hz
      simp only [List.mem_map, List.mem_range] at hz
      obtain ⟨i, hi, rfl⟩ := hz
      exact (hq i (by omega)).2
    · by_cases h0 : len = 0
      · exact Or.inl h0
      · obtain ⟨b, off, spot⟩ := x
        have hc := (hq 0 (by omega)).1.1
        have hspot : spot = none := by simpa [Addr.add] using World.cell?_spot hc
        subst hspot
        have hadd : ∀ i, (⟨b, off, none⟩ : Addr).add i = ⟨b, off + i, none⟩ := act_plain b off
        refine Or.inr ⟨b, off, rfl, cell_lt (by rw [hadd] at hc; exact hc), fun i hi => ?_⟩
        have h1 := (hq i (by omega)).1
        simp only [hadd] at h1
        have e : ((List.range len).map q).getD i act0 = q i := by simp [List.getD, hi]
        rw [e]
        exact ⟨h1.1, h1.2.1, h1.2.2.1, h1.2.2.2.1, h1.2.2.2.2⟩
theorem open_ClockParts0 {H : Type} {enc : TypeId × Value → H} {w : World} {a : Option Addr} {len cap : Nat} {d : DataW H} {p : List MemPlace}
    (h : DataW.Trod enc Try.prog w 0 (fun _ => true) true 22 (.slice a len cap) d p) : ∃ ps, RowA w a len cap ps := open_acts h
theorem open_ClockStops0 {H : Type} {enc : TypeId × Value → H} {w : World} {a : Option Addr} {len cap : Nat} {d : DataW H} {p : List MemPlace}
    (h : DataW.Trod enc Try.prog w 0 (fun _ => true) true 22 (.slice a len cap) d p) : ∃ ps, RowA w a len cap ps := open_acts h
theorem open_ClockOver0 {H : Type} {enc : TypeId × Value → H} {w : World} {a : Option Addr} {len cap : Nat} {d : DataW H} {p : List MemPlace}
    (h : DataW.Trod enc Try.prog w 0 (fun _ => true) true 22 (.slice a len cap) d p) : ∃ ps, RowA w a len cap ps := open_acts h
theorem open_ClockPlays0 {H : Type} {enc : TypeId × Value → H} {w : World} {a : Option Addr} {len cap : Nat} {d : DataW H} {p : List MemPlace}
    (h : DataW.Trod enc Try.prog w 0 (fun _ => true) true 22 (.slice a len cap) d p) : ∃ ps, RowA w a len cap ps := open_acts h
end Go.Proofs.Ytalpfcckdjipoaa
