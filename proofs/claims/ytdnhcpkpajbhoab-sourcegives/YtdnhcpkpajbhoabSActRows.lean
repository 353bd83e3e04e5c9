/-
  A slice of a source's calls as plain data (structs of five numbers) that came in.
-/
import Derived.Test.YtdnhcpkpajbhoabBase
import Derived.Test.YtdnhcpkpajbhoabKept
import Derived.Test.YtdnhcpkpajbhoabIntRow
import Derived.Test.YtdnhcpkpajbhoabOpenAgg5
import Derived.OpenShut
import Derived.Deep.Slices
namespace Go.Proofs.Ytdnhcpkpajbhoab
open Go.RowKit Go.ChangeShapes Go.WideShapes
set_option linter.unusedVariables false
set_option linter.unusedSimpArgs false

/-- one call as plain data -/
structure ActZ where
  (d ty ri ai of : Int)
def actz0 : ActZ := ⟨0, 0, 0, 0, 0⟩
structure ActZ.Ok (q : ActZ) : Prop where
  d : In64 q.d
  ty : In64 q.ty
  ri : In64 q.ri
  ai : In64 q.ai
  of : In64 q.of
/-- it stands at that place -/
structure ActZ.At (q : ActZ) (w : World) (b off : Nat) : Prop where
  d : w.cell? ⟨b, off, none⟩ = some (.int .i64 q.d)
  ty : w.cell? ⟨b, off + 1, none⟩ = some (.int .i64 q.ty)
  ri : w.cell? ⟨b, off + 2, none⟩ = some (.int .i64 q.ri)
  ai : w.cell? ⟨b, off + 3, none⟩ = some (.int .i64 q.ai)
  of : w.cell? ⟨b, off + 4, none⟩ = some (.int .i64 q.of)
theorem ActZ.At.below {q : ActZ} {w w' : World} {b off B : Nat} (h : q.At w b off) (hb : Below B w w') (hB : b < B) : q.At w' b off :=
  ⟨(hb.cell (p := ⟨b, off, none⟩) hB).trans h.d, (hb.cell (p := ⟨b, off + 1, none⟩) hB).trans h.ty, (hb.cell (p := ⟨b, off + 2, none⟩) hB).trans h.ri, (hb.cell (p := ⟨b, off + 3, none⟩) hB).trans h.ai, (hb.cell (p := ⟨b, off + 4, none⟩) hB).trans h.of⟩
theorem ActZ.At.kept {q : ActZ} {w w' : World} {b off : Nat} {T : Nat → Prop} (h : q.At w b off) (hk : Kept w w' T) (hb : b < w.heap.size) (hT : ¬ T b) : q.At w' b off :=
  ⟨(hk.cell (p := ⟨b, off, none⟩) hb hT).trans h.d, (hk.cell (p := ⟨b, off + 1, none⟩) hb hT).trans h.ty, (hk.cell (p := ⟨b, off + 2, none⟩) hb hT).trans h.ri, (hk.cell (p := ⟨b, off + 3, none⟩) hb hT).trans h.ai, (hk.cell (p := ⟨b, off + 4, none⟩) hb hT).trans h.of⟩

/-- A slice of calls that came in: its elements ps, one behind the other. -/
def RowY (w : World) (a : Option Addr) (len cap : Nat) (ps : List ActZ) : Prop :=
  ps.length = len ∧ len ≤ cap ∧ cap ≤ maxLen ∧ (∀ q ∈ ps, q.Ok) ∧
  (len = 0 ∨ ∃ b off, a = some ⟨b, off, none⟩ ∧ b < w.heap.size ∧ ∀ i, i < len → (ps.getD i actz0).At w b (off + i * 5))
theorem RowY.at {w : World} {a : Option Addr} {len cap : Nat} {ps : List ActZ} (h : RowY w a len cap ps) (i : Nat) (hi : i < len) :
    ∃ b off q, a = some ⟨b, off, none⟩ ∧ b < w.heap.size ∧ q = ps.getD i actz0 ∧ q.At w b (off + i * 5) ∧ q.Ok := by
  obtain ⟨h1, h2, h3, h4, h5⟩ := h
  rcases h5 with h0 | ⟨b, off, e, hlt, hc⟩
  · omega
  · have hm : ps.getD i actz0 ∈ ps := by
      rw [List.getD, List.getElem?_eq_getElem (by omega)]
      exact List.getElem_mem _
    exact ⟨b, off, _, e, hlt, rfl, hc i hi, h4 _ hm⟩
theorem actz_plain (b off i : Nat) : (⟨b, off, none⟩ : Addr).add i = ⟨b, off + i, none⟩ := by unfold Addr.add; split <;> simp_all

set_option maxRecDepth 100000 in
theorem open_actsz {H : Type} {enc : TypeId × Value → H} {w : World} {a : Option Addr} {len cap : Nat} {d : DataW H} {p : List MemPlace}
    (h : DataW.Trod enc Try.prog w 0 (fun _ => true) true 22 (.slice a len cap) d p) : ∃ ps, RowY w a len cap ps := by
  obtain ⟨fuel, hf⟩ := h
  have ce : Try.prog.cellsOf 29 = 5 := by kernel_rfl
  have ci : Try.prog.cellsOf 3 = 1 := by kernel_rfl
  rcases Deep.open_slice Try.underlying22 hf with ⟨hcs, _⟩ | ⟨x, l, c, m, n, D, Pl, hcs, _, hl, hm, hmm, _, hx⟩
  · simp [Value.cells] at hcs
    obtain ⟨rfl, rfl, rfl⟩ := hcs
    exact ⟨[], rfl, Nat.le_refl _, Nat.zero_le _, fun q h => by simp at h, Or.inl rfl⟩
  · simp [Value.cells] at hcs
    obtain ⟨rfl, rfl, rfl⟩ := hcs
    have hmc : m = cap := by rw [hmm]; rfl
    subst hmc
    rw [ce] at hx
    have each : ∀ i, i < m → ∃ q : ActZ, (w.cell? (x.add (i * 5)) = some (.int .i64 q.d) ∧ w.cell? (x.add (i * 5 + 1)) = some (.int .i64 q.ty) ∧ w.cell? (x.add (i * 5 + 2)) = some (.int .i64 q.ri) ∧ w.cell? (x.add (i * 5 + 3)) = some (.int .i64 q.ai) ∧ w.cell? (x.add (i * 5 + 4)) = some (.int .i64 q.of)) ∧ q.Ok := by
      intro i hi
      obtain ⟨cs', h1, h2⟩ := hx i hi
      obtain ⟨_, hlen, hcell⟩ := World.cells?_some h1
      obtain ⟨y0, y1, y2, y3, y4, k, _, _, g0, g1, g2, g3, g4⟩ := trod_struct_5 Try.underlying29 h2
      match cs', hlen with
      | [v0, v1, v2, v3, v4], _ =>
        simp [ci] at g0 g1 g2 g3 g4
        have e0 := hcell 0 (by decide)
        have e1 := hcell 1 (by decide)
        have e2 := hcell 2 (by decide)
        have e3 := hcell 3 (by decide)
        have e4 := hcell 4 (by decide)
        rw [Deep.add_add] at e0 e1 e2 e3 e4
        obtain ⟨a0, x0, _, w0⟩ := DataW.trod_int Try.underlying3 g0
        obtain ⟨a1, x1, _, w1⟩ := DataW.trod_int Try.underlying3 g1
        obtain ⟨a2, x2, _, w2⟩ := DataW.trod_int Try.underlying3 g2
        obtain ⟨a3, x3, _, w3⟩ := DataW.trod_int Try.underlying3 g3
        obtain ⟨a4, x4, _, w4⟩ := DataW.trod_int Try.underlying3 g4
        simp at x0 x1 x2 x3 x4
        subst x0 x1 x2 x3 x4
        exact ⟨⟨a0, a1, a2, a3, a4⟩, ⟨by simpa using e0, by simpa using e1, by simpa using e2, by simpa using e3, by simpa using e4⟩, ⟨bounds_i64 w0, bounds_i64 w1, bounds_i64 w2, bounds_i64 w3, bounds_i64 w4⟩⟩
    letI : Inhabited ActZ := ⟨actz0⟩
    obtain ⟨q, hq⟩ := Deep.choose_lt each
    refine ⟨(List.range len).map q, by simp, hl, hm, ?_, ?_⟩
    · intro z hz
      simp only [List.mem_map, List.mem_range] at hz
      obtain ⟨i, hi, rfl⟩ := hz
      exact (hq i (by omega)).2
    · by_cases h0 : len = 0
      · exact Or.inl h0
      · obtain ⟨b, off, spot⟩ := x
        have hc := (hq 0 (by omega)).1.1
        have hspot : spot = none := by simpa [Addr.add] using World.cell?_spot hc
        subst hspot
        have hadd : ∀ i, (⟨b, off, none⟩ : Addr).add i = ⟨b, off + i, none⟩ := actz_plain b off
        refine Or.inr ⟨b, off, rfl, cell_lt (by rw [hadd] at hc; exact hc), fun i hi => ?_⟩
        have h1 := (hq i (by omega)).1
        simp only [hadd] at h1
        have e : ((List.range len).map q).getD i actz0 = q i := by simp [List.getD, hi]
        rw [e]
        exact ⟨h1.1, h1.2.1, h1.2.2.1, h1.2.2.2.1, h1.2.2.2.2⟩
theorem open_SourcePlays0 {H : Type} {enc : TypeId × Value → H} {w : World} {a : Option Addr} {len cap : Nat} {d : DataW H} {p : List MemPlace}
    (h : DataW.Trod enc Try.prog w 0 (fun _ => true) true 22 (.slice a len cap) d p) : ∃ ps, RowY w a len cap ps := open_actsz h
theorem open_SourceGives0 {H : Type} {enc : TypeId × Value → H} {w : World} {a : Option Addr} {len cap : Nat} {d : DataW H} {p : List MemPlace}
    (h : DataW.Trod enc Try.prog w 0 (fun _ => true) true 22 (.slice a len cap) d p) : ∃ ps, RowY w a len cap ps := open_actsz h
end Go.Proofs.Ytdnhcpkpajbhoab
