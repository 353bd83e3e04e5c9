/-
  A slice of calls as plain data (structs of three numbers) that came in.
-/
import Derived.Test.YtdojkaliohcckaaBase
import Derived.Test.YtdojkaliohcckaaKept
import Derived.OpenShut
import Derived.Deep.Slices
namespace Go.Proofs.Ytdojkaliohcckaa
open Go.RowKit Go.ChangeShapes Go.WideShapes
set_option linter.unusedVariables false
set_option linter.unusedSimpArgs false

def I64 (a : Int) : Prop := -9223372036854775808 ≤ a ∧ a ≤ 9223372036854775807
/-- one call as plain data -/
structure ActV where
  (d n o : Int)
def act0 : ActV := ⟨0, 0, 0⟩
structure ActV.Ok (q : ActV) : Prop where
  d : I64 q.d
  n : I64 q.n
  o : I64 q.o
/-- it stands at that place -/
structure ActV.At (q : ActV) (w : World) (b off : Nat) : Prop where
  d : w.cell? ⟨b, off, none⟩ = some (.int .i64 q.d)
  n : w.cell? ⟨b, off + 1, none⟩ = some (.int .i64 q.n)
  o : w.cell? ⟨b, off + 2, none⟩ = some (.int .i64 q.o)
theorem ActV.At.below {q : ActV} {w w' : World} {b off B : Nat} (h : q.At w b off) (hb : Below B w w') (hB : b < B) : q.At w' b off :=
  ⟨(hb.cell (p := ⟨b, off, none⟩) hB).trans h.d, (hb.cell (p := ⟨b, off + 1, none⟩) hB).trans h.n, (hb.cell (p := ⟨b, off + 2, none⟩) hB).trans h.o⟩
theorem ActV.At.kept {q : ActV} {w w' : World} {b off : Nat} {T : Nat → Prop} (h : q.At w b off) (hk : Kept w w' T) (hb : b < w.heap.size) (hT : ¬ T b) : q.At w' b off :=
  ⟨(hk.cell (p := ⟨b, off, none⟩) hb hT).trans h.d, (hk.cell (p := ⟨b, off + 1, none⟩) hb hT).trans h.n, (hk.cell (p := ⟨b, off + 2, none⟩) hb hT).trans h.o⟩

/-- A slice of calls that came in: its elements ps, one behind the other. -/
def RowA (w : World) (a : Option Addr) (len cap : Nat) (ps : List ActV) : Prop :=
  ps.length = len ∧ len ≤ cap ∧ cap ≤ maxLen ∧ (∀ q ∈ ps, q.Ok) ∧
  (len = 0 ∨ ∃ b off, a = some ⟨b, off, none⟩ ∧ b < w.heap.size ∧ ∀ i, i < len → (ps.getD i act0).At w b (off + i * 3))
theorem RowA.at {w : World} {a : Option Addr} {len cap : Nat} {ps : List ActV} (h : RowA w a len cap ps) (i : Nat) (hi : i < len) :
    ∃ b off q, a = some ⟨b, off, none⟩ ∧ b < w.heap.size ∧ q = ps.getD i act0 ∧ q.At w b (off + i * 3) ∧ q.Ok := by
  obtain ⟨h1, h2, h3, h4, h5⟩ := h
  rcases h5 with h0 | ⟨b, off, e, hlt, hc⟩
  · omega
  · have hm : ps.getD i act0 ∈ ps := by
      rw [List.getD, List.getElem?_eq_getElem (by omega)]
      exact List.getElem_mem _
    exact ⟨b, off, _, e, hlt, rfl, hc i hi, h4 _ hm⟩

theorem act_plain (b off i : Nat) : (⟨b, off, none⟩ : Addr).add i = ⟨b, off + i, none⟩ := by unfold Addr.add; split <;> simp_all
section
variable {H : Type} {enc : TypeId × Value → H} {P : Program} {w : World} {base : Nat} {spare : Nat → Bool} {held : Bool}
theorem trod_struct_3 {t : TypeId} {f0 f1 f2 : Field} {fuel : Nat} {cs : List Value} {x : DataW H × List MemPlace} (ht : P.underlying t = some (.struct #[f0, f1, f2])) (h : DataW.trod enc P w base spare held fuel t cs = some x) :
    ∃ y0 y1 y2 n, x = (.agg [y0.1, y1.1, y2.1], y0.2 ++ (y1.2 ++ y2.2)) ∧ cs.length = P.cellsOf t ∧ DataW.trod enc P w base spare held n f0.type ((cs.drop f0.offset).take (P.cellsOf f0.type)) = some y0 ∧ DataW.trod enc P w base spare held n f1.type ((cs.drop f1.offset).take (P.cellsOf f1.type)) = some y1 ∧ DataW.trod enc P w base spare held n f2.type ((cs.drop f2.offset).take (P.cellsOf f2.type)) = some y2 := by
  obtain ⟨xs, n, _, rfl, hl, hlen, hf⟩ := DataW.trod_struct ht h
  match xs, hlen with
  | [y0, y1, y2], _ => exact ⟨y0, y1, y2, n, by simp, hl, by simpa using hf 0 f0 rfl, by simpa using hf 1 f1 rfl, by simpa using hf 2 f2 rfl⟩
end

set_option maxRecDepth 100000 in
theorem open_acts {H : Type} {enc : TypeId × Value → H} {w : World} {a : Option Addr} {len cap : Nat} {d : DataW H} {p : List MemPlace}
    (h : DataW.Trod enc Try.prog w 0 (fun _ => true) true 22 (.slice a len cap) d p) : ∃ ps, RowA w a len cap ps := by
  obtain ⟨fuel, hf⟩ := h
  have ce : Try.prog.cellsOf 31 = 3 := by kernel_rfl
  have ci : Try.prog.cellsOf 3 = 1 := by kernel_rfl
  rcases Deep.open_slice Try.underlying22 hf with ⟨hcs, _⟩ | ⟨x, l, c, m, n, D, Pl, hcs, _, hl, hm, hmm, _, hx⟩
  · simp [Value.cells] at hcs
    obtain ⟨rfl, rfl, rfl⟩ := hcs
    exact ⟨[], rfl, Nat.le_refl _, Nat.zero_le _, fun q h => by simp at h, Or.inl rfl⟩
  · simp [Value.cells] at hcs
    obtain ⟨rfl, rfl, rfl⟩ := hcs
    have hmc : m = cap := by rw [hmm]; rfl
    subst hmc
    rw [ce] at hx
    have each : ∀ i, i < m → ∃ q : ActV, (w.cell? (x.add (i * 3)) = some (.int .i64 q.d) ∧ w.cell? (x.add (i * 3 + 1)) = some (.int .i64 q.n) ∧ w.cell? (x.add (i * 3 + 2)) = some (.int .i64 q.o)) ∧ q.Ok := by
      intro i hi
      obtain ⟨cs', h1, h2⟩ := hx i hi
      obtain ⟨_, hlen, hcell⟩ := World.cells?_some h1
      obtain ⟨y0, y1, y2, k, _, _, g0, g1, g2⟩ := trod_struct_3 Try.underlying31 h2
      match cs', hlen with
      | [v0, v1, v2], _ =>
        simp [ci] at g0 g1 g2
        have e0 := hcell 0 (by decide)
        have e1 := hcell 1 (by decide)
        have e2 := hcell 2 (by decide)
        rw [Deep.add_add] at e0 e1 e2
        obtain ⟨a0, ea, _, wa⟩ := DataW.trod_int Try.underlying3 g0
        obtain ⟨a1, eb, _, wb⟩ := DataW.trod_int Try.underlying3 g1
        obtain ⟨a2, ec, _, wc⟩ := DataW.trod_int Try.underlying3 g2
        simp at ea eb ec
        subst ea eb ec
        exact ⟨⟨a0, a1, a2⟩, ⟨by simpa using e0, by simpa using e1, by simpa using e2⟩, ⟨bounds_i64 wa, bounds_i64 wb, bounds_i64 wc⟩⟩
    letI : Inhabited ActV := ⟨act0⟩
    obtain ⟨q, hq⟩ := Deep.choose_lt each
    refine ⟨(List.range len).map q, by simp, hl, hm, ?_, ?_⟩
    · intro z hz
      simp only [List.mem_map, List.mem_range] at hz
      obtain ⟨i, hi, rfl⟩ := hz
      exact (hq i (by omega)).2
    · by_cases h0 : len = 0
      · exact Or.inl h0
      · obtain ⟨b, off, spot⟩ := x
        have hc := (hq 0 (by omega)).1.1
        have hspot : spot = none := by simpa [Addr.add] using World.cell?_spot hc
        subst hspot
        have hadd : ∀ i, (⟨b, off, none⟩ : Addr).add i = ⟨b, off + i, none⟩ := act_plain b off
        refine Or.inr ⟨b, off, rfl, cell_lt (by rw [hadd] at hc; exact hc), fun i hi => ?_⟩
        have h1 := (hq i (by omega)).1
        simp only [hadd] at h1
        have e : ((List.range len).map q).getD i act0 = q i := by simp [List.getD, hi]
        rw [e]
        exact ⟨h1.1, h1.2.1, h1.2.2⟩
theorem open_PoolPlays0 {H : Type} {enc : TypeId × Value → H} {w : World} {a : Option Addr} {len cap : Nat} {d : DataW H} {p : List MemPlace}
    (h : DataW.Trod enc Try.prog w 0 (fun _ => true) true 22 (.slice a len cap) d p) : ∃ ps, RowA w a len cap ps := open_acts h
theorem open_PoolUnique0 {H : Type} {enc : TypeId × Value → H} {w : World} {a : Option Addr} {len cap : Nat} {d : DataW H} {p : List MemPlace}
    (h : DataW.Trod enc Try.prog w 0 (fun _ => true) true 22 (.slice a len cap) d p) : ∃ ps, RowA w a len cap ps := open_acts h
theorem open_PoolLists0 {H : Type} {enc : TypeId × Value → H} {w : World} {a : Option Addr} {len cap : Nat} {d : DataW H} {p : List MemPlace}
    (h : DataW.Trod enc Try.prog w 0 (fun _ => true) true 22 (.slice a len cap) d p) : ∃ ps, RowA w a len cap ps := open_acts h
end Go.Proofs.Ytdojkaliohcckaa
