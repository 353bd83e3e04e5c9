/-
  A slice of a user's calls as plain data (structs of four numbers and two truth values), and one of truth values, that came in.
-/
import Derived.Test.YtdnhcpkpajbhoaaBase
import Derived.Test.YtdnhcpkpajbhoaaKept
import Derived.Test.YtdnhcpkpajbhoaaIntRow
import Derived.Test.YtdnhcpkpajbhoaaOpenAgg6
import Derived.OpenShut
import Derived.Deep.Slices
namespace Go.Proofs.Ytdnhcpkpajbhoaa
open Go.RowKit Go.ChangeShapes Go.WideShapes
set_option linter.unusedVariables false
set_option linter.unusedSimpArgs false

/-- one call as plain data -/
structure ActU where
  (d ty ri ai : Int)
  (own mine : Bool)
def actu0 : ActU := ⟨0, 0, 0, 0, false, false⟩
structure ActU.Ok (q : ActU) : Prop where
  d : In64 q.d
  ty : In64 q.ty
  ri : In64 q.ri
  ai : In64 q.ai
/-- it stands at that place -/
structure ActU.At (q : ActU) (w : World) (b off : Nat) : Prop where
  d : w.cell? ⟨b, off, none⟩ = some (.int .i64 q.d)
  ty : w.cell? ⟨b, off + 1, none⟩ = some (.int .i64 q.ty)
  ri : w.cell? ⟨b, off + 2, none⟩ = some (.int .i64 q.ri)
  ai : w.cell? ⟨b, off + 3, none⟩ = some (.int .i64 q.ai)
  own : w.cell? ⟨b, off + 4, none⟩ = some (.bool q.own)
  mine : w.cell? ⟨b, off + 5, none⟩ = some (.bool q.mine)
theorem ActU.At.below {q : ActU} {w w' : World} {b off B : Nat} (h : q.At w b off) (hb : Below B w w') (hB : b < B) : q.At w' b off :=
  ⟨(hb.cell (p := ⟨b, off, none⟩) hB).trans h.d, (hb.cell (p := ⟨b, off + 1, none⟩) hB).trans h.ty, (hb.cell (p := ⟨b, off + 2, none⟩) hB).trans h.ri, (hb.cell (p := ⟨b, off + 3, none⟩) hB).trans h.ai, (hb.cell (p := ⟨b, off + 4, none⟩) hB).trans h.own, (hb.cell (p := ⟨b, off + 5, none⟩) hB).trans h.mine⟩
theorem ActU.At.kept {q : ActU} {w w' : World} {b off : Nat} {T : Nat → Prop} (h : q.At w b off) (hk : Kept w w' T) (hb : b < w.heap.size) (hT : ¬ T b) : q.At w' b off :=
  ⟨(hk.cell (p := ⟨b, off, none⟩) hb hT).trans h.d, (hk.cell (p := ⟨b, off + 1, none⟩) hb hT).trans h.ty, (hk.cell (p := ⟨b, off + 2, none⟩) hb hT).trans h.ri, (hk.cell (p := ⟨b, off + 3, none⟩) hb hT).trans h.ai, (hk.cell (p := ⟨b, off + 4, none⟩) hb hT).trans h.own, (hk.cell (p := ⟨b, off + 5, none⟩) hb hT).trans h.mine⟩

/-- A slice of calls that came in: its elements ps, one behind the other. -/
def RowU (w : World) (a : Option Addr) (len cap : Nat) (ps : List ActU) : Prop :=
  ps.length = len ∧ len ≤ cap ∧ cap ≤ maxLen ∧ (∀ q ∈ ps, q.Ok) ∧
  (len = 0 ∨ ∃ b off, a = some ⟨b, off, none⟩ ∧ b < w.heap.size ∧ ∀ i, i < len → (ps.getD i actu0).At w b (off + i * 6))
theorem RowU.at {w : World} {a : Option Addr} {len cap : Nat} {ps : List ActU} (h : RowU w a len cap ps) (i : Nat) (hi : i < len) :
    ∃ b off q, a = some ⟨b, off, none⟩ ∧ b < w.heap.size ∧ q = ps.getD i actu0 ∧ q.At w b (off + i * 6) ∧ q.Ok := by
  obtain ⟨h1, h2, h3, h4, h5⟩ := h
  rcases h5 with h0 | ⟨b, off, e, hlt, hc⟩
  · omega
  · have hm : ps.getD i actu0 ∈ ps := by
      rw [List.getD, List.getElem?_eq_getElem (by omega)]
      exact List.getElem_mem _
    exact ⟨b, off, _, e, hlt, rfl, hc i hi, h4 _ hm⟩
theorem actu_plain (b off i : Nat) : (⟨b, off, none⟩ : Addr).add i = ⟨b, off + i, none⟩ := by unfold Addr.add; split <;> simp_all

set_option maxRecDepth 100000 in
theorem open_actsu {H : Type} {enc : TypeId × Value → H} {w : World} {a : Option Addr} {len cap : Nat} {d : DataW H} {p : List MemPlace}
    (h : DataW.Trod enc Try.prog w 0 (fun _ => true) true 23 (.slice a len cap) d p) : ∃ ps, RowU w a len cap ps := by
  obtain ⟨fuel, hf⟩ := h
  have ce : Try.prog.cellsOf 34 = 6 := by kernel_rfl
  have ci : Try.prog.cellsOf 3 = 1 := by kernel_rfl
  have cb : Try.prog.cellsOf 4 = 1 := by kernel_rfl
  rcases Deep.open_slice Try.underlying23 hf with ⟨hcs, _⟩ | ⟨x, l, c, m, n, D, Pl, hcs, _, hl, hm, hmm, _, hx⟩
  · simp [Value.cells] at hcs
    obtain ⟨rfl, rfl, rfl⟩ := hcs
    exact ⟨[], rfl, Nat.le_refl _, Nat.zero_le _, fun q h => by simp at h, Or.inl rfl⟩
  · simp [Value.cells] at hcs
    obtain ⟨rfl, rfl, rfl⟩ := hcs
    have hmc : m = cap := by rw [hmm]; rfl
    subst hmc
    rw [ce] at hx
    have each : ∀ i, i < m → ∃ q : ActU, (w.cell? (x.add (i * 6)) = some (.int .i64 q.d) ∧ w.cell? (x.add (i * 6 + 1)) = some (.int .i64 q.ty) ∧ w.cell? (x.add (i * 6 + 2)) = some (.int .i64 q.ri) ∧ w.cell? (x.add (i * 6 + 3)) = some (.int .i64 q.ai) ∧ w.cell? (x.add (i * 6 + 4)) = some (.bool q.own) ∧ w.cell? (x.add (i * 6 + 5)) = some (.bool q.mine)) ∧ q.Ok := by
      intro i hi
      obtain ⟨cs', h1, h2⟩ := hx i hi
      obtain ⟨_, hlen, hcell⟩ := World.cells?_some h1
      obtain ⟨y0, y1, y2, y3, y4, y5, k, _, _, g0, g1, g2, g3, g4, g5⟩ := trod_struct_6 Try.underlying34 h2
      match cs', hlen with
      | [v0, v1, v2, v3, v4, v5], _ =>
        simp [ci, cb] at g0 g1 g2 g3 g4 g5
        have e0 := hcell 0 (by decide)
        have e1 := hcell 1 (by decide)
        have e2 := hcell 2 (by decide)
        have e3 := hcell 3 (by decide)
        have e4 := hcell 4 (by decide)
        have e5 := hcell 5 (by decide)
        rw [Deep.add_add] at e0 e1 e2 e3 e4 e5
        obtain ⟨a0, x0, _, w0⟩ := DataW.trod_int Try.underlying3 g0
        obtain ⟨a1, x1, _, w1⟩ := DataW.trod_int Try.underlying3 g1
        obtain ⟨a2, x2, _, w2⟩ := DataW.trod_int Try.underlying3 g2
        obtain ⟨a3, x3, _, w3⟩ := DataW.trod_int Try.underlying3 g3
        obtain ⟨a4, x4, _⟩ := DataW.trod_bool Try.underlying4 g4
        obtain ⟨a5, x5, _⟩ := DataW.trod_bool Try.underlying4 g5
        simp at x0 x1 x2 x3 x4 x5
        subst x0 x1 x2 x3 x4 x5
        exact ⟨⟨a0, a1, a2, a3, a4, a5⟩, ⟨by simpa using e0, by simpa using e1, by simpa using e2, by simpa using e3, by simpa using e4, by simpa using e5⟩, ⟨bounds_i64 w0, bounds_i64 w1, bounds_i64 w2, bounds_i64 w3⟩⟩
    letI : Inhabited ActU := ⟨actu0⟩
    obtain ⟨q, hq⟩ := Deep.choose_lt each
    refine ⟨(List.range len).map q, by simp, hl, hm, ?_, ?_⟩
    · intro z hz
      simp only [List.mem_map, List.mem_range] at hz
      obtain ⟨i, hi, rfl⟩ := hz
      exact (hq i (by omega)).2
    · by_cases h0 : len = 0
      · exact Or.inl h0
      · obtain ⟨b, off, spot⟩ := x
        have hc := (hq 0 (by omega)).1.1
        have hspot : spot = none := by simpa [Addr.add] using World.cell?_spot hc
        subst hspot
        have hadd : ∀ i, (⟨b, off, none⟩ : Addr).add i = ⟨b, off + i, none⟩ := actu_plain b off
        refine Or.inr ⟨b, off, rfl, cell_lt (by rw [hadd] at hc; exact hc), fun i hi => ?_⟩
        have h1 := (hq i (by omega)).1
        simp only [hadd] at h1
        have e : ((List.range len).map q).getD i actu0 = q i := by simp [List.getD, hi]
        rw [e]
        exact ⟨h1.1, h1.2.1, h1.2.2.1, h1.2.2.2.1, h1.2.2.2.2.1, h1.2.2.2.2.2⟩
theorem open_UserPlays2 {H : Type} {enc : TypeId × Value → H} {w : World} {a : Option Addr} {len cap : Nat} {d : DataW H} {p : List MemPlace}
    (h : DataW.Trod enc Try.prog w 0 (fun _ => true) true 23 (.slice a len cap) d p) : ∃ ps, RowU w a len cap ps := open_actsu h
theorem open_UserHolds1 {H : Type} {enc : TypeId × Value → H} {w : World} {a : Option Addr} {len cap : Nat} {d : DataW H} {p : List MemPlace}
    (h : DataW.Trod enc Try.prog w 0 (fun _ => true) true 23 (.slice a len cap) d p) : ∃ ps, RowU w a len cap ps := open_actsu h
theorem open_UserDeaf1 {H : Type} {enc : TypeId × Value → H} {w : World} {a : Option Addr} {len cap : Nat} {d : DataW H} {p : List MemPlace}
    (h : DataW.Trod enc Try.prog w 0 (fun _ => true) true 23 (.slice a len cap) d p) : ∃ ps, RowU w a len cap ps := open_actsu h

/-- A slice of truth values that came in. -/
def RowB (w : World) (a : Option Addr) (len cap : Nat) (zs : List Bool) : Prop :=
  zs.length = len ∧ len ≤ cap ∧ cap ≤ maxLen ∧
  (len = 0 ∨ ∃ b off, a = some ⟨b, off, none⟩ ∧ b < w.heap.size ∧ ∀ i, i < len → w.cell? ⟨b, off + i, none⟩ = some (.bool (zs.getD i false)))
theorem RowB.at {w : World} {a : Option Addr} {len cap : Nat} {zs : List Bool} (h : RowB w a len cap zs) (i : Nat) (hi : i < len) :
    ∃ b off z, a = some ⟨b, off, none⟩ ∧ b < w.heap.size ∧ w.cell? ⟨b, off + i, none⟩ = some (.bool z) := by
  obtain ⟨h1, h2, h3, h5⟩ := h
  rcases h5 with h0 | ⟨b, off, e, hlt, hc⟩
  · omega
  · exact ⟨b, off, _, e, hlt, hc i hi⟩
set_option maxRecDepth 100000 in
theorem open_boolsu {H : Type} {enc : TypeId × Value → H} {w : World} {a : Option Addr} {len cap : Nat} {d : DataW H} {p : List MemPlace}
    (h : DataW.Trod enc Try.prog w 0 (fun _ => true) true 57 (.slice a len cap) d p) : ∃ zs, RowB w a len cap zs := by
  obtain ⟨fuel, hf⟩ := h
  have cb : Try.prog.cellsOf 4 = 1 := by kernel_rfl
  rcases Deep.open_slice Try.underlying57 hf with ⟨hcs, _⟩ | ⟨x, l, c, m, n, D, Pl, hcs, _, hl, hm, hmm, _, hx⟩
  · simp [Value.cells] at hcs
    obtain ⟨rfl, rfl, rfl⟩ := hcs
    exact ⟨[], rfl, Nat.le_refl _, Nat.zero_le _, Or.inl rfl⟩
  · simp [Value.cells] at hcs
    obtain ⟨rfl, rfl, rfl⟩ := hcs
    have hmc : m = cap := by rw [hmm]; rfl
    subst hmc
    rw [cb] at hx
    have each : ∀ i, i < m → ∃ z : Bool, w.cell? (x.add i) = some (.bool z) := by
      intro i hi
      obtain ⟨cs', h1, h2⟩ := hx i hi
      obtain ⟨_, hlen, hcell⟩ := World.cells?_some h1
      match cs', hlen with
      | [v0], _ =>
        have e0 := hcell 0 (by decide)
        obtain ⟨a0, x0, _⟩ := DataW.trod_bool Try.underlying4 h2
        simp at x0
        subst x0
        rw [Deep.add_add] at e0
        exact ⟨a0, by simpa using e0⟩
    obtain ⟨q, hq⟩ := Deep.choose_lt each
    refine ⟨(List.range len).map q, by simp, hl, hm, ?_⟩
    by_cases h0 : len = 0
    · exact Or.inl h0
    · obtain ⟨b, off, spot⟩ := x
      have hc := hq 0 (by omega)
      have hspot : spot = none := by simpa [Addr.add] using World.cell?_spot hc
      subst hspot
      have hadd : ∀ i, (⟨b, off, none⟩ : Addr).add i = ⟨b, off + i, none⟩ := actu_plain b off
      refine Or.inr ⟨b, off, rfl, cell_lt (by rw [hadd] at hc; exact hc), fun i hi => ?_⟩
      have h1 := hq i (by omega)
      rw [hadd] at h1
      have e : ((List.range len).map q).getD i false = q i := by simp [List.getD, hi]
      rw [e]
      exact h1
theorem open_UserGives2 {H : Type} {enc : TypeId × Value → H} {w : World} {a : Option Addr} {len cap : Nat} {d : DataW H} {p : List MemPlace}
    (h : DataW.Trod enc Try.prog w 0 (fun _ => true) true 57 (.slice a len cap) d p) : ∃ zs, RowB w a len cap zs := open_boolsu h
theorem open_UserAnswers2 {H : Type} {enc : TypeId × Value → H} {w : World} {a : Option Addr} {len cap : Nat} {d : DataW H} {p : List MemPlace}
    (h : DataW.Trod enc Try.prog w 0 (fun _ => true) true 57 (.slice a len cap) d p) : ∃ zs, RowB w a len cap zs := open_boolsu h
end Go.Proofs.Ytdnhcpkpajbhoaa
