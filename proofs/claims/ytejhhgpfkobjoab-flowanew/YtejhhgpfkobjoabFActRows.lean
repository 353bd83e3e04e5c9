/-
  A slice of calls as plain data (structs of two numbers, two truth values and a text) that came in; bits of the numbers.
-/
import Derived.Test.YtejhhgpfkobjoabBase
import Derived.Test.YtejhhgpfkobjoabKept
import Derived.Test.YtejhhgpfkobjoabOpenAgg5
import Derived.OpenShut
import Derived.Deep.Slices
import Derived.Laws.Bits128
namespace Go.Proofs.Ytejhhgpfkobjoab
open Go.RowKit Go.ChangeShapes Go.WideShapes
set_option linter.unusedVariables false
set_option linter.unusedSimpArgs false

theorem i64_and255 (n : Int) : bits .and .i64 n 255 = n % 256 := by
  have h1 : (BitVec.ofInt 64 255).toNat = 2 ^ 8 - 1 := by decide
  have key : (BitVec.ofInt 64 n &&& BitVec.ofInt 64 255).toNat = (n % ((2 ^ 64 : Nat) : Int)).toNat % 2 ^ 8 := by
    rw [BitVec.toNat_and, BitVec.toNat_ofInt, h1, Nat.and_two_pow_sub_one_eq_mod]
  show IntKind.i64.wrap ((BitVec.ofInt 64 n &&& BitVec.ofInt 64 255).toNat : Nat) = n % 256
  rw [key, IntKind.wrap_i64]
  omega

def In64 (a : Int) : Prop := -9223372036854775808 ≤ a ∧ a ≤ 9223372036854775807
/-- one call as plain data -/
structure ActF where
  (d n : Int)
  (ne on : Bool)
  s : ByteArray
def actf0 : ActF := ⟨0, 0, false, false, ByteArray.empty⟩
structure ActF.Ok (q : ActF) : Prop where
  d : In64 q.d
  n : In64 q.n
  s : q.s.size ≤ 9223372036854775807
/-- as a value -/
def ActF.v (q : ActF) : Value := .agg #[.int .i64 q.d, .int .i64 q.n, .bool q.ne, .bool q.on, .string q.s]
/-- it stands at that place -/
structure ActF.At (q : ActF) (w : World) (b off : Nat) : Prop where
  d : w.cell? ⟨b, off, none⟩ = some (.int .i64 q.d)
  n : w.cell? ⟨b, off + 1, none⟩ = some (.int .i64 q.n)
  ne : w.cell? ⟨b, off + 2, none⟩ = some (.bool q.ne)
  on : w.cell? ⟨b, off + 3, none⟩ = some (.bool q.on)
  s : w.cell? ⟨b, off + 4, none⟩ = some (.string q.s)
theorem ActF.At.below {q : ActF} {w w' : World} {b off B : Nat} (h : q.At w b off) (hb : Below B w w') (hB : b < B) : q.At w' b off :=
  ⟨(hb.cell (p := ⟨b, off, none⟩) hB).trans h.d, (hb.cell (p := ⟨b, off + 1, none⟩) hB).trans h.n, (hb.cell (p := ⟨b, off + 2, none⟩) hB).trans h.ne, (hb.cell (p := ⟨b, off + 3, none⟩) hB).trans h.on, (hb.cell (p := ⟨b, off + 4, none⟩) hB).trans h.s⟩
theorem ActF.At.kept {q : ActF} {w w' : World} {b off : Nat} {T : Nat → Prop} (h : q.At w b off) (hk : Kept w w' T) (hb : b < w.heap.size) (hT : ¬ T b) : q.At w' b off :=
  ⟨(hk.cell (p := ⟨b, off, none⟩) hb hT).trans h.d, (hk.cell (p := ⟨b, off + 1, none⟩) hb hT).trans h.n, (hk.cell (p := ⟨b, off + 2, none⟩) hb hT).trans h.ne, (hk.cell (p := ⟨b, off + 3, none⟩) hb hT).trans h.on, (hk.cell (p := ⟨b, off + 4, none⟩) hb hT).trans h.s⟩

/-- A slice of calls that came in: its elements ps, one behind the other. -/
def RowF (w : World) (a : Option Addr) (len cap : Nat) (ps : List ActF) : Prop :=
  ps.length = len ∧ len ≤ cap ∧ cap ≤ maxLen ∧ (∀ q ∈ ps, q.Ok) ∧
  (len = 0 ∨ ∃ b off, a = some ⟨b, off, none⟩ ∧ b < w.heap.size ∧ ∀ i, i < len → (ps.getD i actf0).At w b (off + i * 5))
theorem RowF.at {w : World} {a : Option Addr} {len cap : Nat} {ps : List ActF} (h : RowF w a len cap ps) (i : Nat) (hi : i < len) :
    ∃ b off q, a = some ⟨b, off, none⟩ ∧ b < w.heap.size ∧ q = ps.getD i actf0 ∧ q.At w b (off + i * 5) ∧ q.Ok := by
  obtain ⟨h1, h2, h3, h4, h5⟩ := h
  rcases h5 with h0 | ⟨b, off, e, hlt, hc⟩
  · omega
  · have hm : ps.getD i actf0 ∈ ps := by
      rw [List.getD, List.getElem?_eq_getElem (by omega)]
      exact List.getElem_mem _
    exact ⟨b, off, _, e, hlt, rfl, hc i hi, h4 _ hm⟩

theorem actf_plain (b off i : Nat) : (⟨b, off, none⟩ : Addr).add i = ⟨b, off + i, none⟩ := by unfold Addr.add; split <;> simp_all

set_option maxRecDepth 100000 in
theorem open_actsf {H : Type} {enc : TypeId × Value → H} {w : World} {a : Option Addr} {len cap : Nat} {d : DataW H} {p : List MemPlace}
    (h : DataW.Trod enc Try.prog w 0 (fun _ => true) true 22 (.slice a len cap) d p) : ∃ ps, RowF w a len cap ps := by
  obtain ⟨fuel, hf⟩ := h
  have ce : Try.prog.cellsOf 28 = 5 := by kernel_rfl
  have ci : Try.prog.cellsOf 3 = 1 := by kernel_rfl
  have cb : Try.prog.cellsOf 4 = 1 := by kernel_rfl
  have cj : Try.prog.cellsOf 9 = 1 := by kernel_rfl
  rcases Deep.open_slice Try.underlying22 hf with ⟨hcs, _⟩ | ⟨x, l, c, m, n, D, Pl, hcs, _, hl, hm, hmm, _, hx⟩
  · simp [Value.cells] at hcs
    obtain ⟨rfl, rfl, rfl⟩ := hcs
    exact ⟨[], rfl, Nat.le_refl _, Nat.zero_le _, fun q h => by simp at h, Or.inl rfl⟩
  · simp [Value.cells] at hcs
    obtain ⟨rfl, rfl, rfl⟩ := hcs
    have hmc : m = cap := by rw [hmm]; rfl
    subst hmc
    rw [ce] at hx
    have each : ∀ i, i < m → ∃ q : ActF, (w.cell? (x.add (i * 5)) = some (.int .i64 q.d) ∧ w.cell? (x.add (i * 5 + 1)) = some (.int .i64 q.n) ∧ w.cell? (x.add (i * 5 + 2)) = some (.bool q.ne) ∧ w.cell? (x.add (i * 5 + 3)) = some (.bool q.on) ∧ w.cell? (x.add (i * 5 + 4)) = some (.string q.s)) ∧ q.Ok := by
      intro i hi
      obtain ⟨cs', h1, h2⟩ := hx i hi
      obtain ⟨_, hlen, hcell⟩ := World.cells?_some h1
      obtain ⟨y0, y1, y2, y3, y4, k, _, _, g0, g1, g2, g3, g4⟩ := trod_struct_5 Try.underlying28 h2
      match cs', hlen with
      | [v0, v1, v2, v3, v4], _ =>
        simp [ci, cj, cb] at g0 g1 g2 g3 g4
        have e0 := hcell 0 (by decide)
        have e1 := hcell 1 (by decide)
        have e2 := hcell 2 (by decide)
        have e3 := hcell 3 (by decide)
        have e4 := hcell 4 (by decide)
        rw [Deep.add_add] at e0 e1 e2 e3 e4
        obtain ⟨a0, ea, _, wa⟩ := DataW.trod_int Try.underlying3 g0
        obtain ⟨a1, eb, _, wb⟩ := DataW.trod_int Try.underlying3 g1
        obtain ⟨a2, ec, _⟩ := DataW.trod_bool Try.underlying4 g2
        obtain ⟨a3, ed, _⟩ := DataW.trod_bool Try.underlying4 g3
        obtain ⟨a4, ee, _, we⟩ := DataW.trod_string Try.underlying9 g4
        simp at ea eb ec ed ee
        subst ea eb ec ed ee
        exact ⟨⟨a0, a1, a2, a3, a4⟩, ⟨by simpa using e0, by simpa using e1, by simpa using e2, by simpa using e3, by simpa using e4⟩, ⟨bounds_i64 wa, bounds_i64 wb, by unfold maxLen at we; omega⟩⟩
    letI : Inhabited ActF := ⟨actf0⟩
    obtain ⟨q, hq⟩ := Deep.choose_lt each
    refine ⟨(List.range len).map q, by simp, hl, hm, ?_, ?_⟩
    · intro z hz
      simp only [List.mem_map, List.mem_range] at hz
      obtain ⟨i, hi, rfl⟩ := hz
      exact (hq i (by omega)).2
    · by_cases h0 : len = 0
      · exact Or.inl h0
      · obtain ⟨b, off, spot⟩ := x
        have hc := (hq 0 (by omega)).1.1
        have hspot : spot = none := by simpa [Addr.add] using World.cell?_spot hc
        subst hspot
        have hadd : ∀ i, (⟨b, off, none⟩ : Addr).add i = ⟨b, off + i, none⟩ := actf_plain b off
        refine Or.inr ⟨b, off, rfl, cell_lt (by rw [hadd] at hc; exact hc), fun i hi => ?_⟩
        have h1 := (hq i (by omega)).1
        simp only [hadd] at h1
        have e : ((List.range len).map q).getD i actf0 = q i := by simp [List.getD, hi]
        rw [e]
        exact ⟨h1.1, h1.2.1, h1.2.2.1, h1.2.2.2.1, h1.2.2.2.2⟩
theorem open_FlowPlays2 {H : Type} {enc : TypeId × Value → H} {w : World} {a : Option Addr} {len cap : Nat} {d : DataW H} {p : List MemPlace}
    (h : DataW.Trod enc Try.prog w 0 (fun _ => true) true 22 (.slice a len cap) d p) : ∃ ps, RowF w a len cap ps := open_actsf h
theorem open_FlowWindow1 {H : Type} {enc : TypeId × Value → H} {w : World} {a : Option Addr} {len cap : Nat} {d : DataW H} {p : List MemPlace}
    (h : DataW.Trod enc Try.prog w 0 (fun _ => true) true 22 (.slice a len cap) d p) : ∃ ps, RowF w a len cap ps := open_actsf h
theorem open_FlowRefuses1 {H : Type} {enc : TypeId × Value → H} {w : World} {a : Option Addr} {len cap : Nat} {d : DataW H} {p : List MemPlace}
    (h : DataW.Trod enc Try.prog w 0 (fun _ => true) true 22 (.slice a len cap) d p) : ∃ ps, RowF w a len cap ps := open_actsf h
theorem open_FlowStops1 {H : Type} {enc : TypeId × Value → H} {w : World} {a : Option Addr} {len cap : Nat} {d : DataW H} {p : List MemPlace}
    (h : DataW.Trod enc Try.prog w 0 (fun _ => true) true 22 (.slice a len cap) d p) : ∃ ps, RowF w a len cap ps := open_actsf h
theorem open_FlowAnew1 {H : Type} {enc : TypeId × Value → H} {w : World} {a : Option Addr} {len cap : Nat} {d : DataW H} {p : List MemPlace}
    (h : DataW.Trod enc Try.prog w 0 (fun _ => true) true 22 (.slice a len cap) d p) : ∃ ps, RowF w a len cap ps := open_actsf h
end Go.Proofs.Ytejhhgpfkobjoab
