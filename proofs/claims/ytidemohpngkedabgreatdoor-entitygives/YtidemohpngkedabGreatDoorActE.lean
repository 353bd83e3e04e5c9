/-
  What happens to an entity, as plain data (a struct of numbers, a text, a frame, a truth value), read out of its cells.
  What happens to an entity, by value, opened.
  A slice of acts that came in, told to a walk.
-/
import Derived.Test.YtidemohpngkedabGreatDoorEntWorld
import Derived.Test.YtidemohpngkedabGreatDoorRows
import Derived.OpenShut
import Derived.Deep.Slices
namespace Go.Proofs.YtidemohpngkedabGreatDoor
open Go.RowKit Go.ChangeShapes Go.WideShapes
set_option linter.unusedVariables false
set_option maxRecDepth 100000
set_option linter.unusedSimpArgs false

def I64 (a : Int) : Prop := -9223372036854775808 ≤ a ∧ a ≤ 9223372036854775807
structure ActE where
  (d ask timer tei : Int)
  data : ByteArray
  f : Em.Fr
  near : Bool
  (n m : Int)
def acte0 : ActE := ⟨0, 0, 0, 0, ByteArray.empty, Em.fr0, false, 0, 0⟩
structure FrOk (f : Em.Fr) : Prop where
  sapi : I64 f.sapi
  tei : I64 f.tei
  k : I64 f.k
  ns : I64 f.ns
  nr : I64 f.nr
  info : f.info.size ≤ 9223372036854775807
structure ActE.Ok (q : ActE) : Prop where
  d : I64 q.d
  ask : I64 q.ask
  timer : I64 q.timer
  tei : I64 q.tei
  data : q.data.size ≤ 9223372036854775807
  f : FrOk q.f
  n : I64 q.n
  m : I64 q.m
def frL (f : Em.Fr) : List Value := [.int .i64 f.sapi, .int .i64 f.tei, .bool f.c, .int .i64 f.k, .bool f.pf, .int .i64 f.ns, .int .i64 f.nr, .string f.info]
def ActE.l (q : ActE) : List Value := [.int .i64 q.d, .int .i64 q.ask, .int .i64 q.timer, .int .i64 q.tei, .string q.data] ++ frL q.f ++ [.bool q.near, .int .i64 q.n, .int .i64 q.m]

section
variable {H : Type} {enc : TypeId × Value → H} {w : World} {base : Nat} {spare : Nat → Bool} {held : Bool} {fuel : Nat} {cs : List Value} {x : DataW H × List MemPlace}
theorem trod_fr14 (h : DataW.trod enc Tryz.prog w base spare held fuel 32 cs = some x) : ∃ f : Em.Fr, cs = frL f ∧ FrOk f := by
  have ce : Tryz.prog.cellsOf 32 = 8 := by kernel_rfl
  have ci : Tryz.prog.cellsOf 3 = 1 := by kernel_rfl
  have cb : Tryz.prog.cellsOf 4 = 1 := by kernel_rfl
  have cj : Tryz.prog.cellsOf 9 = 1 := by kernel_rfl
  obtain ⟨xs, n, _, rfl, hl, hlen, hf⟩ := DataW.trod_struct Tryz.underlying32 h
  rw [ce] at hl
  match cs, hl with
  | [v0, v1, v2, v3, v4, v5, v6, v7], _ =>
    match xs, hlen with
    | [y0, y1, y2, y3, y4, y5, y6, y7], _ =>
      have g0 := hf 0 _ rfl
      have g1 := hf 1 _ rfl
      have g2 := hf 2 _ rfl
      have g3 := hf 3 _ rfl
      have g4 := hf 4 _ rfl
      have g5 := hf 5 _ rfl
      have g6 := hf 6 _ rfl
      have g7 := hf 7 _ rfl
      simp [ci, cj, cb] at g0 g1 g2 g3 g4 g5 g6 g7
      obtain ⟨a0, e0, _, w0⟩ := DataW.trod_int Tryz.underlying3 g0
      obtain ⟨a1, e1, _, w1⟩ := DataW.trod_int Tryz.underlying3 g1
      obtain ⟨a2, e2, _⟩ := DataW.trod_bool Tryz.underlying4 g2
      obtain ⟨a3, e3, _, w3⟩ := DataW.trod_int Tryz.underlying3 g3
      obtain ⟨a4, e4, _⟩ := DataW.trod_bool Tryz.underlying4 g4
      obtain ⟨a5, e5, _, w5⟩ := DataW.trod_int Tryz.underlying3 g5
      obtain ⟨a6, e6, _, w6⟩ := DataW.trod_int Tryz.underlying3 g6
      obtain ⟨a7, e7, _, w7⟩ := DataW.trod_string Tryz.underlying9 g7
      simp at e0 e1 e2 e3 e4 e5 e6 e7
      subst e0 e1 e2 e3 e4 e5 e6 e7
      exact ⟨⟨a0, a1, a2, a3, a4, a5, a6, a7⟩, rfl, ⟨bounds_i64 w0, bounds_i64 w1, bounds_i64 w3, bounds_i64 w5, bounds_i64 w6, by unfold maxLen at w7; show a7.size ≤ _; omega⟩⟩
theorem trod_acte (h : DataW.trod enc Tryz.prog w base spare held fuel 34 cs = some x) : ∃ q : ActE, cs = q.l ∧ q.Ok := by
  have ce : Tryz.prog.cellsOf 34 = 16 := by kernel_rfl
  have cf : Tryz.prog.cellsOf 32 = 8 := by kernel_rfl
  have ci : Tryz.prog.cellsOf 3 = 1 := by kernel_rfl
  have cb : Tryz.prog.cellsOf 4 = 1 := by kernel_rfl
  have cj : Tryz.prog.cellsOf 9 = 1 := by kernel_rfl
  obtain ⟨xs, n, _, rfl, hl, hlen, hf⟩ := DataW.trod_struct Tryz.underlying34 h
  rw [ce] at hl
  match cs, hl with
  | [v0, v1, v2, v3, v4, v5, v6, v7, v8, v9, v10, v11, v12, v13, v14, v15], _ =>
    match xs, hlen with
    | [y0, y1, y2, y3, y4, y5, y6, y7, y8], _ =>
      have g0 := hf 0 _ rfl
      have g1 := hf 1 _ rfl
      have g2 := hf 2 _ rfl
      have g3 := hf 3 _ rfl
      have g4 := hf 4 _ rfl
      have g5 := hf 5 _ rfl
      have g6 := hf 6 _ rfl
      have g7 := hf 7 _ rfl
      have g8 := hf 8 _ rfl
      simp [ci, cj, cb, cf] at g0 g1 g2 g3 g4 g5 g6 g7 g8
      obtain ⟨a0, e0, _, w0⟩ := DataW.trod_int Tryz.underlying3 g0
      obtain ⟨a1, e1, _, w1⟩ := DataW.trod_int Tryz.underlying3 g1
      obtain ⟨a2, e2, _, w2⟩ := DataW.trod_int Tryz.underlying3 g2
      obtain ⟨a3, e3, _, w3⟩ := DataW.trod_int Tryz.underlying3 g3
      obtain ⟨a4, e4, _, w4⟩ := DataW.trod_string Tryz.underlying9 g4
      obtain ⟨f, ef, of⟩ := trod_fr14 g5
      obtain ⟨a6, e6, _⟩ := DataW.trod_bool Tryz.underlying4 g6
      obtain ⟨a7, e7, _, w7⟩ := DataW.trod_int Tryz.underlying3 g7
      obtain ⟨a8, e8, _, w8⟩ := DataW.trod_int Tryz.underlying3 g8
      simp [frL] at e0 e1 e2 e3 e4 ef e6 e7 e8
      obtain ⟨f0, f1, f2, f3, f4, f5, f6, f7⟩ := ef
      subst e0 e1 e2 e3 e4 e6 e7 e8 f0 f1 f2 f3 f4 f5 f6 f7
      exact ⟨⟨a0, a1, a2, a3, a4, f, a6, a7, a8⟩, rfl, ⟨bounds_i64 w0, bounds_i64 w1, bounds_i64 w2, bounds_i64 w3, by unfold maxLen at w4; show a4.size ≤ _; omega, of, bounds_i64 w7, bounds_i64 w8⟩⟩
end
end Go.Proofs.YtidemohpngkedabGreatDoor

namespace Go.Proofs.YtidemohpngkedabGreatDoor
open Go.RowKit Go.ChangeShapes Go.WideShapes
set_option linter.unusedVariables false
set_option maxRecDepth 100000
set_option linter.unusedSimpArgs false

def ActE.v (q : ActE) : Value := .agg #[.int .i64 q.d, .int .i64 q.ask, .int .i64 q.timer, .int .i64 q.tei, .string q.data, .int .i64 q.f.sapi, .int .i64 q.f.tei, .bool q.f.c, .int .i64 q.f.k, .bool q.f.pf, .int .i64 q.f.ns, .int .i64 q.f.nr, .string q.f.info, .bool q.near, .int .i64 q.n, .int .i64 q.m]
theorem open_acte {H : Type} {enc : TypeId × Value → H} {w : World} {base : Nat} {spare : Nat → Bool} {held : Bool} {r : Reach} {b0 : Nat} {v : Value} {d : DataW H} {p : List MemPlace} (hv : Value.okWide Tryz.prog w r b0 34 v) (h : DataW.Trod enc Tryz.prog w base spare held 34 v d p) : ∃ q : ActE, v = q.v ∧ q.Ok := by
  obtain ⟨cs, rfl, hsz⟩ := okWide_struct Tryz.underlying34 hv
  obtain ⟨fuel, hf⟩ := h
  obtain ⟨q, hq, ok⟩ := trod_acte hf
  refine ⟨q, ?_, ok⟩
  have e : cs.toList = q.l := by simpa [Value.cells] using hq
  have e2 : cs = q.l.toArray := by rw [← e]
  rw [e2]
  rfl
theorem open_fr14 {H : Type} {enc : TypeId × Value → H} {w : World} {base : Nat} {spare : Nat → Bool} {held : Bool} {r : Reach} {b0 : Nat} {v : Value} {d : DataW H} {p : List MemPlace} (hv : Value.okWide Tryz.prog w r b0 32 v) (h : DataW.Trod enc Tryz.prog w base spare held 32 v d p) : ∃ f : Em.Fr, v = frmV f ∧ FrOk f := by
  obtain ⟨cs, rfl, hsz⟩ := okWide_struct Tryz.underlying32 hv
  obtain ⟨fuel, hf⟩ := h
  obtain ⟨f, hq, ok⟩ := trod_fr14 hf
  refine ⟨f, ?_, ok⟩
  have e : cs.toList = frL f := by simpa [Value.cells] using hq
  have e2 : cs = (frL f).toArray := by rw [← e]
  rw [e2]
  rfl
end Go.Proofs.YtidemohpngkedabGreatDoor

namespace Go.Proofs.YtidemohpngkedabGreatDoor
open Go.RowKit Go.ChangeShapes Go.WideShapes
set_option linter.unusedVariables false
set_option maxRecDepth 100000
set_option linter.unusedSimpArgs false

def RowE (w : World) (a : Option Addr) (len cap : Nat) (ps : List ActE) : Prop :=
  ps.length = len ∧ len ≤ cap ∧ cap ≤ maxLen ∧ (∀ q ∈ ps, q.Ok) ∧
  (len = 0 ∨ ∃ b off, a = some ⟨b, off, none⟩ ∧ b < w.heap.size ∧ ∀ i, i < len → ∀ j u, (ps.getD i acte0).l[j]? = some u → w.cell? ⟨b, off + i * 16 + j, none⟩ = some u)
theorem RowE.at {w : World} {a : Option Addr} {len cap : Nat} {ps : List ActE} (h : RowE w a len cap ps) (i : Nat) (hi : i < len) :
    ∃ b off q, a = some ⟨b, off, none⟩ ∧ b < w.heap.size ∧ q = ps.getD i acte0 ∧ q.Ok ∧ ∀ j u, q.l[j]? = some u → w.cell? ⟨b, off + i * 16 + j, none⟩ = some u := by
  obtain ⟨h1, h2, h3, h4, h5⟩ := h
  rcases h5 with h0 | ⟨b, off, e, hlt, hc⟩
  · omega
  · have hm : ps.getD i acte0 ∈ ps := by
      rw [List.getD, List.getElem?_eq_getElem (by omega)]
      exact List.getElem_mem _
    exact ⟨b, off, _, e, hlt, rfl, h4 _ hm, hc i hi⟩
theorem acte_plain (b off i : Nat) : (⟨b, off, none⟩ : Addr).add i = ⟨b, off + i, none⟩ := by unfold Addr.add; split <;> simp_all
theorem open_actse {H : Type} {enc : TypeId × Value → H} {w : World} {a : Option Addr} {len cap : Nat} {d : DataW H} {p : List MemPlace}
    (h : DataW.Trod enc Tryz.prog w 0 (fun _ => true) true 22 (.slice a len cap) d p) : ∃ ps, RowE w a len cap ps := by
  obtain ⟨fuel, hf⟩ := h
  have ce : Tryz.prog.cellsOf 34 = 16 := by kernel_rfl
  rcases Deep.open_slice Tryz.underlying22 hf with ⟨hcs, _⟩ | ⟨x, l, c, m, n, D, Pl, hcs, _, hl, hm, hmm, _, hx⟩
  · simp [Value.cells] at hcs
    obtain ⟨rfl, rfl, rfl⟩ := hcs
    exact ⟨[], rfl, Nat.le_refl _, Nat.zero_le _, fun q h => by simp at h, Or.inl rfl⟩
  · simp [Value.cells] at hcs
    obtain ⟨rfl, rfl, rfl⟩ := hcs
    have hmc : m = cap := by rw [hmm]; rfl
    subst hmc
    rw [ce] at hx
    have each : ∀ i, i < m → ∃ q : ActE, q.Ok ∧ ∀ j u, q.l[j]? = some u → w.cell? (x.add (i * 16 + j)) = some u := by
      intro i hi
      obtain ⟨cs', h1, h2⟩ := hx i hi
      obtain ⟨_, hlen, hcell⟩ := World.cells?_some h1
      obtain ⟨q, rfl, ok⟩ := trod_acte h2
      refine ⟨q, ok, fun j u hj => ?_⟩
      have hj16 : j < 16 := by
        have := (List.getElem?_eq_some_iff.1 hj).1
        simpa [ActE.l, frL] using this
      have e := hcell j hj16
      rw [Deep.add_add] at e
      rw [e]
      exact hj
    letI : Inhabited ActE := ⟨acte0⟩
    obtain ⟨q, hq⟩ := Deep.choose_lt each
    refine ⟨(List.range len).map q, by simp, hl, hm, ?_, ?_⟩
    · intro z hz
      simp only [List.mem_map, List.mem_range] at hz
      obtain ⟨i, hi, rfl⟩ := hz
      exact (hq i (by omega)).1
    · by_cases h0 : len = 0
      · exact Or.inl h0
      · obtain ⟨b, off, spot⟩ := x
        have hc := (hq 0 (by omega)).2 0 _ rfl
        have hspot : spot = none := by simpa [Addr.add] using World.cell?_spot hc
        subst hspot
        have hadd : ∀ i, (⟨b, off, none⟩ : Addr).add i = ⟨b, off + i, none⟩ := acte_plain b off
        refine Or.inr ⟨b, off, rfl, cell_lt (by rw [hadd] at hc; exact hc), fun i hi j u hj => ?_⟩
        have e : ((List.range len).map q).getD i acte0 = q i := by simp [List.getD, hi]
        rw [e] at hj
        have h1 := (hq i (by omega)).2 j u hj
        rw [hadd, ← Nat.add_assoc] at h1
        exact h1
end Go.Proofs.YtidemohpngkedabGreatDoor
