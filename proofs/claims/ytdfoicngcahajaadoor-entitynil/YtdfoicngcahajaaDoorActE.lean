/-
  What happens to an entity, as plain data (a struct of numbers, a text, a frame, a truth value), read out of its cells.
-/
import Derived.Test.YtdfoicngcahajaaDoorEntWorld
import Derived.Test.YtdfoicngcahajaaDoorRows
import Derived.OpenShut
import Derived.Deep.Slices
namespace Go.Proofs.YtdfoicngcahajaaDoor
open Go.RowKit Go.ChangeShapes Go.WideShapes
set_option linter.unusedVariables false
set_option maxRecDepth 100000
set_option linter.unusedSimpArgs false

def I64 (a : Int) : Prop := -9223372036854775808 ≤ a ∧ a ≤ 9223372036854775807
structure ActE where
  (d ask timer tei : Int)
  data : ByteArray
  f : Em.Fr
  near : Bool
  (n m : Int)
def acte0 : ActE := ⟨0, 0, 0, 0, ByteArray.empty, Em.fr0, false, 0, 0⟩
structure FrOk (f : Em.Fr) : Prop where
  sapi : I64 f.sapi
  tei : I64 f.tei
  k : I64 f.k
  ns : I64 f.ns
  nr : I64 f.nr
  info : f.info.size ≤ 9223372036854775807
structure ActE.Ok (q : ActE) : Prop where
  d : I64 q.d
  ask : I64 q.ask
  timer : I64 q.timer
  tei : I64 q.tei
  data : q.data.size ≤ 9223372036854775807
  f : FrOk q.f
  n : I64 q.n
  m : I64 q.m
def frL (f : Em.Fr) : List Value := [.int .i64 f.sapi, .int .i64 f.tei, .bool f.c, .int .i64 f.k, .bool f.pf, .int .i64 f.ns, .int .i64 f.nr, .string f.info]
def ActE.l (q : ActE) : List Value := [.int .i64 q.d, .int .i64 q.ask, .int .i64 q.timer, .int .i64 q.tei, .string q.data] ++ frL q.f ++ [.bool q.near, .int .i64 q.n, .int .i64 q.m]

section
variable {H : Type} {enc : TypeId × Value → H} {w : World} {base : Nat} {spare : Nat → Bool} {held : Bool} {fuel : Nat} {cs : List Value} {x : DataW H × List MemPlace}
theorem trod_fr14 (h : DataW.trod enc Tryd.prog w base spare held fuel 23 cs = some x) : ∃ f : Em.Fr, cs = frL f ∧ FrOk f := by
  have ce : Tryd.prog.cellsOf 23 = 8 := by kernel_rfl
  have ci : Tryd.prog.cellsOf 3 = 1 := by kernel_rfl
  have cb : Tryd.prog.cellsOf 4 = 1 := by kernel_rfl
  have cj : Tryd.prog.cellsOf 9 = 1 := by kernel_rfl
  obtain ⟨xs, n, _, rfl, hl, hlen, hf⟩ := DataW.trod_struct Tryd.underlying23 h
  rw [ce] at hl
  match cs, hl with
  | [v0, v1, v2, v3, v4, v5, v6, v7], _ =>
    match xs, hlen with
    | [y0, y1, y2, y3, y4, y5, y6, y7], _ =>
      have g0 := hf 0 _ rfl
      have g1 := hf 1 _ rfl
      have g2 := hf 2 _ rfl
      have g3 := hf 3 _ rfl
      have g4 := hf 4 _ rfl
      have g5 := hf 5 _ rfl
      have g6 := hf 6 _ rfl
      have g7 := hf 7 _ rfl
      simp [ci, cj, cb] at g0 g1 g2 g3 g4 g5 g6 g7
      obtain ⟨a0, e0, _, w0⟩ := DataW.trod_int Tryd.underlying3 g0
      obtain ⟨a1, e1, _, w1⟩ := DataW.trod_int Tryd.underlying3 g1
      obtain ⟨a2, e2, _⟩ := DataW.trod_bool Tryd.underlying4 g2
      obtain ⟨a3, e3, _, w3⟩ := DataW.trod_int Tryd.underlying3 g3
      obtain ⟨a4, e4, _⟩ := DataW.trod_bool Tryd.underlying4 g4
      obtain ⟨a5, e5, _, w5⟩ := DataW.trod_int Tryd.underlying3 g5
      obtain ⟨a6, e6, _, w6⟩ := DataW.trod_int Tryd.underlying3 g6
      obtain ⟨a7, e7, _, w7⟩ := DataW.trod_string Tryd.underlying9 g7
      simp at e0 e1 e2 e3 e4 e5 e6 e7
      subst e0 e1 e2 e3 e4 e5 e6 e7
      exact ⟨⟨a0, a1, a2, a3, a4, a5, a6, a7⟩, rfl, ⟨bounds_i64 w0, bounds_i64 w1, bounds_i64 w3, bounds_i64 w5, bounds_i64 w6, by unfold maxLen at w7; show a7.size ≤ _; omega⟩⟩
theorem trod_acte (h : DataW.trod enc Tryd.prog w base spare held fuel 25 cs = some x) : ∃ q : ActE, cs = q.l ∧ q.Ok := by
  have ce : Tryd.prog.cellsOf 25 = 16 := by kernel_rfl
  have cf : Tryd.prog.cellsOf 23 = 8 := by kernel_rfl
  have ci : Tryd.prog.cellsOf 3 = 1 := by kernel_rfl
  have cb : Tryd.prog.cellsOf 4 = 1 := by kernel_rfl
  have cj : Tryd.prog.cellsOf 9 = 1 := by kernel_rfl
  obtain ⟨xs, n, _, rfl, hl, hlen, hf⟩ := DataW.trod_struct Tryd.underlying25 h
  rw [ce] at hl
  match cs, hl with
  | [v0, v1, v2, v3, v4, v5, v6, v7, v8, v9, v10, v11, v12, v13, v14, v15], _ =>
    match xs, hlen with
    | [y0, y1, y2, y3, y4, y5, y6, y7, y8], _ =>
      have g0 := hf 0 _ rfl
      have g1 := hf 1 _ rfl
      have g2 := hf 2 _ rfl
      have g3 := hf 3 _ rfl
      have g4 := hf 4 _ rfl
      have g5 := hf 5 _ rfl
      have g6 := hf 6 _ rfl
      have g7 := hf 7 _ rfl
      have g8 := hf 8 _ rfl
      simp [ci, cj, cb, cf] at g0 g1 g2 g3 g4 g5 g6 g7 g8
      obtain ⟨a0, e0, _, w0⟩ := DataW.trod_int Tryd.underlying3 g0
      obtain ⟨a1, e1, _, w1⟩ := DataW.trod_int Tryd.underlying3 g1
      obtain ⟨a2, e2, _, w2⟩ := DataW.trod_int Tryd.underlying3 g2
      obtain ⟨a3, e3, _, w3⟩ := DataW.trod_int Tryd.underlying3 g3
      obtain ⟨a4, e4, _, w4⟩ := DataW.trod_string Tryd.underlying9 g4
      obtain ⟨f, ef, of⟩ := trod_fr14 g5
      obtain ⟨a6, e6, _⟩ := DataW.trod_bool Tryd.underlying4 g6
      obtain ⟨a7, e7, _, w7⟩ := DataW.trod_int Tryd.underlying3 g7
      obtain ⟨a8, e8, _, w8⟩ := DataW.trod_int Tryd.underlying3 g8
      simp [frL] at e0 e1 e2 e3 e4 ef e6 e7 e8
      obtain ⟨f0, f1, f2, f3, f4, f5, f6, f7⟩ := ef
      subst e0 e1 e2 e3 e4 e6 e7 e8 f0 f1 f2 f3 f4 f5 f6 f7
      exact ⟨⟨a0, a1, a2, a3, a4, f, a6, a7, a8⟩, rfl, ⟨bounds_i64 w0, bounds_i64 w1, bounds_i64 w2, bounds_i64 w3, by unfold maxLen at w4; show a4.size ≤ _; omega, of, bounds_i64 w7, bounds_i64 w8⟩⟩
end
end Go.Proofs.YtdfoicngcahajaaDoor
