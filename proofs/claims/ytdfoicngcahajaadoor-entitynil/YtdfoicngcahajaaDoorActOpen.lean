/-
  What happens to an entity, by value, opened.
-/
import Derived.Test.YtdfoicngcahajaaDoorActE
namespace Go.Proofs.YtdfoicngcahajaaDoor
open Go.RowKit Go.ChangeShapes Go.WideShapes
set_option linter.unusedVariables false
set_option maxRecDepth 100000
set_option linter.unusedSimpArgs false

def ActE.v (q : ActE) : Value := .agg #[.int .i64 q.d, .int .i64 q.ask, .int .i64 q.timer, .int .i64 q.tei, .string q.data, .int .i64 q.f.sapi, .int .i64 q.f.tei, .bool q.f.c, .int .i64 q.f.k, .bool q.f.pf, .int .i64 q.f.ns, .int .i64 q.f.nr, .string q.f.info, .bool q.near, .int .i64 q.n, .int .i64 q.m]
theorem open_acte {H : Type} {enc : TypeId × Value → H} {w : World} {base : Nat} {spare : Nat → Bool} {held : Bool} {r : Reach} {b0 : Nat} {v : Value} {d : DataW H} {p : List MemPlace} (hv : Value.okWide Tryd.prog w r b0 25 v) (h : DataW.Trod enc Tryd.prog w base spare held 25 v d p) : ∃ q : ActE, v = q.v ∧ q.Ok := by
  obtain ⟨cs, rfl, hsz⟩ := okWide_struct Tryd.underlying25 hv
  obtain ⟨fuel, hf⟩ := h
  obtain ⟨q, hq, ok⟩ := trod_acte hf
  refine ⟨q, ?_, ok⟩
  have e : cs.toList = q.l := by simpa [Value.cells] using hq
  have e2 : cs = q.l.toArray := by rw [← e]
  rw [e2]
  rfl
end Go.Proofs.YtdfoicngcahajaaDoor
