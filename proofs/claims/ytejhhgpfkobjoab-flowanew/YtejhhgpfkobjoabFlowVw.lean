/-
  A flow, and a view of a flow that lies beside it.
-/
import Derived.Test.YtejhhgpfkobjoabFlowAct
namespace Go.Proofs.Ytejhhgpfkobjoab
open Go.RowKit
set_option linter.unusedVariables false
set_option linter.unusedSimpArgs false

/-- a view lies in a block -/
structure VwAt (w : World) (B : Nat) (σ : Wm.St) : Prop where
  lt : B < w.heap.size
  c0 : w.cell? ⟨B, 0, none⟩ = some (.int .i64 σ.vs)
  c1 : w.cell? ⟨B, 1, none⟩ = some (.int .i64 σ.va)
  c2 : w.cell? ⟨B, 2, none⟩ = some (.int .i64 σ.vr)
  c3 : w.cell? ⟨B, 3, none⟩ = some (.bool σ.pe)
  c4 : w.cell? ⟨B, 4, none⟩ = some (.bool σ.ow)
  c5 : w.cell? ⟨B, 5, none⟩ = some (.bool σ.re)
  c6 : w.cell? ⟨B, 6, none⟩ = some (.int .i64 σ.sn)
  c7 : w.cell? ⟨B, 7, none⟩ = some (.int .i64 ((σ.L.length - σ.sn : Nat) : Int))
theorem vwat_new (w : World) (σ : Wm.St) (T : TypeId) : VwAt (w.alloc (.cells #[.int .i64 σ.vs, .int .i64 σ.va, .int .i64 σ.vr, .bool σ.pe, .bool σ.ow, .bool σ.re, .int .i64 σ.sn, .int .i64 ((σ.L.length - σ.sn : Nat) : Int)] T)) w.heap.size σ :=
  ⟨by simp, by simp, by simp, by simp, by simp, by simp, by simp, by simp, by simp⟩
theorem VwAt.kept {w w' : World} {B : Nat} {σ : Wm.St} {T : Nat → Prop} (h : VwAt w B σ) (hk : Kept w w' T) (hT : ¬ T B) : VwAt w' B σ :=
  ⟨Nat.lt_of_lt_of_le h.lt hk.size, (hk.cell (p := ⟨B, 0, none⟩) h.lt hT).trans h.c0, (hk.cell (p := ⟨B, 1, none⟩) h.lt hT).trans h.c1, (hk.cell (p := ⟨B, 2, none⟩) h.lt hT).trans h.c2, (hk.cell (p := ⟨B, 3, none⟩) h.lt hT).trans h.c3,
   (hk.cell (p := ⟨B, 4, none⟩) h.lt hT).trans h.c4, (hk.cell (p := ⟨B, 5, none⟩) h.lt hT).trans h.c5, (hk.cell (p := ⟨B, 6, none⟩) h.lt hT).trans h.c6, (hk.cell (p := ⟨B, 7, none⟩) h.lt hT).trans h.c7⟩
theorem VwAt.below {w w' : World} {B : Nat} {σ : Wm.St} (h : VwAt w B σ) (hb : Below w.heap.size w w') : VwAt w' B σ := h.kept (T := fun _ => False) (Kept.of_below hb (fun k hk h' => by omega)) (fun x => x)

/-- the program's flow alone, the data that the call made beside it -/
theorem PrF.alone {b : Nat} {W0 w : World} {C R D : Nat} {σ τ : Wm.St} (h : PrF b W0 w C R D σ τ) : ∃ G, Fl w C G σ ∧ (∀ k, qtch C G k → b ≤ k) := by
  obtain ⟨G, H, h1, h2, h3, h4, h5⟩ := h.qu
  exact ⟨G, h1, h3⟩
/-- a flow, and a view that lies beside it -/
structure FlV (b : Nat) (W0 w : World) (C : Nat) (σ : Wm.St) (V : Nat) (τ : Wm.St) : Prop where
  fl : ∃ G, Fl w C G σ ∧ ∀ k, qtch C G k → b ≤ k ∧ k ≠ V
  ok : σ.Ok
  vw : VwAt w V τ
  bel : Below b W0 w
section
variable {b : Nat} {W0 w w' : World} {C V : Nat} {σ σ' τ : Wm.St}
theorem FlV.bs (h : FlV b W0 w C σ V τ) : b ≤ w.heap.size := by
  obtain ⟨G, h1, h2⟩ := h.fl
  have := (h2 C (Or.inl rfl)).1; have := h1.lt; omega
theorem FlV.below (h : FlV b W0 w C σ V τ) (hb : Below w.heap.size w w') : FlV b W0 w' C σ V τ := by
  obtain ⟨G, h1, h2⟩ := h.fl
  exact ⟨⟨G, h1.below hb, h2⟩, h.ok, h.vw.below hb, h.bel.trans (hb.mono h.bs)⟩
theorem FlV.moved (h : FlV b W0 w C σ V τ) : ∃ G, Fl w C G σ ∧ ∀ w' σ', Mvf w w' C G σ' → σ'.Ok → FlV b W0 w' C σ' V τ := by
  obtain ⟨G, h1, h2⟩ := h.fl
  have hbs := h.bs
  refine ⟨G, h1, fun w' σ' hm ok => ?_⟩
  obtain ⟨G', hq', hk, hf⟩ := hm
  refine ⟨⟨G', hq', fun k hk' => ?_⟩, ok, h.vw.kept hk (fun hx => (h2 V hx).2 rfl), h.bel.trans (hk.below hbs (fun k hk' => (h2 k hk').1))⟩
  rcases hk' with rfl | hk'
  · exact h2 k (Or.inl rfl)
  · rcases hf k hk' with h' | h'
    · exact h2 k (Or.inr h')
    · exact ⟨by omega, by have := h.vw.lt; omega⟩
theorem flv_new {G : Option Nat} (hf : Fl w C G σ) (hG : ∀ k, qtch C G k → b ≤ k) (ok : σ.Ok) (hb : Below b W0 w) (T : TypeId) : FlV b W0 (w.alloc (.cells #[.int .i64 τ.vs, .int .i64 τ.va, .int .i64 τ.vr, .bool τ.pe, .bool τ.ow, .bool τ.re, .int .i64 τ.sn, .int .i64 ((τ.L.length - τ.sn : Nat) : Int)] T)) C σ w.heap.size τ := by
  have hbs : b ≤ w.heap.size := by have := hG C (Or.inl rfl); have := hf.lt; omega
  have hb1 : Below w.heap.size w (w.alloc (.cells #[.int .i64 τ.vs, .int .i64 τ.va, .int .i64 τ.vr, .bool τ.pe, .bool τ.ow, .bool τ.re, .int .i64 τ.sn, .int .i64 ((τ.L.length - τ.sn : Nat) : Int)] T)) := (Below.refl _ _).alloc (Nat.le_refl _) _
  exact ⟨⟨G, hf.below hb1, fun k hk => ⟨hG k hk, by have := hf.tlt hk; omega⟩⟩, ok, vwat_new w τ T, hb.trans (hb1.mono hbs)⟩
end
end Go.Proofs.Ytejhhgpfkobjoab
