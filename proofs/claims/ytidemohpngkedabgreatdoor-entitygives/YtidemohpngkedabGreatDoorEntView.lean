/-
  The walk of an entity's View.
  The walk of layer 14's wakes, and those of the methods of a nil entity.
-/
import Derived.Test.YtidemohpngkedabGreatDoorEntNew
namespace Go.Proofs.YtidemohpngkedabGreatDoor
open Go.RowKit
set_option linter.unusedVariables false
set_option maxRecDepth 100000
set_option linter.unusedSimpArgs false

/-! ### cells that are written one behind the other -/
def setN (B : Nat) : List Value → Nat → World → World
  | [], _, w => w
  | v :: l, o, w => setN B l (o + 1) (w.setCell ⟨B, o, none⟩ v)
theorem setN_size (B : Nat) : ∀ (l : List Value) (o : Nat) (w : World), (setN B l o w).heap.size = w.heap.size
  | [], o, w => rfl
  | v :: l, o, w => by
    show (setN B l (o + 1) _).heap.size = _
    rw [setN_size B l]
    simp [World.setCell]
theorem setN_low (B : Nat) : ∀ (l : List Value) (o j : Nat) (w : World), j < o → (setN B l o w).cell? ⟨B, j, none⟩ = w.cell? ⟨B, j, none⟩
  | [], o, j, w, h => rfl
  | v :: l, o, j, w, h => by
    show (setN B l (o + 1) _).cell? _ = _
    rw [setN_low B l (o + 1) j _ (by omega)]
    exact cell_oth w B (by omega) v
theorem setN_at (B : Nat) : ∀ (l : List Value) (o : Nat) (w : World), (∀ j, j < l.length → (w.cell? ⟨B, o + j, none⟩).isSome = true) → ∀ j u, l[j]? = some u → (setN B l o w).cell? ⟨B, o + j, none⟩ = some u
  | [], o, w, h, j, u, hj => by simp at hj
  | v :: l, o, w, h, 0, u, hj => by
    simp at hj
    subst hj
    show (setN B l (o + 1) (w.setCell ⟨B, o, none⟩ v)).cell? ⟨B, o, none⟩ = _
    rw [setN_low B l (o + 1) o _ (by omega)]
    exact World.cell?_setCell_same' w ⟨B, o, none⟩ _ (h 0 (by simp))
  | v :: l, o, w, h, j + 1, u, hj => by
    show (setN B l (o + 1) _).cell? _ = _
    have := setN_at B l (o + 1) (w.setCell ⟨B, o, none⟩ v) (fun i hi => by
      rw [cell_oth w B (by omega) v]
      have := h (i + 1) (by simp; omega)
      rw [show o + (i + 1) = o + 1 + i by omega] at this
      exact this) j u (by simpa using hj)
    rw [show o + (j + 1) = o + 1 + j by omega]
    exact this
theorem setN_frozen (B : Nat) : ∀ (l : List Value) (o : Nat) (w : World) (p : Addr), (setN B l o w).frozen? p = w.frozen? p
  | [], o, w, p => rfl
  | v :: l, o, w, p => by
    show (setN B l (o + 1) _).frozen? p = _
    rw [setN_frozen B l]
    exact World.frozen?_setCell _ _ _ _
theorem setN_below (B b : Nat) (hb : b ≤ B) {w0 : World} : ∀ (l : List Value) (o : Nat) (w : World), Below b w0 w → Below b w0 (setN B l o w)
  | [], o, w, h => h
  | v :: l, o, w, h => setN_below B b hb l (o + 1) _ (h.setCell (p := ⟨B, o, none⟩) hb v)
/-- n cells that may be written -/
structure May (w : World) (B n : Nat) : Prop where
  lt : B < w.heap.size
  c : ∀ j, j < n → (w.cell? ⟨B, j, none⟩).isSome = true
  f : ∀ j, j < n → w.frozen? ⟨B, j, none⟩ = false
theorem May.later {w w' : World} {B n : Nat} (h : May w B n) (hb : Below w.heap.size w w') : May w' B n :=
  ⟨Nat.lt_of_lt_of_le h.lt hb.size, fun j hj => by rw [hb.cell (p := ⟨B, j, none⟩) h.lt]; exact h.c j hj, fun j hj => by rw [hb.frozen (p := ⟨B, j, none⟩) h.lt]; exact h.f j hj⟩
theorem May.get {w : World} {B n : Nat} (h : May w B n) (j : Nat) (hj : j < n) : ∃ v, w.cell? ⟨B, j, none⟩ = some v := Option.isSome_iff_exists.1 (h.c j hj)
/-- they hold that row -/
def Holds (w : World) (B : Nat) (l : List Value) : Prop := ∀ j u, l[j]? = some u → w.cell? ⟨B, j, none⟩ = some u
theorem Holds.later {w w' : World} {B : Nat} {l : List Value} (h : Holds w B l) (hlt : B < w.heap.size) (hb : Below w.heap.size w w') : Holds w' B l := fun j u hj => (hb.cell (p := ⟨B, j, none⟩) hlt).trans (h j u hj)

/-- a view as a value -/
def evL (e : Em.St) : List Value := [.int .i64 e.state, .int .i64 e.tei, .int .i64 e.tries, .bool e.asked, .bool e.t200, .bool e.t203, .int .i64 e.units.length, .int .i64 e.fl.vs, .int .i64 e.fl.va, .int .i64 e.fl.vr, .bool e.fl.pe, .bool e.fl.ow, .bool e.fl.re, .int .i64 e.fl.sn, .int .i64 ((e.fl.L.length - e.fl.sn : Nat) : Int)]
def evV (e : Em.St) : Value := .agg #[.int .i64 e.state, .int .i64 e.tei, .int .i64 e.tries, .bool e.asked, .bool e.t200, .bool e.t203, .int .i64 e.units.length, .int .i64 e.fl.vs, .int .i64 e.fl.va, .int .i64 e.fl.vr, .bool e.fl.pe, .bool e.fl.ow, .bool e.fl.re, .int .i64 e.fl.sn, .int .i64 ((e.fl.L.length - e.fl.sn : Nat) : Int)]

/-! ### what each operation does -/
section
variable {ρ : Operand → Value} {o : Oper} {C : Nat}
theorem rune_nil {x : Operand} {p : Addr} (hop : o.op = .nilCheck x) (hx : ρ x = .pointer (some p)) (w : World) : (execOp ρ o).run Tryz.prog w = .ok (.value (.pointer (some p))) w := by
  unfold execOp
  simp only [hop, hx]
  go_simp
theorem rune_fa {x : Operand} (k : Nat) (hk : k < 7) (hop : o.op = .fieldAddr 78 x k) (hx : ρ x = .pointer (some ⟨C, 0, none⟩)) (w : World) : (execOp ρ o).run Tryz.prog w = .ok (.value (.pointer (some ⟨C, k, none⟩))) w := by
  unfold execOp
  rcases (show k = 0 ∨ k = 1 ∨ k = 2 ∨ k = 3 ∨ k = 4 ∨ k = 5 ∨ k = 6 by omega) with rfl | rfl | rfl | rfl | rfl | rfl | rfl
  all_goals
    simp only [hop, hx]
    go_simp
theorem rune_lds {x : Operand} {k : Nat} {v : Int} {w : World} (hop : o.op = .load 60 x) (hx : ρ x = .pointer (some ⟨C, k, none⟩)) (hc : w.cell? ⟨C, k, none⟩ = some (.int .i64 v)) : (execOp ρ o).run Tryz.prog w = .ok (.value (.int .i64 v)) w := by
  unfold execOp
  simp only [hop, hx]
  go_simp
theorem rune_ldi {x : Operand} {k : Nat} {v : Int} {w : World} (hop : o.op = .load 3 x) (hx : ρ x = .pointer (some ⟨C, k, none⟩)) (hc : w.cell? ⟨C, k, none⟩ = some (.int .i64 v)) : (execOp ρ o).run Tryz.prog w = .ok (.value (.int .i64 v)) w := by
  unfold execOp
  simp only [hop, hx]
  go_simp
theorem rune_ldb {x : Operand} {k : Nat} {v : Bool} {w : World} (hop : o.op = .load 4 x) (hx : ρ x = .pointer (some ⟨C, k, none⟩)) (hc : w.cell? ⟨C, k, none⟩ = some (.bool v)) : (execOp ρ o).run Tryz.prog w = .ok (.value (.bool v)) w := by
  unfold execOp
  simp only [hop, hx]
  go_simp
theorem rune_ldu {x : Operand} {k : Nat} {a : Option Addr} {n cap : Nat} {w : World} (hop : o.op = .load 76 x) (hx : ρ x = .pointer (some ⟨C, k, none⟩)) (hc : w.cell? ⟨C, k, none⟩ = some (.slice a n cap)) : (execOp ρ o).run Tryz.prog w = .ok (.value (.slice a n cap)) w := by
  unfold execOp
  simp only [hop, hx]
  go_simp
theorem rune_ldf {x : Operand} {k : Nat} {p : Option Addr} {w : World} (hop : o.op = .load 73 x) (hx : ρ x = .pointer (some ⟨C, k, none⟩)) (hc : w.cell? ⟨C, k, none⟩ = some (.pointer p)) : (execOp ρ o).run Tryz.prog w = .ok (.value (.pointer p)) w := by
  unfold execOp
  simp only [hop, hx]
  go_simp
theorem rune_len {x : Operand} {a : Option Addr} {n cap : Nat} {w : World} (hop : o.op = .call { callee := .builtin .len, args := #[x], argTypes := #[76] }) (hx : ρ x = .slice a n cap) : (execOp ρ o).run Tryz.prog w = .ok (.value (.int .i64 n)) w := by
  unfold execOp
  simp only [hop, hx]
  go_simp
theorem rune_runs {x : Operand} {u : Value} {t : Int} {ts : Array TypeId} (hop : o.op = .call { callee := .value (.func 37), args := #[x, .const (.int .i64 t)], argTypes := ts })
    (hf : ρ (.func 37) = .func (.func 37) #[] #[]) (hx : ρ x = u) (ht : ρ (.const (.int .i64 t)) = .int .i64 t) (w : World) : (execOp ρ o).run Tryz.prog w = .ok (.enter 37 #[u, .int .i64 t]) w := by
  unfold execOp
  simp only [hop]
  simp only [resolve, hf, hx, ht, List.map_toArray, List.map_cons, List.map_nil]
  go_simp
theorem rune_view {x : Operand} {u : Value} {ts : Array TypeId} (hop : o.op = .call { callee := .value (.func 47), args := #[x], argTypes := ts })
    (hf : ρ (.func 47) = .func (.func 47) #[] #[]) (hx : ρ x = u) (w : World) : (execOp ρ o).run Tryz.prog w = .ok (.enter 47 #[u]) w := by
  unfold execOp
  simp only [hop]
  simp only [resolve, hf, hx, List.map_toArray, List.map_cons, List.map_nil]
  go_simp
theorem rune_build {e : Em.St} {x0 x1 x2 x3 x4 x5 x6 x7 : Operand} (hop : o.op = .build 64 #[(0, x0), (1, x1), (2, x2), (3, x3), (4, x4), (5, x5), (6, x6), (7, x7)])
    (h0 : ρ x0 = .int .i64 e.state) (h1 : ρ x1 = .int .i64 e.tei) (h2 : ρ x2 = .int .i64 e.tries) (h3 : ρ x3 = .bool e.asked) (h4 : ρ x4 = .bool e.t200) (h5 : ρ x5 = .bool e.t203) (h6 : ρ x6 = .int .i64 e.units.length) (h7 : ρ x7 = vwV e.fl) (w : World) : (execOp ρ o).run Tryz.prog w = .ok (.value (evV e)) w := by
  unfold vwV at h7
  unfold execOp evV
  simp only [hop, h0, h1, h2, h3, h4, h5, h6, h7]
  go_simp
theorem rune_st {e : Em.St} {x y : Operand} {B : Nat} {w : World} (hop : o.op = .store 64 x y) (hx : ρ x = .pointer (some ⟨B, 0, none⟩)) (hy : ρ y = evV e) (hE : May w B 15) :
    (execOp ρ o).run Tryz.prog w = .ok .skip (setN B (evL e) 0 w) := by
  obtain ⟨v0, c0⟩ := hE.get 0 (by decide)
  have f0 := hE.f 0 (by decide)
  obtain ⟨v1, c1⟩ := hE.get 1 (by decide)
  have f1 := hE.f 1 (by decide)
  obtain ⟨v2, c2⟩ := hE.get 2 (by decide)
  have f2 := hE.f 2 (by decide)
  obtain ⟨v3, c3⟩ := hE.get 3 (by decide)
  have f3 := hE.f 3 (by decide)
  obtain ⟨v4, c4⟩ := hE.get 4 (by decide)
  have f4 := hE.f 4 (by decide)
  obtain ⟨v5, c5⟩ := hE.get 5 (by decide)
  have f5 := hE.f 5 (by decide)
  obtain ⟨v6, c6⟩ := hE.get 6 (by decide)
  have f6 := hE.f 6 (by decide)
  obtain ⟨v7, c7⟩ := hE.get 7 (by decide)
  have f7 := hE.f 7 (by decide)
  obtain ⟨v8, c8⟩ := hE.get 8 (by decide)
  have f8 := hE.f 8 (by decide)
  obtain ⟨v9, c9⟩ := hE.get 9 (by decide)
  have f9 := hE.f 9 (by decide)
  obtain ⟨v10, c10⟩ := hE.get 10 (by decide)
  have f10 := hE.f 10 (by decide)
  obtain ⟨v11, c11⟩ := hE.get 11 (by decide)
  have f11 := hE.f 11 (by decide)
  obtain ⟨v12, c12⟩ := hE.get 12 (by decide)
  have f12 := hE.f 12 (by decide)
  obtain ⟨v13, c13⟩ := hE.get 13 (by decide)
  have f13 := hE.f 13 (by decide)
  obtain ⟨v14, c14⟩ := hE.get 14 (by decide)
  have f14 := hE.f 14 (by decide)
  unfold evV at hy
  unfold execOp
  simp only [hop, hx, hy, evL, setN]
  go_simp
end
/-- the world while View's region runs -/
structure EvJ (w0 : World) (e : Em.St) (l : Array Bool) (w : World) : Prop where
  m : May w w0.heap.size 15
  bel : Below w0.heap.size w0 w
  i : l.getD 31 false = true → Holds w w0.heap.size (evL e)
theorem EvJ.keep {w0 : World} {e : Em.St} {l : Array Bool} {w : World} (h : EvJ w0 e l w) {i : Nat} (hi : i < 31) : EvJ w0 e (l.setIfInBounds i true) w := ⟨h.m, h.bel, fun hl => h.i ((set_listed hl).resolve_left (by omega))⟩
theorem EvJ.later {w0 : World} {e : Em.St} {l : Array Bool} {w w' : World} (h : EvJ w0 e l w) (hb : Below w.heap.size w w') : EvJ w0 e l w' :=
  ⟨h.m.later hb, h.bel.trans (hb.mono (Nat.le_of_lt h.m.lt)), fun hl => (h.i hl).later h.m.lt hb⟩
theorem EvJ.stored {w0 : World} {e : Em.St} {l l' : Array Bool} {w : World} (h : EvJ w0 e l w) : EvJ w0 e l' (setN w0.heap.size (evL e) 0 w) := by
  have hat := setN_at w0.heap.size (evL e) 0 w (fun j hj => by rw [Nat.zero_add]; exact h.m.c j hj)
  refine ⟨⟨by rw [setN_size]; exact h.m.lt, fun j hj => ?_, fun j hj => by rw [setN_frozen]; exact h.m.f j hj⟩, setN_below _ _ (Nat.le_refl _) _ _ _ h.bel, fun _ j u hj => by have := hat j u hj; rwa [Nat.zero_add] at this⟩
  obtain ⟨u, hu⟩ : ∃ u, (evL e)[j]? = some u := ⟨_, List.getElem?_eq_getElem (by exact hj)⟩
  have := hat j u hu
  rw [Nat.zero_add] at this
  rw [this]; rfl

def evD : Nat → Option Nat
  | 31 => none
  | 0 => some 7
  | 1 => some 8
  | 2 => some 9
  | 3 => some 10
  | 4 => some 11
  | 5 => some 12
  | 6 => some 13
  | 7 => some 14
  | 8 => some 15
  | 9 => some 16
  | 10 => some 17
  | 11 => some 18
  | 12 => some 19
  | 13 => some 20
  | 14 => some 21
  | 15 => some 22
  | 16 => some 23
  | 17 => some 24
  | 18 => some 25
  | 19 => some 26
  | 20 => some 27
  | 21 => some 28
  | 22 => some 29
  | 23 => some 30
  | 24 => some 31
  | 25 => some 32
  | 26 => some 33
  | 27 => some 34
  | 28 => some 35
  | 29 => some 36
  | 30 => some 37
  | _ => none
def evVal (C D : Nat) (a : Option Addr) (cap : Nat) (e : Em.St) : Nat → Value
  | 0 => .pointer (some ⟨C, 0, none⟩)
  | 1 => .pointer (some ⟨C, 0, none⟩)
  | 2 => .pointer (some ⟨C, 0, none⟩)
  | 3 => .int .i64 e.state
  | 4 => .pointer (some ⟨C, 0, none⟩)
  | 5 => .pointer (some ⟨C, 0, none⟩)
  | 6 => .pointer (some ⟨C, 1, none⟩)
  | 7 => .int .i64 e.tei
  | 8 => .pointer (some ⟨C, 0, none⟩)
  | 9 => .pointer (some ⟨C, 0, none⟩)
  | 10 => .pointer (some ⟨C, 4, none⟩)
  | 11 => .int .i64 e.tries
  | 12 => .pointer (some ⟨C, 0, none⟩)
  | 13 => .pointer (some ⟨C, 0, none⟩)
  | 14 => .pointer (some ⟨C, 5, none⟩)
  | 15 => .bool e.asked
  | 16 => .pointer (some ⟨C, 0, none⟩)
  | 17 => .bool e.t200
  | 18 => .pointer (some ⟨C, 0, none⟩)
  | 19 => .bool e.t203
  | 20 => .pointer (some ⟨C, 0, none⟩)
  | 21 => .pointer (some ⟨C, 0, none⟩)
  | 22 => .pointer (some ⟨C, 6, none⟩)
  | 23 => .slice a e.units.length cap
  | 24 => .int .i64 e.units.length
  | 25 => .pointer (some ⟨C, 0, none⟩)
  | 26 => .pointer (some ⟨C, 0, none⟩)
  | 27 => .pointer (some ⟨C, 2, none⟩)
  | 28 => .pointer (some ⟨D, 0, none⟩)
  | 29 => vwV e.fl
  | 30 => evV e
  | _ => undef
theorem evD_inj : ∀ i j d, i < 32 → j < 32 → evD i = some d → evD j = some d → i = j := by
  have h : ∀ i < 32, ∀ j < 32, evD i = evD j → evD i ≠ none → i = j := by decide
  intro i j d hi hj h1 h2
  exact h i hi j hj (h1.trans h2.symm) (by rw [h1]; simp)
theorem evD_lt : ∀ i d, i < 32 → evD i = some d → d < 38 := by
  have h : ∀ i < 32, (evD i).all (fun d => decide (d < 38)) = true := by decide
  intro i d hi hd
  have := h i hi
  rw [hd] at this
  simpa using this

set_option maxHeartbeats 4000000 in
theorem eview_any (C : Nat) (lab : Nat → Nat) (e : Em.St) (w : World) (h : Ent C w lab e) :
    Calls Tryz.prog 21 #[.pointer (some ⟨C, 0, none⟩)] w fun r w' => r = .returned (evV e) ∧ Below w.heap.size w w' := by
  have HM := fun o => made_any C lab e (w.alloc o) (h.en.below ((Below.refl _ _).alloc (Nat.le_refl _) _)) h.ok.s0
  have hlt := h.en.cs.lt
  obtain ⟨D, G, c2, hD, hfl, -⟩ := h.en.flow
  obtain ⟨a, cap, U, c6, -, -⟩ := h.en.un
  have HEn : Hid (En C w lab e) := h.en
  have HC2 : Hid (w.cell? ⟨C, 2, none⟩ = some (.pointer (some ⟨D, 0, none⟩))) := c2
  have HC6 : Hid (w.cell? ⟨C, 6, none⟩ = some (.slice a e.units.length cap)) := c6
  have HFL : Hid (Fl w D G e.fl) := hfl
  have HJ : Hid (∀ t, EvJ w e (Array.replicate 32 false) ((w.alloc (.cells #[.int .i64 0, .int .i64 0, .int .i64 0, .bool false, .bool false, .bool false, .int .i64 0, .int .i64 0, .int .i64 0, .int .i64 0, .bool false, .bool false, .bool false, .int .i64 0, .int .i64 0] t))).drew) := by
    intro t
    have hb : Below w.heap.size w (w.alloc (.cells #[.int .i64 0, .int .i64 0, .int .i64 0, .bool false, .bool false, .bool false, .int .i64 0, .int .i64 0, .int .i64 0, .int .i64 0, .bool false, .bool false, .bool false, .int .i64 0, .int .i64 0] t)) := (Below.refl _ _).alloc (Nat.le_refl _) _
    refine ⟨⟨by simp, fun j hj => ?_, fun j hj => ?_⟩, hb.drew, fun hl => by rw [rep_getD'] at hl; exact absurd hl (by decide)⟩
    · rcases (show j = 0 ∨ j = 1 ∨ j = 2 ∨ j = 3 ∨ j = 4 ∨ j = 5 ∨ j = 6 ∨ j = 7 ∨ j = 8 ∨ j = 9 ∨ j = 10 ∨ j = 11 ∨ j = 12 ∨ j = 13 ∨ j = 14 by omega) with rfl | rfl | rfl | rfl | rfl | rfl | rfl | rfl | rfl | rfl | rfl | rfl | rfl | rfl | rfl <;> simp
    · rcases (show j = 0 ∨ j = 1 ∨ j = 2 ∨ j = 3 ∨ j = 4 ∨ j = 5 ∨ j = 6 ∨ j = 7 ∨ j = 8 ∨ j = 9 ∨ j = 10 ∨ j = 11 ∨ j = 12 ∨ j = 13 ∨ j = 14 by omega) with rfl | rfl | rfl | rfl | rfl | rfl | rfl | rfl | rfl | rfl | rfl | rfl | rfl | rfl | rfl <;> simp
  clear h c2 c6 hfl
  go_enter Tryz.func21, Tryz.ntmps21
  go_wp2_with fail
  refine (HM _).mono ?_
  rintro r w1 ⟨rfl, rfl⟩
  clear HM
  go_upto_region 3 with fail
  refine region_vals (by kernel_rfl) 32 rfl evD (evVal C D a cap e) evD_inj ?hd ?hlow (EvJ w e) ?h0 ?hstep ?hdone
  case hd => exact evD_lt
  case hlow => kernel_rfl
  case h0 => exact HJ.out _
  case hstep =>
    intro l a1 w1 i hi hJ hr hK
    have s0 : a1.eval (.tmp 0) = .pointer (some ⟨C, 0, none⟩) := hK.rest 0 (by decide)
    have s2 : a1.eval (.tmp 2) = .pointer (some ⟨w.heap.size, 0, none⟩) := hK.rest 2 (by decide)
    have got : ∀ j, j ∈ depsOf .any _ i → ∀ d, evD j = some d → j < 32 → a1.eval (.tmp d) = evVal C D a cap e j := fun j hj d hd hj' => hK.got j d hj' (ready_deps hr j hj) hd
    have cc : ∀ k v, w.cell? ⟨C, k, none⟩ = some v → w1.cell? ⟨C, k, none⟩ = some v := fun k v hv => (hJ.bel.cell (p := ⟨C, k, none⟩) hlt).trans hv
    match i, hi, hr, got with
    | 0, _, hr, got => exact stepw_val rfl (wanted_none rfl) (runw_move rfl s0 w1) rfl (hJ.keep (by decide))
    | 1, _, hr, got => exact stepw_val rfl (wanted_none rfl) (rune_nil rfl (got 0 (by decide) 7 rfl (by decide)) w1) rfl (hJ.keep (by decide))
    | 2, _, hr, got => exact stepw_val rfl (wanted_none rfl) (rune_fa 0 (by decide) rfl (got 1 (by decide) 8 rfl (by decide)) w1) rfl (hJ.keep (by decide))
    | 3, _, hr, got => exact stepw_val rfl (wanted_none rfl) (rune_lds rfl (got 2 (by decide) 9 rfl (by decide)) (cc 0 _ HEn.out.cs.c0)) rfl (hJ.keep (by decide))
    | 4, _, hr, got => exact stepw_val rfl (wanted_none rfl) (runw_move rfl s0 w1) rfl (hJ.keep (by decide))
    | 5, _, hr, got => exact stepw_val rfl (wanted_none rfl) (rune_nil rfl (got 4 (by decide) 11 rfl (by decide)) w1) rfl (hJ.keep (by decide))
    | 6, _, hr, got => exact stepw_val rfl (wanted_none rfl) (rune_fa 1 (by decide) rfl (got 5 (by decide) 12 rfl (by decide)) w1) rfl (hJ.keep (by decide))
    | 7, _, hr, got => exact stepw_val rfl (wanted_none rfl) (rune_ldi rfl (got 6 (by decide) 13 rfl (by decide)) (cc 1 _ HEn.out.cs.c1)) rfl (hJ.keep (by decide))
    | 8, _, hr, got => exact stepw_val rfl (wanted_none rfl) (runw_move rfl s0 w1) rfl (hJ.keep (by decide))
    | 9, _, hr, got => exact stepw_val rfl (wanted_none rfl) (rune_nil rfl (got 8 (by decide) 15 rfl (by decide)) w1) rfl (hJ.keep (by decide))
    | 10, _, hr, got => exact stepw_val rfl (wanted_none rfl) (rune_fa 4 (by decide) rfl (got 9 (by decide) 16 rfl (by decide)) w1) rfl (hJ.keep (by decide))
    | 11, _, hr, got => exact stepw_val rfl (wanted_none rfl) (rune_ldi rfl (got 10 (by decide) 17 rfl (by decide)) (cc 4 _ HEn.out.cs.c4)) rfl (hJ.keep (by decide))
    | 12, _, hr, got => exact stepw_val rfl (wanted_none rfl) (runw_move rfl s0 w1) rfl (hJ.keep (by decide))
    | 13, _, hr, got => exact stepw_val rfl (wanted_none rfl) (rune_nil rfl (got 12 (by decide) 19 rfl (by decide)) w1) rfl (hJ.keep (by decide))
    | 14, _, hr, got => exact stepw_val rfl (wanted_none rfl) (rune_fa 5 (by decide) rfl (got 13 (by decide) 20 rfl (by decide)) w1) rfl (hJ.keep (by decide))
    | 15, _, hr, got => exact stepw_val rfl (wanted_none rfl) (rune_ldb rfl (got 14 (by decide) 21 rfl (by decide)) (cc 5 _ HEn.out.cs.c5)) rfl (hJ.keep (by decide))
    | 16, _, hr, got => exact stepw_val rfl (wanted_none rfl) (runw_move rfl s0 w1) rfl (hJ.keep (by decide))
    | 17, _, hr, got =>
      have hru := runs_any C lab e 200 w1 (HEn.out.below hJ.bel) (by omega) (by omega)
      rw [Em.runs_200] at hru
      exact stepw_call rfl (wanted_none rfl) (rune_runs rfl rfl (got 16 (by decide) 23 rfl (by decide)) rfl w1) rfl (hru.mono fun r w2 h => ⟨h.1, (hJ.later h.2).keep (by decide)⟩)
    | 18, _, hr, got => exact stepw_val rfl (wanted_none rfl) (runw_move rfl s0 w1) rfl (hJ.keep (by decide))
    | 19, _, hr, got =>
      have hru := runs_any C lab e 203 w1 (HEn.out.below hJ.bel) (by omega) (by omega)
      rw [Em.runs_203] at hru
      exact stepw_call rfl (wanted_none rfl) (rune_runs rfl rfl (got 18 (by decide) 25 rfl (by decide)) rfl w1) rfl (hru.mono fun r w2 h => ⟨h.1, (hJ.later h.2).keep (by decide)⟩)
    | 20, _, hr, got => exact stepw_val rfl (wanted_none rfl) (runw_move rfl s0 w1) rfl (hJ.keep (by decide))
    | 21, _, hr, got => exact stepw_val rfl (wanted_none rfl) (rune_nil rfl (got 20 (by decide) 27 rfl (by decide)) w1) rfl (hJ.keep (by decide))
    | 22, _, hr, got => exact stepw_val rfl (wanted_none rfl) (rune_fa 6 (by decide) rfl (got 21 (by decide) 28 rfl (by decide)) w1) rfl (hJ.keep (by decide))
    | 23, _, hr, got => exact stepw_val rfl (wanted_none rfl) (rune_ldu rfl (got 22 (by decide) 29 rfl (by decide)) (cc 6 _ HC6.out)) rfl (hJ.keep (by decide))
    | 24, _, hr, got => exact stepw_val rfl (wanted_none rfl) (rune_len rfl (got 23 (by decide) 30 rfl (by decide))) rfl (hJ.keep (by decide))
    | 25, _, hr, got => exact stepw_val rfl (wanted_none rfl) (runw_move rfl s0 w1) rfl (hJ.keep (by decide))
    | 26, _, hr, got => exact stepw_val rfl (wanted_none rfl) (rune_nil rfl (got 25 (by decide) 32 rfl (by decide)) w1) rfl (hJ.keep (by decide))
    | 27, _, hr, got => exact stepw_val rfl (wanted_none rfl) (rune_fa 2 (by decide) rfl (got 26 (by decide) 33 rfl (by decide)) w1) rfl (hJ.keep (by decide))
    | 28, _, hr, got => exact stepw_val rfl (wanted_none rfl) (rune_ldf rfl (got 27 (by decide) 34 rfl (by decide)) (cc 2 _ HC2.out)) rfl (hJ.keep (by decide))
    | 29, _, hr, got => exact stepw_call rfl (wanted_none rfl) (rune_view rfl rfl (got 28 (by decide) 35 rfl (by decide)) w1) rfl ((fview_any D G e.fl w1 (HFL.out.below hJ.bel)).mono fun r w2 h => ⟨h.1, (hJ.later h.2).keep (by decide)⟩)
    | 30, _, hr, got => exact stepw_val rfl (wanted_none rfl) (rune_build rfl (got 3 (by decide) 10 rfl (by decide)) (got 7 (by decide) 14 rfl (by decide)) (got 11 (by decide) 18 rfl (by decide)) (got 15 (by decide) 22 rfl (by decide)) (got 17 (by decide) 24 rfl (by decide)) (got 19 (by decide) 26 rfl (by decide)) (got 24 (by decide) 31 rfl (by decide)) (got 29 (by decide) 36 rfl (by decide)) w1) rfl (hJ.keep (by decide))
    | 31, _, hr, got =>
      refine step_skip rfl rfl (rune_st rfl s2 (got 30 (by decide) 37 rfl (by decide)) hJ.m) rfl rfl ?_
      exact hJ.stored
    | j + 32, hlt, _, _ => exact absurd hlt (by omega)
  case hdone =>
    intro l w' hall hJ
    have hz := hJ.i (hall 31 (by decide))
    have z0 := hz 0 _ rfl
    have z1 := hz 1 _ rfl
    have z2 := hz 2 _ rfl
    have z3 := hz 3 _ rfl
    have z4 := hz 4 _ rfl
    have z5 := hz 5 _ rfl
    have z6 := hz 6 _ rfl
    have z7 := hz 7 _ rfl
    have z8 := hz 8 _ rfl
    have z9 := hz 9 _ rfl
    have z10 := hz 10 _ rfl
    have z11 := hz 11 _ rfl
    have z12 := hz 12 _ rfl
    have z13 := hz 13 _ rfl
    have z14 := hz 14 _ rfl
    have hbel := hJ.bel
    clear hall hJ HJ hz
    simp only [putsOf, evD, evVal, Act.put, List.setIfInBounds_toArray, List.set_cons_zero, List.set_cons_succ]
    go_wp2
    exact bodyPost_ret (v := evV e) (by simp [results, Tryz.results21, go_sem, evV, z0, z1, z2, z3, z4, z5, z6, z7, z8, z9, z10, z11, z12, z13, z14]) rfl ⟨rfl, hbel⟩
end Go.Proofs.YtidemohpngkedabGreatDoor

namespace Go.Proofs.YtidemohpngkedabGreatDoor
open Go.RowKit
set_option linter.unusedVariables false
set_option maxRecDepth 100000
set_option linter.unusedSimpArgs false

/-- a row of effects that was handed out -/
theorem Told.cell {C : Nat} {w w' : World} {lab : Nat → Nat} {v : Value} {e1 : Em.St} (h : Told C w w' lab v e1) (i : Nat) (hi : i < e1.out.length) :
    ∃ g cap, v = .slice (some ⟨g, 0, none⟩) e1.out.length cap ∧ g < w'.heap.size ∧ w.heap.size ≤ g := by
  obtain ⟨a, cap, lab', rfl, ho, _⟩ := h
  rcases ho.2 with ⟨_, h0⟩ | ⟨g, c, cur, hv, hb, hgg, _⟩
  · omega
  · exact ⟨g, c, hv, (Array.getElem?_eq_some_iff.1 hgg).1, hb⟩
theorem Told.next {C : Nat} {w w' : World} {lab : Nat → Nat} {v : Value} {e1 : Em.St} (h : Told C w w' lab v e1) : ∃ lab', Ent C w' lab' { e1 with out := [] } ∧ Kept w w' (fun k => lab k ≠ 0) ∧ (∀ k, k < w.heap.size → lab' k = lab k) ∧ ∀ B, v.ownBlock = some B → lab' B = 0 := by
  obtain ⟨a, cap, lab', _, _, h1, h2, h3, h4⟩ := h
  exact ⟨lab', h1, h2, h3, h4⟩
theorem Told.row {C : Nat} {w w' : World} {lab : Nat → Nat} {v : Value} {e1 : Em.St} (h : Told C w w' lab v e1) : ∃ a cap, v = .slice a e1.out.length cap ∧ w'.ownsRow w.heap.size 57 11 v e1.out.length (effsL e1.out) := by
  obtain ⟨a, cap, lab', h1, h2, _⟩ := h
  exact ⟨a, cap, h1, h2⟩

namespace Em
def wk1 : St × Int := assign (new 7 3) 64
def wk1' : St := { wk1.1 with out := [] }
def wk2 : St × Int := ask wk1' 0 ByteArray.empty
def wk2' : St := { wk2.1 with out := [] }
def wkF : Fr := ⟨0, 0, false, 8, true, 0, 0, ByteArray.empty⟩
def wk3 : St := frame wk2' (may wkF) wkF
theorem wk_1 : wk1.2 = 0 := by decide
theorem wk_2 : wk2.2 = 0 := by decide
theorem wk_2l : wk2.1.out.length = 2 := by decide
theorem wk_3l : wk3.out.length = 3 := by decide
end Em

set_option maxHeartbeats 4000000 in
theorem ewakes_any (w : World) (hW : Ways w) :
    Calls Tryz.prog 11 #[] w fun r w' => r = .returned (.bool true) ∧ Below w.heap.size w w' := by
  have HW : Hid (Ways w) := hW
  clear hW
  go_enter Tryz.func11, Tryz.ntmps11
  go_wp2_with fail
  refine (enew_any 7 3 w (by omega) (by omega)).mono ?_
  rintro r w1 ⟨C, lab, rfl, hC, hE, hb1, hl1⟩
  have H1 : Hid (Ent C w1 lab (Em.new 7 3) ∧ Below w.heap.size w w1 ∧ (∀ k, k < w.heap.size → lab k = 0) ∧ w.heap.size ≤ C) := ⟨hE, hb1, hl1, hC⟩
  clear hE hb1 hl1 hC
  go_wp2_with fail
  refine (eassign_any C lab (Em.new 7 3) 64 w1 H1.out.1 (by omega) (by omega)).mono ?_
  rintro r w2 ⟨v1, rfl, ht1⟩
  have HT1 := (show Hid _ from ht1)
  rw [show (Em.assign (Em.new 7 3) 64).2 = 0 from Em.wk_1]
  clear ht1
  go_wp2_with fail
  obtain ⟨lab1, hE1, hk1, hl1, -⟩ := Told.next HT1.out
  have HE1 : Hid (Ent C w2 lab1 Em.wk1') := hE1
  have HB2 : Hid (Below w.heap.size w w2) := by
    have h := H1.out
    exact h.2.1.trans (hk1.below h.2.1.size (fun k hk => by
      rcases Nat.lt_or_ge k w.heap.size with h' | h'
      · exact absurd (h.2.2.1 k h') hk
      · exact h'))
  have HL1 : Hid (∀ k, k < w.heap.size → lab1 k = 0) := fun k hk => (hl1 k (Nat.lt_of_lt_of_le hk H1.out.2.1.size)).trans (H1.out.2.2.1 k hk)
  clear hE1 hk1 hl1 HT1 H1
  refine (eask_any C lab1 Em.wk1' 0 ByteArray.empty w2 HE1.out (by decide)).mono ?_
  rintro r w3 ⟨v2, rfl, ht2⟩
  rw [show (Em.ask Em.wk1' 0 ByteArray.empty).2 = 0 from Em.wk_2]
  have HT2 : Hid (Told C w2 w3 lab1 v2 Em.wk2.1) := ht2
  clear ht2
  go_wp2_with fail
  obtain ⟨lab2, hE2, hk2, hl2, hB2⟩ := Told.next HT2.out
  obtain ⟨a2, cap2, rfl, ho2⟩ := Told.row HT2.out
  have HE2 : Hid (Ent C w3 lab2 Em.wk2') := hE2
  have HB3 : Hid (Below w.heap.size w w3) := HB2.out.trans (hk2.below HB2.out.size (fun k hk => by
      rcases Nat.lt_or_ge k w.heap.size with h' | h'
      · exact absurd (HL1.out k h') hk
      · exact h'))
  have HL2 : Hid (∀ k, k < w.heap.size → lab2 k = 0) := fun k hk => (hl2 k (Nat.lt_of_lt_of_le hk HB2.out.size)).trans (HL1.out k hk)
  have HW3 : Hid (Ways w3) := HW.out.later HB3.out
  have hlen2 : Em.wk2.1.out.length = 2 := Em.wk_2l
  rw [hlen2] at ho2 ⊢
  have HO2 : Hid (w3.ownsRow w2.heap.size 57 11 (.slice a2 2 cap2) 2 (effsL Em.wk2.1.out)) := ho2
  have HB2' : Hid (∀ B, (Value.slice a2 2 cap2).ownBlock = some B → lab2 B = 0) := by rw [hlen2] at hB2; exact hB2
  clear hE2 hk2 hl2 hB2 ho2 hlen2 HT2 HE1 HL1 HB2
  have HF := eframe_any C lab2 Em.wk2' Em.wkF w3 HE2.out HW3.out (by decide) (by decide) (by decide) (by decide) (by decide)
  unfold frmV Em.wkF at HF
  go_wp2_with fail
  refine HF.mono ?_
  rintro r w4 ⟨v3, rfl, ht3⟩
  clear HF
  have ht3' : Told C w3 w4 lab2 v3 Em.wk3 := ht3
  obtain ⟨lab3, hE3, hk3, hl3, hB3⟩ := Told.next ht3'
  obtain ⟨a3, cap3, rfl, ho3⟩ := Told.row ht3'
  have hlen3 : Em.wk3.out.length = 3 := Em.wk_3l
  rw [hlen3] at ho3 ⊢
  have ho2 := hk3.owns HO2.out (fun k hk hx => hx (HB2'.out k hk))
  obtain ⟨g2, rfl, hg2⟩ : ∃ g, a2 = some ⟨g, 0, none⟩ ∧ g < w4.heap.size := by
    rcases ho2.2 with ⟨_, h0⟩ | ⟨g, c, cur, hv, _, hgg, _⟩
    · omega
    · injection hv with e1 _ _
      exact ⟨g, e1, (Array.getElem?_eq_some_iff.1 hgg).1⟩
  obtain ⟨g3, rfl, hg3⟩ : ∃ g, a3 = some ⟨g, 0, none⟩ ∧ g < w4.heap.size := by
    rcases ho3.2 with ⟨_, h0⟩ | ⟨g, c, cur, hv, _, hgg, _⟩
    · omega
    · injection hv with e1 _ _
      exact ⟨g, e1, (Array.getElem?_eq_some_iff.1 hgg).1⟩
  have x23 : w4.cell? ⟨g2, 4, none⟩ = some (.int .i64 4) := (ho2.cellAt 4 (by decide)).trans (by rfl)
  have x221 : w4.cell? ⟨g2, 21, none⟩ = some (.int .i64 200) := (ho2.cellAt 21 (by decide)).trans (by rfl)
  have x30 : w4.cell? ⟨g3, 0, none⟩ = some (.int .i64 2) := (ho3.cellAt 0 (by decide)).trans (by rfl)
  have x311 : w4.cell? ⟨g3, 11, none⟩ = some (.int .i64 10) := (ho3.cellAt 11 (by decide)).trans (by rfl)
  have x332 : w4.cell? ⟨g3, 32, none⟩ = some (.int .i64 203) := (ho3.cellAt 32 (by decide)).trans (by rfl)
  have HB4 : Hid (Below w.heap.size w w4) := HB3.out.trans (hk3.below HB3.out.size (fun k hk => by
      rcases Nat.lt_or_ge k w.heap.size with h' | h'
      · exact absurd (HL2.out k h') hk
      · exact h'))
  clear ht3 ht3' hE3 hk3 hl3 hB3 ho3 ho2 HO2 HB2' HB3 HL2 HW3 HW HE2
  go_wp2
  go_ret
  exact ⟨rfl, HB4.out⟩
end Go.Proofs.YtidemohpngkedabGreatDoor
