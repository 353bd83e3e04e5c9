/-
  A flow in the world: the program's (seven cells, and the queue behind them), the document's (seven cells, and a pointer to its queue); what a call leaves of it.
-/
import Derived.Test.YtidemohpngkedabGreatDoorQoRow
import Derived.Test.YtidemohpngkedabGreatDoorFlowMath
namespace Go.Proofs.YtidemohpngkedabGreatDoor
open Go.RowKit
set_option linter.unusedVariables false
set_option maxRecDepth 100000
set_option linter.unusedSimpArgs false

def fval (σ : Wm.St) : Nat → Value
  | 0 => .int .i64 σ.vs
  | 1 => .int .i64 σ.va
  | 2 => .int .i64 σ.vr
  | 3 => .bool σ.pe
  | 4 => .bool σ.ow
  | 5 => .bool σ.re
  | _ => .int .i64 σ.k

/-- the seven cells of both -/
def Fr7 (w : World) (C : Nat) (σ : Wm.St) : Prop := ∀ j, j < 7 → w.cell? ⟨C, j, none⟩ = some (fval σ j) ∧ w.frozen? ⟨C, j, none⟩ = false
section
variable {w w' : World} {C : Nat} {σ σ' : Wm.St}
theorem Fr7.c0 (h : Fr7 w C σ) : w.cell? ⟨C, 0, none⟩ = some (.int .i64 σ.vs) := (h 0 (by decide)).1
theorem Fr7.c1 (h : Fr7 w C σ) : w.cell? ⟨C, 1, none⟩ = some (.int .i64 σ.va) := (h 1 (by decide)).1
theorem Fr7.c2 (h : Fr7 w C σ) : w.cell? ⟨C, 2, none⟩ = some (.int .i64 σ.vr) := (h 2 (by decide)).1
theorem Fr7.c3 (h : Fr7 w C σ) : w.cell? ⟨C, 3, none⟩ = some (.bool σ.pe) := (h 3 (by decide)).1
theorem Fr7.c4 (h : Fr7 w C σ) : w.cell? ⟨C, 4, none⟩ = some (.bool σ.ow) := (h 4 (by decide)).1
theorem Fr7.c5 (h : Fr7 w C σ) : w.cell? ⟨C, 5, none⟩ = some (.bool σ.re) := (h 5 (by decide)).1
theorem Fr7.c6 (h : Fr7 w C σ) : w.cell? ⟨C, 6, none⟩ = some (.int .i64 σ.k) := (h 6 (by decide)).1
theorem Fr7.f (h : Fr7 w C σ) (j : Nat) (hj : j < 7) : w.frozen? ⟨C, j, none⟩ = false := (h j hj).2
theorem Fr7.front (h : Fr7 w C σ) (hf : Front w w' C) : Fr7 w' C σ := fun j hj => ⟨(hf j hj).1.trans (h j hj).1, (hf j hj).2.trans (h j hj).2⟩
theorem Fr7.kept {T : Nat → Prop} (h : Fr7 w C σ) (hk : Kept w w' T) (hC : C < w.heap.size) (hT : ¬ T C) : Fr7 w' C σ := h.front (Front.of_kept hk hC hT)
theorem Fr7.as (h : Fr7 w C σ) (he : ∀ j, j < 7 → fval σ' j = fval σ j) : Fr7 w C σ' := fun j hj => ⟨by rw [he j hj]; exact (h j hj).1, (h j hj).2⟩
theorem Fr7.set (h : Fr7 w C σ) (j : Nat) (hj : j < 7) (v : Value) (he : ∀ i, i < 7 → fval σ' i = if i = j then v else fval σ i) : Fr7 (w.setCell ⟨C, j, none⟩ v) C σ' := by
  intro i hi
  refine ⟨?_, by rw [World.frozen?_setCell]; exact (h i hi).2⟩
  rw [he i hi]
  by_cases e : i = j
  · subst e
    rw [if_pos rfl]
    exact World.cell?_setCell_same' w ⟨C, i, none⟩ _ (by rw [(h i hi).1]; rfl)
  · rw [if_neg e, World.cell?_setCell_other w _ _ _ (fun h => by injection h with _ h2; omega)]
    exact (h i hi).1
end
/-- seven cases -/
theorem seven {P : Nat → Prop} (h0 : P 0) (h1 : P 1) (h2 : P 2) (h3 : P 3) (h4 : P 4) (h5 : P 5) (h6 : P 6) : ∀ i, i < 7 → P i := by
  intro i hi
  match i, hi with
  | 0, _ => exact h0
  | 1, _ => exact h1
  | 2, _ => exact h2
  | 3, _ => exact h3
  | 4, _ => exact h4
  | 5, _ => exact h5
  | 6, _ => exact h6

/-! ### the program's -/
structure Fl (w : World) (C : Nat) (G : Option Nat) (σ : Wm.St) : Prop where
  fr : Fr7 w C σ
  qu : Qo w C G σ.mo σ.L σ.sn
/-- a flow that was is now so, and nothing else is turned -/
def Mvf (w w' : World) (C : Nat) (G : Option Nat) (σ' : Wm.St) : Prop :=
  ∃ G', Fl w' C G' σ' ∧ Kept w w' (qtch C G) ∧ ∀ B, G' = some B → G = some B ∨ w.heap.size ≤ B
section
variable {w w' w1 w2 : World} {C : Nat} {G : Option Nat} {σ σ' : Wm.St}
theorem Fl.lt (h : Fl w C G σ) : C < w.heap.size := h.qu.lt
theorem Fl.kept {T : Nat → Prop} (h : Fl w C G σ) (hk : Kept w w' T) (hC : ¬ T C) (hG : ∀ B, G = some B → ¬ T B) : Fl w' C G σ := ⟨h.fr.kept hk h.lt hC, h.qu.kept hk hC hG⟩
theorem Fl.below (h : Fl w C G σ) (hb : Below w.heap.size w w') : Fl w' C G σ := h.kept (T := fun _ => False) (Kept.of_below hb (fun k hk h' => by omega)) (fun x => x) (fun _ _ x => x)
theorem Fl.tlt (h : Fl w C G σ) {k : Nat} (hk : qtch C G k) : k < w.heap.size := h.qu.tlt hk
theorem Fl.same (h : Fl w C G σ) (hb : Below w.heap.size w w') : Mvf w w' C G σ := ⟨G, h.below hb, Kept.of_below hb (fun k hk h' => by omega), fun B hB => Or.inl hB⟩
theorem Mvf.ahead (hb : Below w.heap.size w w1) (h : Mvf w1 w2 C G σ) : Mvf w w2 C G σ := by
  obtain ⟨m', hc, hk, hf⟩ := h
  refine ⟨m', hc, (Kept.of_below (T := qtch C G) hb (fun k hk h' => by omega)).trans hk (fun k _ h => h), fun B hB => ?_⟩
  rcases hf B hB with h' | h'
  · exact Or.inl h'
  · exact Or.inr (Nat.le_trans hb.size h')
theorem Mvf.then (h : Mvf w w1 C G σ) (hb : Below w1.heap.size w1 w2) : Mvf w w2 C G σ := by
  obtain ⟨m', hc, hk, hf⟩ := h
  exact ⟨m', hc.below hb, hk.trans (T' := fun _ => False) (Kept.of_below hb (fun k hk h' => by omega)) (fun _ _ h => h.elim), hf⟩
theorem Mvf.on {G1 : Option Nat} (hk : Kept w w1 (qtch C G)) (hf : ∀ B, G1 = some B → G = some B ∨ w.heap.size ≤ B) (h2 : Mvf w1 w2 C G1 σ') : Mvf w w2 C G σ' := by
  obtain ⟨G2, hq2, hk2, hf2⟩ := h2
  refine ⟨G2, hq2, hk.trans hk2 (fun k hk' ht => ?_), fun B hB => ?_⟩
  · rcases ht with rfl | ht
    · exact Or.inl rfl
    · rcases hf k ht with h' | h'
      · exact Or.inr h'
      · omega
  · rcases hf2 B hB with h' | h'
    · exact hf B h'
    · exact Or.inr (Nat.le_trans hk.size h')
theorem Mvf.trans (h : Mvf w w1 C G σ) (h2 : ∀ G1, Fl w1 C G1 σ → Mvf w1 w2 C G1 σ') : Mvf w w2 C G σ' := by
  obtain ⟨G1, hq, hk, hf⟩ := h
  exact Mvf.on hk hf (h2 G1 hq)
/-- a call of it where it stands now -/
theorem Mvf.call {f : Nat} {args : Array Value} {E : Ending} (h : Mvf w w1 C G σ) (h2 : ∀ G1, Fl w1 C G1 σ → Calls Tryz.prog f args w1 fun e w' => e = E ∧ Mvf w1 w' C G1 σ') : Calls Tryz.prog f args w1 fun e w' => e = E ∧ Mvf w w' C G σ' := by
  obtain ⟨G1, hq, hk, hf⟩ := h
  exact (h2 G1 hq).mono fun e w' hx => ⟨hx.1, Mvf.on hk hf hx.2⟩
theorem Fl.queue {L' : List ByteArray} {sn' : Nat} (h : Fl w C G σ) (hm : Mvo w w1 C G σ.mo L' sn') : Mvf w w1 C G { σ with L := L', sn := sn' } := by
  obtain ⟨G', hq, hk, hf, hr⟩ := hm
  exact ⟨G', ⟨(h.fr.front hr).as (fun j hj => seven (P := fun j => fval { σ with L := L', sn := sn' } j = fval σ j) rfl rfl rfl rfl rfl rfl rfl j hj), hq⟩, hk, hf⟩
theorem Qo.setFront {mo : Int} {L : List ByteArray} {sn : Nat} (h : Qo w C G mo L sn) (j : Nat) (hj : j < 7) (v : Value) : Qo (w.setCell ⟨C, j, none⟩ v) C G mo L sn := by
  have hk1 : Kept w (w.setCell ⟨C, j, none⟩ v) (fun k => k = C) := (Kept.refl w (fun k => k = C)).setCell (p := ⟨C, j, none⟩) (fun _ => rfl) _
  obtain ⟨a, cap, h1, h2⟩ := h.c1
  refine ⟨Nat.lt_of_lt_of_le h.lt hk1.size, ?_, ⟨a, cap, ?_, h2.kept hk1 (fun B hB e => h.ne (by rw [hB, e]))⟩, ?_, ?_, ?_, ?_, h.ne, h.sn, h.len, h.size⟩
  · rw [World.cell?_setCell_other w _ _ _ (fun h => by injection h with _ h2; omega)]; exact h.c0
  · rw [World.cell?_setCell_other w _ _ _ (fun h => by injection h with _ h2; omega)]; exact h1
  · rw [World.cell?_setCell_other w _ _ _ (fun h => by injection h with _ h2; omega)]; exact h.c2
  · rw [World.frozen?_setCell]; exact h.f0
  · rw [World.frozen?_setCell]; exact h.f1
  · rw [World.frozen?_setCell]; exact h.f2
theorem Fl.set (h : Fl w C G σ) (j : Nat) (hj : j < 7) (v : Value) (he : ∀ i, i < 7 → fval σ' i = if i = j then v else fval σ i) (hm : σ'.mo = σ.mo) (hL : σ'.L = σ.L) (hs : σ'.sn = σ.sn) : Mvf w (w.setCell ⟨C, j, none⟩ v) C G σ' :=
  ⟨G, ⟨h.fr.set j hj v he, by rw [hm, hL, hs]; exact h.qu.setFront j hj v⟩, (Kept.refl w _).setCell (p := ⟨C, j, none⟩) (fun _ => Or.inl rfl) _, fun B hB => Or.inl hB⟩
end

/-! ### the document's -/
structure Rf (w : World) (R D : Nat) (H : Option Nat) (σ : Wm.St) : Prop where
  fr : Fr7 w R σ
  lt : R < w.heap.size
  c7 : w.cell? ⟨R, 7, none⟩ = some (.pointer (some ⟨D, 0, none⟩))
  qu : Qu w D H (Qm.takes σ.mo : Nat) σ.L σ.sn
  ne : R ≠ D
  nh : H ≠ some R
/-- what its functions may turn -/
def rtch (R D : Nat) (H : Option Nat) (k : Nat) : Prop := k = R ∨ k = D ∨ H = some k
def Mvr (w w' : World) (R D : Nat) (H : Option Nat) (σ' : Wm.St) : Prop :=
  ∃ H', Rf w' R D H' σ' ∧ Kept w w' (rtch R D H) ∧ ∀ B, H' = some B → H = some B ∨ w.heap.size ≤ B
section
variable {w w' w1 w2 : World} {R D : Nat} {H : Option Nat} {σ σ' : Wm.St}
theorem Rf.kept {T : Nat → Prop} (h : Rf w R D H σ) (hk : Kept w w' T) (hT : ∀ k, rtch R D H k → ¬ T k) : Rf w' R D H σ :=
  ⟨h.fr.kept hk h.lt (hT R (Or.inl rfl)), Nat.lt_of_lt_of_le h.lt hk.size, (hk.cell (p := ⟨R, 7, none⟩) h.lt (hT R (Or.inl rfl))).trans h.c7, h.qu.kept hk (hT D (Or.inr (Or.inl rfl))) (fun B hB => hT B (Or.inr (Or.inr hB))), h.ne, h.nh⟩
theorem Rf.below (h : Rf w R D H σ) (hb : Below w.heap.size w w') : Rf w' R D H σ := h.kept (T := fun _ => False) (Kept.of_below hb (fun k hk h' => by omega)) (fun _ _ x => x)
theorem Rf.tlt (h : Rf w R D H σ) {k : Nat} (hk : rtch R D H k) : k < w.heap.size := by
  rcases hk with rfl | hk
  · exact h.lt
  · exact h.qu.tlt hk
theorem Rf.same (h : Rf w R D H σ) (hb : Below w.heap.size w w') : Mvr w w' R D H σ := ⟨H, h.below hb, Kept.of_below hb (fun k hk h' => by omega), fun B hB => Or.inl hB⟩
theorem Mvr.ahead (hb : Below w.heap.size w w1) (h : Mvr w1 w2 R D H σ) : Mvr w w2 R D H σ := by
  obtain ⟨m', hc, hk, hf⟩ := h
  refine ⟨m', hc, (Kept.of_below (T := rtch R D H) hb (fun k hk h' => by omega)).trans hk (fun k _ h => h), fun B hB => ?_⟩
  rcases hf B hB with h' | h'
  · exact Or.inl h'
  · exact Or.inr (Nat.le_trans hb.size h')
theorem Mvr.then (h : Mvr w w1 R D H σ) (hb : Below w1.heap.size w1 w2) : Mvr w w2 R D H σ := by
  obtain ⟨m', hc, hk, hf⟩ := h
  exact ⟨m', hc.below hb, hk.trans (T' := fun _ => False) (Kept.of_below hb (fun k hk h' => by omega)) (fun _ _ h => h.elim), hf⟩
theorem Mvr.on {G1 : Option Nat} (hk : Kept w w1 (rtch R D H)) (hf : ∀ B, G1 = some B → H = some B ∨ w.heap.size ≤ B) (h2 : Mvr w1 w2 R D G1 σ') : Mvr w w2 R D H σ' := by
  obtain ⟨G2, hq2, hk2, hf2⟩ := h2
  refine ⟨G2, hq2, hk.trans hk2 (fun k hk' ht => ?_), fun B hB => ?_⟩
  · rcases ht with rfl | rfl | ht
    · exact Or.inl rfl
    · exact Or.inr (Or.inl rfl)
    · rcases hf k ht with h' | h'
      · exact Or.inr (Or.inr h')
      · omega
  · rcases hf2 B hB with h' | h'
    · exact hf B h'
    · exact Or.inr (Nat.le_trans hk.size h')
theorem Mvr.trans (h : Mvr w w1 R D H σ) (h2 : ∀ H1, Rf w1 R D H1 σ → Mvr w1 w2 R D H1 σ') : Mvr w w2 R D H σ' := by
  obtain ⟨G1, hq, hk, hf⟩ := h
  exact Mvr.on hk hf (h2 G1 hq)
theorem Mvr.call {f : Nat} {args : Array Value} {E : Ending} (h : Mvr w w1 R D H σ) (h2 : ∀ H1, Rf w1 R D H1 σ → Calls Tryz.prog f args w1 fun e w' => e = E ∧ Mvr w1 w' R D H1 σ') : Calls Tryz.prog f args w1 fun e w' => e = E ∧ Mvr w w' R D H σ' := by
  obtain ⟨G1, hq, hk, hf⟩ := h
  exact (h2 G1 hq).mono fun e w' hx => ⟨hx.1, Mvr.on hk hf hx.2⟩
theorem Rf.queue {L' : List ByteArray} {sn' : Nat} (h : Rf w R D H σ) (hm : Mvq w w1 D H (Qm.takes σ.mo : Nat) L' sn') : Mvr w w1 R D H { σ with L := L', sn := sn' } := by
  obtain ⟨H', hq, hk, hf⟩ := hm
  have hT : ¬ qtch D H R := by
    rintro (e | e)
    · exact h.ne e
    · exact h.nh e
  refine ⟨H', ⟨(h.fr.kept hk h.lt hT).as (fun j hj => seven (P := fun j => fval { σ with L := L', sn := sn' } j = fval σ j) rfl rfl rfl rfl rfl rfl rfl j hj), Nat.lt_of_lt_of_le h.lt hk.size, (hk.cell (p := ⟨R, 7, none⟩) h.lt hT).trans h.c7, hq, h.ne, fun e => ?_⟩, hk.mono (fun k _ e => Or.inr e), hf⟩
  rcases hf R e with h' | h'
  · exact h.nh h'
  · have := h.lt; omega
theorem Rf.set (h : Rf w R D H σ) (j : Nat) (hj : j < 7) (v : Value) (he : ∀ i, i < 7 → fval σ' i = if i = j then v else fval σ i) (hm : σ'.mo = σ.mo) (hL : σ'.L = σ.L) (hs : σ'.sn = σ.sn) : Mvr w (w.setCell ⟨R, j, none⟩ v) R D H σ' := by
  have hk1 : Kept w (w.setCell ⟨R, j, none⟩ v) (fun k => k = R) := (Kept.refl w (fun k => k = R)).setCell (p := ⟨R, j, none⟩) (fun _ => rfl) _
  refine ⟨H, ⟨h.fr.set j hj v he, Nat.lt_of_lt_of_le h.lt hk1.size, ?_, ?_, h.ne, h.nh⟩, hk1.mono (fun k _ e => Or.inl e), fun B hB => Or.inl hB⟩
  · rw [World.cell?_setCell_other w _ _ _ (fun h => by injection h with _ h2; omega)]; exact h.c7
  · rw [hm, hL, hs]
    exact h.qu.kept hk1 (fun e => h.ne e.symm) (fun B hB e => h.nh (by rw [hB, e]))
end
end Go.Proofs.YtidemohpngkedabGreatDoor
