/-
  The document's entity in the world: its cells, its flow, its units, what it told; what each small step leaves of it.
  The walks of the document's entity: what it tells, sends; its timers.
  The walk of the document's send.
  The walks of the document's small functions over sends and timers.
  The walks of the document's goOn, open, count.
  The walks of the document's inAssigned, inConnecting, inReleasing, again.
  The walk of the document's Timeout.
-/
import Derived.Test.YtidemohpngkedabGreatDoorEntWorld
import Derived.Test.YtidemohpngkedabGreatDoorEntStep
import Derived.Test.YtidemohpngkedabGreatDoorFlowRef
import Derived.Deep.LoopGhost
namespace Go.Proofs.YtidemohpngkedabGreatDoor
open Go.RowKit
set_option linter.unusedVariables false
set_option maxRecDepth 100000
set_option linter.unusedSimpArgs false

theorem reff_info : (Tryz.prog.info? 135).map (fun i => (i.zero, i.size, i.bytes)) = some (some (effV ⟨0, Em.fr0, ByteArray.empty, 0⟩), 11, 104) := by kernel_rfl

structure RCs (R : Nat) (w : World) (e : Em.St) : Prop where
  lt : R < w.heap.size
  c0 : w.cell? ⟨R, 0, none⟩ = some (.int .i64 e.most)
  c1 : w.cell? ⟨R, 1, none⟩ = some (.int .i64 e.state)
  c2 : w.cell? ⟨R, 2, none⟩ = some (.int .i64 e.tei)
  c3 : w.cell? ⟨R, 3, none⟩ = some (.int .i64 e.tries)
  c4 : w.cell? ⟨R, 4, none⟩ = some (.bool e.asked)
  c5 : w.cell? ⟨R, 5, none⟩ = some (.bool e.t200)
  c6 : w.cell? ⟨R, 6, none⟩ = some (.bool e.t203)
  f : ∀ j, j < 10 → w.frozen? ⟨R, j, none⟩ = false
def RFl (R : Nat) (w : World) (lab : Nat → Nat) (σ : Wm.St) : Prop := ∃ F D H, w.cell? ⟨R, 8, none⟩ = some (.pointer (some ⟨F, 0, none⟩)) ∧ Rf w F D H σ ∧ ∀ k, rtch F D H k → lab k = 2
def RUn (R : Nat) (w : World) (lab : Nat → Nat) (L : List ByteArray) : Prop := ∃ a cap U, w.cell? ⟨R, 7, none⟩ = some (.slice a L.length cap) ∧ SRow w a cap U L ∧ ∀ B, U = some B → lab B = 4
def ROt (R : Nat) (w : World) (lab : Nat → Nat) (l : List Em.Eff) : Prop := ∃ a cap, w.cell? ⟨R, 9, none⟩ = some (.slice a l.length cap) ∧ w.ownsRow 0 135 11 (.slice a l.length cap) l.length (effsL l) ∧ ∀ B, (Value.slice a l.length cap).ownBlock = some B → lab B = 5
/-- the document's entity -/
structure Rn (R : Nat) (w : World) (lab : Nat → Nat) (e : Em.St) : Prop where
  cs : RCs R w e
  lR : lab R = 1
  fl : RFl R w lab e.fl
  un : RUn R w lab e.units
  ot : ROt R w lab e.out

section
variable {R : Nat} {w w' : World} {lab lab' : Nat → Nat} {e : Em.St} {T : Nat → Prop}
theorem RCs.kept (h : RCs R w e) (hk : Kept w w' T) (hT : ¬ T R) : RCs R w' e := by
  have hc : ∀ j, w'.cell? ⟨R, j, none⟩ = w.cell? ⟨R, j, none⟩ := fun j => hk.cell (p := ⟨R, j, none⟩) h.lt hT
  exact ⟨Nat.lt_of_lt_of_le h.lt hk.size, (hc 0).trans h.c0, (hc 1).trans h.c1, (hc 2).trans h.c2, (hc 3).trans h.c3, (hc 4).trans h.c4, (hc 5).trans h.c5, (hc 6).trans h.c6, fun j hj => (hk.frozen (p := ⟨R, j, none⟩) h.lt hT).trans (h.f j hj)⟩
theorem RCs.as {e' : Em.St} (h : RCs R w e) (h0 : e'.most = e.most) (h1 : e'.state = e.state) (h2 : e'.tei = e.tei) (h3 : e'.tries = e.tries) (h4 : e'.asked = e.asked) (h5 : e'.t200 = e.t200) (h6 : e'.t203 = e.t203) : RCs R w e' :=
  ⟨h.lt, by rw [h0]; exact h.c0, by rw [h1]; exact h.c1, by rw [h2]; exact h.c2, by rw [h3]; exact h.c3, by rw [h4]; exact h.c4, by rw [h5]; exact h.c5, by rw [h6]; exact h.c6, h.f⟩
/-- a store into one of the seven, or elsewhere -/
theorem RCs.set {e' : Em.St} (h : RCs R w e) (j : Nat) (v : Value) (h0 : 0 ≠ j → e'.most = e.most) (h1 : 1 ≠ j → e'.state = e.state) (h2 : 2 ≠ j → e'.tei = e.tei) (h3 : 3 ≠ j → e'.tries = e.tries) (h4 : 4 ≠ j → e'.asked = e.asked) (h5 : 5 ≠ j → e'.t200 = e.t200) (h6 : 6 ≠ j → e'.t203 = e.t203)
    (g0 : j = 0 → v = .int .i64 e'.most) (g1 : j = 1 → v = .int .i64 e'.state) (g2 : j = 2 → v = .int .i64 e'.tei) (g3 : j = 3 → v = .int .i64 e'.tries) (g4 : j = 4 → v = .bool e'.asked) (g5 : j = 5 → v = .bool e'.t200) (g6 : j = 6 → v = .bool e'.t203) : RCs R (w.setCell ⟨R, j, none⟩ v) e' := by
  have hs : ∀ i u, w.cell? ⟨R, i, none⟩ = some u → j = i → (w.setCell ⟨R, j, none⟩ v).cell? ⟨R, i, none⟩ = some v := by
    intro i u hu hj
    subst hj
    exact World.cell?_setCell_same' w ⟨R, j, none⟩ _ (by rw [hu]; rfl)
  have ho : ∀ i u u', w.cell? ⟨R, i, none⟩ = some u → (i ≠ j → u' = u) → (j = i → v = u') → (w.setCell ⟨R, j, none⟩ v).cell? ⟨R, i, none⟩ = some u' := by
    intro i u u' hu hne heq
    by_cases hj : j = i
    · rw [hs i u hu hj, heq hj]
    · rw [cell_oth w R (fun hx => hj hx.symm) v, hu, hne (fun hx => hj hx.symm)]
  refine ⟨by simpa [World.setCell] using h.lt, ho 0 _ _ h.c0 (fun hx => by rw [h0 hx]) g0, ho 1 _ _ h.c1 (fun hx => by rw [h1 hx]) g1, ho 2 _ _ h.c2 (fun hx => by rw [h2 hx]) g2, ho 3 _ _ h.c3 (fun hx => by rw [h3 hx]) g3, ho 4 _ _ h.c4 (fun hx => by rw [h4 hx]) g4, ho 5 _ _ h.c5 (fun hx => by rw [h5 hx]) g5, ho 6 _ _ h.c6 (fun hx => by rw [h6 hx]) g6, fun i hi => by rw [World.frozen?_setCell]; exact h.f i hi⟩
theorem RFl.kept {σ : Wm.St} (h : RFl R w lab σ) (hR : R < w.heap.size) (hk : Kept w w' T) (hT : ¬ T R) (hl : ∀ k, k < w.heap.size → lab k = 2 → ¬ T k ∧ lab' k = 2) : RFl R w' lab' σ := by
  obtain ⟨F, D, H, h1, h2, h3⟩ := h
  exact ⟨F, D, H, (hk.cell (p := ⟨R, 8, none⟩) hR hT).trans h1, h2.kept hk (fun k hx => (hl k (h2.tlt hx) (h3 k hx)).1), fun k hx => (hl k (h2.tlt hx) (h3 k hx)).2⟩
theorem RUn.kept {L : List ByteArray} (h : RUn R w lab L) (hR : R < w.heap.size) (hk : Kept w w' T) (hT : ¬ T R) (hl : ∀ k, k < w.heap.size → lab k = 4 → ¬ T k ∧ lab' k = 4) : RUn R w' lab' L := by
  obtain ⟨a, cap, U, h1, h2, h3⟩ := h
  exact ⟨a, cap, U, (hk.cell (p := ⟨R, 7, none⟩) hR hT).trans h1, h2.kept hk (fun B hB => (hl B (h2.lt hB) (h3 B hB)).1), fun B hB => (hl B (h2.lt hB) (h3 B hB)).2⟩
theorem ROt.kept {l : List Em.Eff} (h : ROt R w lab l) (hR : R < w.heap.size) (hk : Kept w w' T) (hT : ¬ T R) (hl : ∀ k, k < w.heap.size → lab k = 5 → ¬ T k ∧ lab' k = 5) : ROt R w' lab' l := by
  obtain ⟨a, cap, h1, h2, h3⟩ := h
  exact ⟨a, cap, (hk.cell (p := ⟨R, 9, none⟩) hR hT).trans h1, hk.owns h2 (fun B hB => (hl B (owns_blt h2 hB) (h3 B hB)).1), fun B hB => (hl B (owns_blt h2 hB) (h3 B hB)).2⟩
theorem Rn.kept (h : Rn R w lab e) (hk : Kept w w' T) (hT : ∀ k, k < w.heap.size → lab k ≠ 0 → ¬ T k) (hl : ∀ k, k < w.heap.size → lab' k = lab k) : Rn R w' lab' e := by
  have hR : ¬ T R := hT R h.cs.lt (by rw [h.lR]; decide)
  have hx : ∀ l, l ≠ 0 → ∀ k, k < w.heap.size → lab k = l → ¬ T k ∧ lab' k = l := fun l h0 k hlt he => ⟨hT k hlt (by rw [he]; exact h0), by rw [hl k hlt]; exact he⟩
  exact ⟨h.cs.kept hk hR, by rw [hl R h.cs.lt]; exact h.lR, h.fl.kept h.cs.lt hk hR (hx 2 (by decide)), h.un.kept h.cs.lt hk hR (hx 4 (by decide)), h.ot.kept h.cs.lt hk hR (hx 5 (by decide))⟩
theorem Rn.below (h : Rn R w lab e) (hb : Below w.heap.size w w') : Rn R w' lab e :=
  h.kept (T := fun _ => False) (Kept.of_below hb (fun k hk h' => by omega)) (fun _ _ _ x => x) (fun _ _ => rfl)
theorem Rn.relab (h : Rn R w lab e) (hl : ∀ k, k < w.heap.size → lab' k = lab k) : Rn R w lab' e :=
  h.kept (T := fun _ => False) (Kept.refl w _) (fun _ _ _ x => x) hl
theorem Rn.same (h : Rn R w lab e) (hb : Below w.heap.size w w') : Mv (Rn R) w w' lab e :=
  ⟨lab, h.below hb, Kept.of_below hb (fun k hk h' => by omega), fun _ _ => rfl⟩
theorem Rn.ahead {w1 w2 : World} (hb : Below w.heap.size w w1) (h : Mv (Rn R) w1 w2 lab e) : Mv (Rn R) w w2 lab e :=
  Mv.on (Kept.of_below hb (fun k hk h' => by omega)) (fun _ _ => rfl) h
theorem Rn.thenB {w1 w2 : World} (h : Mv (Rn R) w w1 lab e) (hb : Below w1.heap.size w1 w2) : Mv (Rn R) w w2 lab e :=
  h.trans fun lab1 h1 => h1.same hb

/-! ### stores into its own cells -/
theorem RFl.oth {σ : Wm.St} (h : RFl R w lab σ) (hl : lab R = 1) (j : Nat) (hj : j ≠ 8) (v : Value) : RFl R (w.setCell ⟨R, j, none⟩ v) lab σ := by
  obtain ⟨F, D, H, h1, h2, h3⟩ := h
  exact ⟨F, D, H, (cell_oth w R (Ne.symm hj) v).trans h1, h2.kept (kept_cell w R j v) (fun k hx he => by have := h3 k hx; rw [he] at this; omega), h3⟩
theorem RUn.oth {L : List ByteArray} (h : RUn R w lab L) (hl : lab R = 1) (j : Nat) (hj : j ≠ 7) (v : Value) : RUn R (w.setCell ⟨R, j, none⟩ v) lab L := by
  obtain ⟨a, cap, U, h1, h2, h3⟩ := h
  exact ⟨a, cap, U, (cell_oth w R (Ne.symm hj) v).trans h1, h2.kept (kept_cell w R j v) (fun B hB x => by subst x; have := h3 _ hB; omega), h3⟩
theorem ROt.oth {l : List Em.Eff} (h : ROt R w lab l) (hl : lab R = 1) (j : Nat) (hj : j ≠ 9) (v : Value) : ROt R (w.setCell ⟨R, j, none⟩ v) lab l := by
  obtain ⟨a, cap, h1, h2, h3⟩ := h
  exact ⟨a, cap, (cell_oth w R (Ne.symm hj) v).trans h1, (kept_cell w R j v).owns h2 (fun B hB x => by subst x; have := h3 _ hB; omega), h3⟩
theorem Rn.moved {e' : Em.St} {j : Nat} {v : Value} (h : Rn R w lab e) (h' : Rn R (w.setCell ⟨R, j, none⟩ v) lab e') : Mv (Rn R) w (w.setCell ⟨R, j, none⟩ v) lab e' :=
  ⟨lab, h', (kept_cell w R j v).mono (fun k _ x => by subst x; rw [h.lR]; decide), fun _ _ => rfl⟩
/-- one of the seven -/
theorem Rn.set7 {e' : Em.St} (h : Rn R w lab e) (j : Nat) (hj : j < 7) (v : Value) (hc : RCs R (w.setCell ⟨R, j, none⟩ v) e') (h1 : e'.fl = e.fl) (h2 : e'.units = e.units) (h3 : e'.out = e.out) : Mv (Rn R) w (w.setCell ⟨R, j, none⟩ v) lab e' :=
  h.moved ⟨hc, h.lR, by rw [h1]; exact h.fl.oth h.lR j (by omega) v, by rw [h2]; exact h.un.oth h.lR j (by omega) v, by rw [h3]; exact h.ot.oth h.lR j (by omega) v⟩
theorem Rn.setState (h : Rn R w lab e) (s : Int) : Mv (Rn R) w (w.setCell ⟨R, 1, none⟩ (.int .i64 s)) lab { e with state := s } :=
  h.set7 1 (by decide) _ (h.cs.set 1 _ (fun _ => rfl) (fun hx => absurd rfl hx) (fun _ => rfl) (fun _ => rfl) (fun _ => rfl) (fun _ => rfl) (fun _ => rfl) (fun hx => by omega) (fun _ => rfl) (fun hx => by omega) (fun hx => by omega) (fun hx => by omega) (fun hx => by omega) (fun hx => by omega)) rfl rfl rfl
theorem Rn.setTei (h : Rn R w lab e) (s : Int) : Mv (Rn R) w (w.setCell ⟨R, 2, none⟩ (.int .i64 s)) lab { e with tei := s } :=
  h.set7 2 (by decide) _ (h.cs.set 2 _ (fun _ => rfl) (fun _ => rfl) (fun hx => absurd rfl hx) (fun _ => rfl) (fun _ => rfl) (fun _ => rfl) (fun _ => rfl) (fun hx => by omega) (fun hx => by omega) (fun _ => rfl) (fun hx => by omega) (fun hx => by omega) (fun hx => by omega) (fun hx => by omega)) rfl rfl rfl
theorem Rn.setTries (h : Rn R w lab e) (s : Int) : Mv (Rn R) w (w.setCell ⟨R, 3, none⟩ (.int .i64 s)) lab { e with tries := s } :=
  h.set7 3 (by decide) _ (h.cs.set 3 _ (fun _ => rfl) (fun _ => rfl) (fun _ => rfl) (fun hx => absurd rfl hx) (fun _ => rfl) (fun _ => rfl) (fun _ => rfl) (fun hx => by omega) (fun hx => by omega) (fun hx => by omega) (fun _ => rfl) (fun hx => by omega) (fun hx => by omega) (fun hx => by omega)) rfl rfl rfl
theorem Rn.setAsked (h : Rn R w lab e) (s : Bool) : Mv (Rn R) w (w.setCell ⟨R, 4, none⟩ (.bool s)) lab { e with asked := s } :=
  h.set7 4 (by decide) _ (h.cs.set 4 _ (fun _ => rfl) (fun _ => rfl) (fun _ => rfl) (fun _ => rfl) (fun hx => absurd rfl hx) (fun _ => rfl) (fun _ => rfl) (fun hx => by omega) (fun hx => by omega) (fun hx => by omega) (fun hx => by omega) (fun _ => rfl) (fun hx => by omega) (fun hx => by omega)) rfl rfl rfl
theorem Rn.set200 (h : Rn R w lab e) (s : Bool) : Mv (Rn R) w (w.setCell ⟨R, 5, none⟩ (.bool s)) lab { e with t200 := s } :=
  h.set7 5 (by decide) _ (h.cs.set 5 _ (fun _ => rfl) (fun _ => rfl) (fun _ => rfl) (fun _ => rfl) (fun _ => rfl) (fun hx => absurd rfl hx) (fun _ => rfl) (fun hx => by omega) (fun hx => by omega) (fun hx => by omega) (fun hx => by omega) (fun hx => by omega) (fun _ => rfl) (fun hx => by omega)) rfl rfl rfl
theorem Rn.set203 (h : Rn R w lab e) (s : Bool) : Mv (Rn R) w (w.setCell ⟨R, 6, none⟩ (.bool s)) lab { e with t203 := s } :=
  h.set7 6 (by decide) _ (h.cs.set 6 _ (fun _ => rfl) (fun _ => rfl) (fun _ => rfl) (fun _ => rfl) (fun _ => rfl) (fun _ => rfl) (fun hx => absurd rfl hx) (fun hx => by omega) (fun hx => by omega) (fun hx => by omega) (fun hx => by omega) (fun hx => by omega) (fun hx => by omega) (fun _ => rfl)) rfl rfl rfl
theorem Rn.other (h : Rn R w lab e) (j : Nat) (hj : 7 ≤ j) (v : Value) : RCs R (w.setCell ⟨R, j, none⟩ v) e :=
  h.cs.set j v (fun _ => rfl) (fun _ => rfl) (fun _ => rfl) (fun _ => rfl) (fun _ => rfl) (fun _ => rfl) (fun _ => rfl) (fun hx => by omega) (fun hx => by omega) (fun hx => by omega) (fun hx => by omega) (fun hx => by omega) (fun hx => by omega) (fun hx => by omega)
theorem rcell_same (h : Rn R w lab e) {j : Nat} {u : Value} (hu : w.cell? ⟨R, j, none⟩ = some u) (v : Value) : (w.setCell ⟨R, j, none⟩ v).cell? ⟨R, j, none⟩ = some v :=
  World.cell?_setCell_same' w ⟨R, j, none⟩ _ (by rw [hu]; rfl)
theorem Rn.noUnits (h : Rn R w lab e) : Mv (Rn R) w (w.setCell ⟨R, 7, none⟩ (.slice none 0 0)) lab { e with units := [] } := by
  obtain ⟨a, cap, U, h1, h2, h3⟩ := h.un
  exact h.moved ⟨(h.other 7 (by decide) _).as rfl rfl rfl rfl rfl rfl rfl, h.lR, h.fl.oth h.lR 7 (by decide) _, ⟨none, 0, none, rcell_same h h1 _, ⟨Nat.le_refl _, Nat.zero_le _, Or.inl ⟨rfl, rfl, rfl⟩⟩, fun B hB => by cases hB⟩, h.ot.oth h.lR 7 (by decide) _⟩
/-- a call begins -/
theorem Rn.fresh (h : Rn R w lab e) : Mv (Rn R) w (w.setCell ⟨R, 9, none⟩ (.slice none 0 0)) lab { e with out := [] } := by
  obtain ⟨a, cap, h1, h2, h3⟩ := h.ot
  exact h.moved ⟨(h.other 9 (by decide) _).as rfl rfl rfl rfl rfl rfl rfl, h.lR, h.fl.oth h.lR 9 (by decide) _, h.un.oth h.lR 9 (by decide) _, ⟨none, 0, rcell_same h h1 _, World.ownsRow_nil _ _ _ _, fun B hB => by cases hB⟩⟩

/-! ### its flow, what it tells -/
theorem Rn.flow (h : Rn R w lab e) : ∃ F D H, w.cell? ⟨R, 8, none⟩ = some (.pointer (some ⟨F, 0, none⟩)) ∧ F < w.heap.size ∧ Rf w F D H e.fl ∧ ∀ w' σ', Mvr w w' F D H σ' → Mv (Rn R) w w' lab { e with fl := σ' } := by
  obtain ⟨F, D, H, h1, h2, h3⟩ := h.fl
  have hlR := h.lR
  refine ⟨F, D, H, h1, h2.lt, h2, fun w' σ' hm => ?_⟩
  obtain ⟨H', hq, hk, hf⟩ := hm
  have hR : ¬ rtch F D H R := fun x => by have := h3 R x; omega
  have hx : ∀ l, l ≠ 2 → ∀ k, k < w.heap.size → lab k = l → ¬ rtch F D H k ∧ Go.Proofs.YtidemohpngkedabGreatDoor.fresh lab w.heap.size 2 k = l := fun l hl k hlt he => ⟨fun x => hl (by rw [← he]; exact h3 k x), by rw [fresh_old hlt]; exact he⟩
  refine ⟨Go.Proofs.YtidemohpngkedabGreatDoor.fresh lab w.heap.size 2, ⟨(h.cs.kept hk hR).as rfl rfl rfl rfl rfl rfl rfl, by rw [fresh_old h.cs.lt]; exact hlR, ⟨F, D, H', (hk.cell (p := ⟨R, 8, none⟩) h.cs.lt hR).trans h1, hq, fun k hk' => ?_⟩, h.un.kept h.cs.lt hk hR (hx 4 (by decide)), h.ot.kept h.cs.lt hk hR (hx 5 (by decide))⟩, hk.mono (fun k hlt x => by rw [h3 k x]; decide), fun k hlt => fresh_old hlt⟩
  rcases hk' with rfl | rfl | hB
  · rw [fresh_old h2.lt]; exact h3 _ (Or.inl rfl)
  · rw [fresh_old h2.qu.lt]; exact h3 _ (Or.inr (Or.inl rfl))
  · rcases hf k hB with h' | h'
    · rw [fresh_old (h2.tlt (Or.inr (Or.inr h')))]; exact h3 _ (Or.inr (Or.inr h'))
    · exact fresh_new h'
theorem Rn.told {w1 : World} (h : Rn R w lab e) (x : Em.Eff) {a : Option Addr} {cap : Nat} (h1 : w.cell? ⟨R, 9, none⟩ = some (.slice a e.out.length cap)) (hlb : ∀ B, (Value.slice a e.out.length cap).ownBlock = some B → lab B = 5)
    (hk : Kept w w1 (fun k => (Value.slice a e.out.length cap).ownBlock = some k)) {g cap' : Nat} (ho : w1.ownsRow 0 135 11 (.slice (some ⟨g, 0, none⟩) (e.out.length + 1) cap') (e.out.length + 1) (effsL e.out ++ effL x))
    (hat : (Value.slice a e.out.length cap).ownBlock = some g ∨ w.heap.size ≤ g) (hg : g < w1.heap.size) : Mv (Rn R) w (w1.setCell ⟨R, 9, none⟩ (.slice (some ⟨g, 0, none⟩) (e.out.length + 1) cap')) lab (Em.add e x) := by
  have hlR := h.lR
  have hR : ¬ (Value.slice a e.out.length cap).ownBlock = some R := fun hx => by have := hlb R hx; omega
  have hx : ∀ l, l ≠ 5 → ∀ k, k < w.heap.size → lab k = l → ¬ (Value.slice a e.out.length cap).ownBlock = some k ∧ Go.Proofs.YtidemohpngkedabGreatDoor.fresh lab w.heap.size 5 k = l := fun l hl k hlt he => ⟨fun hx => hl (by rw [← he]; exact hlb k hx), by rw [fresh_old hlt]; exact he⟩
  have hl' : Go.Proofs.YtidemohpngkedabGreatDoor.fresh lab w.heap.size 5 R = 1 := by rw [fresh_old h.cs.lt]; exact hlR
  have hgl : Go.Proofs.YtidemohpngkedabGreatDoor.fresh lab w.heap.size 5 g = 5 := by
    rcases Nat.lt_or_ge g w.heap.size with hlt | hge
    · rw [fresh_old hlt]
      rcases hat with h' | h'
      · exact hlb g h'
      · omega
    · exact fresh_new hge
  have hgR : g ≠ R := fun hx => by subst hx; rw [hl'] at hgl; omega
  have h1n := (⟨h.cs.kept hk hR, hl', h.fl.kept h.cs.lt hk hR (hx 2 (by decide)), h.un.kept h.cs.lt hk hR (hx 4 (by decide))⟩ : RCs R w1 e ∧ _ ∧ RFl R w1 (Go.Proofs.YtidemohpngkedabGreatDoor.fresh lab w.heap.size 5) e.fl ∧ RUn R w1 (Go.Proofs.YtidemohpngkedabGreatDoor.fresh lab w.heap.size 5) e.units)
  have hlen : (Em.add e x).out.length = e.out.length + 1 := by simp [Em.add]
  refine ⟨Go.Proofs.YtidemohpngkedabGreatDoor.fresh lab w.heap.size 5, ⟨?_, hl', h1n.2.2.1.oth hl' 9 (by decide) _, h1n.2.2.2.oth hl' 9 (by decide) _, ?_⟩, ?_, fun k hlt => fresh_old hlt⟩
  · exact (h1n.1.set (e' := e) 9 _ (fun _ => rfl) (fun _ => rfl) (fun _ => rfl) (fun _ => rfl) (fun _ => rfl) (fun _ => rfl) (fun _ => rfl) (fun hx => by omega) (fun hx => by omega) (fun hx => by omega) (fun hx => by omega) (fun hx => by omega) (fun hx => by omega) (fun hx => by omega)).as rfl rfl rfl rfl rfl rfl rfl
  · refine ⟨some ⟨g, 0, none⟩, cap', ?_, ?_, ?_⟩
    · rw [hlen]
      exact World.cell?_setCell_same' w1 ⟨R, 9, none⟩ _ (by rw [hk.cell (p := ⟨R, 9, none⟩) h.cs.lt hR, h1]; rfl)
    · rw [hlen]
      have ho' : w1.ownsRow 0 135 11 (.slice (some ⟨g, 0, none⟩) (e.out.length + 1) cap') (e.out.length + 1) (effsL (Em.add e x).out) := by
        have he : effsL (Em.add e x).out = effsL e.out ++ effL x := (effsL_snoc _ _).symm
        rw [he]; exact ho
      exact (kept_cell w1 R 9 _).owns ho' (fun B hB hx => hgR ((show g = B by simpa [Value.ownBlock] using hB).trans hx))
    · intro B hB
      have : g = B := by simpa [Value.ownBlock] using hB
      rw [← this]; exact hgl
  · exact ((hk.mono (T' := fun k => lab k ≠ 0) (fun k _ hx => by rw [hlb k hx]; decide)).trans (kept_cell w1 R 9 _) (fun k _ hx => by show lab k ≠ 0; rw [hx, hlR]; decide))
end
end Go.Proofs.YtidemohpngkedabGreatDoor

namespace Go.Proofs.YtidemohpngkedabGreatDoor
open Go.RowKit
set_option linter.unusedVariables false
set_option maxRecDepth 100000
set_option linter.unusedSimpArgs false

section
variable {R : Nat} {w w1 : World} {lab : Nat → Nat} {e1 : Em.St}
theorem rcells (h : Mv (Rn R) w w1 lab e1) : RCs R w1 e1 := by
  obtain ⟨lab1, h1, _⟩ := h
  exact h1.cs
theorem rflow (h : Mv (Rn R) w w1 lab e1) : ∃ F D H, w1.cell? ⟨R, 8, none⟩ = some (.pointer (some ⟨F, 0, none⟩)) ∧ R < w1.heap.size ∧ F < w1.heap.size ∧ Rf w1 F D H e1.fl ∧ ∀ w' σ', Mvr w1 w' F D H σ' → Mv (Rn R) w w' lab { e1 with fl := σ' } := by
  obtain ⟨lab1, h1, hk, hl⟩ := h
  obtain ⟨F, D, H, c8, hF, hfl, hmv⟩ := h1.flow
  exact ⟨F, D, H, c8, h1.cs.lt, hF, hfl, fun w' σ' hm => Mv.on hk hl (hmv w' σ' hm)⟩
end

theorem renum_any (k : Int) (w : World) :
    Calls Tryz.prog 136 #[.int .i64 k] w fun e w' => e = .returned (.bool (Em.numbered k)) ∧ w = w' := by
  by_cases h : 0 ≤ k ∧ k ≤ 3
  · rcases (show k = 0 ∨ k = 1 ∨ k = 2 ∨ k = 3 by omega) with rfl | rfl | rfl | rfl
    all_goals
      clear h
      go_enter Tryz.func136, Tryz.ntmps136
      go_wp2
      go_ret
      exact ⟨rfl, rfl⟩
  · have hk : Em.numbered k = false := by unfold Em.numbered; exact decide_eq_false (by omega)
    rw [hk]
    have h0 : (k == 0) = false := by simp; omega
    have h1 : (k == 1) = false := by simp; omega
    have h2 : (k == 2) = false := by simp; omega
    have h3 : (k == 3) = false := by simp; omega
    clear h hk
    go_enter Tryz.func136, Tryz.ntmps136
    go_wp2
    go_ret
    exact ⟨rfl, rfl⟩

/-- the append, and what stands behind it -/
theorem rtold_step {R : Nat} {lab : Nat → Nat} {e : Em.St} {x : Em.Eff} {w W w1 : World} {a : Option Addr} {cap g cap1 H : Nat} (h : Rn R w lab e) (h9 : w.cell? ⟨R, 9, none⟩ = some (.slice a e.out.length cap)) (hlb : ∀ B, (Value.slice a e.out.length cap).ownBlock = some B → lab B = 5)
    (hb : Below w.heap.size w W) (hgrow : W.grownBy w1 (Value.slice a e.out.length cap).ownBlock) (hown1 : w1.ownsRow 0 135 11 (.slice (some ⟨g, 0, none⟩) (e.out.length + 1) cap1) (e.out.length + 1) (effsL e.out ++ effL x))
    (hat : (Value.slice a e.out.length cap).ownBlock = some g ∨ g = H) (hH : w.heap.size ≤ H) (hgl : g < w1.heap.size) :
    w1.cell? ⟨R, 9, none⟩ = some (.slice a e.out.length cap) ∧ w1.frozen? ⟨R, 9, none⟩ = false ∧ R < w1.heap.size ∧ Mv (Rn R) w (w1.setCell ⟨R, 9, none⟩ (.slice (some ⟨g, 0, none⟩) (e.out.length + 1) cap1)) lab (Em.add e x) := by
  have hk : Kept w w1 (fun k => (Value.slice a e.out.length cap).ownBlock = some k) := (Kept.of_below (T := fun k => (Value.slice a e.out.length cap).ownBlock = some k) hb (fun k hk h' => by omega)).trans (Kept.of_grown (T := fun k => (Value.slice a e.out.length cap).ownBlock = some k) hgrow (fun k e => e)) (fun k _ h => h)
  have hR : ¬ (Value.slice a e.out.length cap).ownBlock = some R := fun hx => by have := hlb R hx; have := h.lR; omega
  exact ⟨(hk.cell (p := ⟨R, 9, none⟩) h.cs.lt hR).trans h9, (hk.frozen (p := ⟨R, 9, none⟩) h.cs.lt hR).trans (h.cs.f 9 (by decide)), Nat.lt_of_lt_of_le h.cs.lt hk.size, h.told x h9 hlb hk hown1 (by rcases hat with h' | h'; exact Or.inl h'; exact Or.inr (by omega)) hgl⟩

set_option maxHeartbeats 1000000 in
theorem rtell_any (R : Nat) (lab : Nat → Nat) (e : Em.St) (k : Int) (d : ByteArray) (w : World) (h : Rn R w lab e) (hl : e.out.length ≤ 1000000) :
    Calls Tryz.prog 67 #[.pointer (some ⟨R, 0, none⟩), .int .i64 k, .string d] w fun r w' => r = .returned (.tuple #[]) ∧ Mv (Rn R) w w' lab (Em.tell e k d) := by
  obtain ⟨a, cap, h9, ho, hlb⟩ := h.ot
  have f9 := h.cs.f 9 (by decide)
  have hlt := h.cs.lt
  obtain ⟨i0, hi, hz0, hz1, hz2⟩ := info_parts reff_info
  have HE : Hid (Rn R w lab e) := h
  have HL : Hid (∀ B, (Value.slice a e.out.length cap).ownBlock = some B → lab B = 5) := hlb
  clear h hlb
  have hrow := fun o => ho.alloc o
  go_enter Tryz.func67, Tryz.ntmps67
  go_wp2_with (at_builtin; refine wpList_append_lies _ rfl _ _ _ rfl 0 135 i0 (effV ⟨0, Em.fr0, ByteArray.empty, 0⟩) 11 104 Tryz.underlying81 hi hz0 hz1 hz2 (by rfl) (by decide) (.slice a e.out.length cap) e.out.length (effsL e.out) rfl (hrow _) ⟨w.heap.size, 0, none⟩ 1 1 (effL ⟨k, Em.fr0, d, 0⟩) rfl rfl (eff_cells w ⟨k, Em.fr0, d, 0⟩ _ _ 135 (heap_alloc_new w _)) (effL_one _) (by decide) (by unfold maxLen; omega) (by omega) (by simp) (w.heap.size + 1) (by simp) ?_)
  intro g cap1 w1 hown1 hgrow hat hgl
  obtain ⟨d9, g9, dl, hm⟩ := rtold_step HE.out h9 HL.out ((Below.refl w.heap.size w).alloc (Nat.le_refl _) _) hgrow hown1 hat (by omega) hgl
  have HF := (show Hid _ from hm)
  clear hm hown1 hgrow hat hgl hrow ho HE HL
  go_wp2
  go_end0
  exact ⟨rfl, HF.out⟩

/-- the same, behind stores -/
theorem rtold_mv {R : Nat} {lab : Nat → Nat} {e : Em.St} {x : Em.Eff} {w W0 W w1 : World} {a : Option Addr} {cap g cap1 H : Nat} (hE : Mv (Rn R) w W0 lab e) (h9 : W0.cell? ⟨R, 9, none⟩ = some (.slice a e.out.length cap))
    (hb : Below W0.heap.size W0 W) (hgrow : W.grownBy w1 (Value.slice a e.out.length cap).ownBlock) (hown1 : w1.ownsRow 0 135 11 (.slice (some ⟨g, 0, none⟩) (e.out.length + 1) cap1) (e.out.length + 1) (effsL e.out ++ effL x))
    (hat : (Value.slice a e.out.length cap).ownBlock = some g ∨ g = H) (hH : W0.heap.size ≤ H) (hgl : g < w1.heap.size) :
    w1.cell? ⟨R, 9, none⟩ = some (.slice a e.out.length cap) ∧ w1.frozen? ⟨R, 9, none⟩ = false ∧ R < w1.heap.size ∧ Mv (Rn R) w (w1.setCell ⟨R, 9, none⟩ (.slice (some ⟨g, 0, none⟩) (e.out.length + 1) cap1)) lab (Em.add e x) := by
  obtain ⟨lab1, h1, hk, hl⟩ := hE
  have hlb : ∀ B, (Value.slice a e.out.length cap).ownBlock = some B → lab1 B = 5 := by
    obtain ⟨a', cap', k1, _, k3⟩ := h1.ot
    rw [k1] at h9
    have := Option.some.inj h9
    rw [this] at k3
    exact k3
  obtain ⟨r1, r2, r3, r4⟩ := rtold_step h1 h9 hlb hb hgrow hown1 hat hH hgl
  exact ⟨r1, r2, r3, Mv.on hk hl r4⟩
theorem rrow {R : Nat} {lab : Nat → Nat} {e : Em.St} {w W0 : World} {a : Option Addr} {cap : Nat} (hE : Mv (Rn R) w W0 lab e) (h9 : W0.cell? ⟨R, 9, none⟩ = some (.slice a e.out.length cap)) : W0.ownsRow 0 135 11 (.slice a e.out.length cap) e.out.length (effsL e.out) := by
  obtain ⟨lab1, h1, _⟩ := hE
  obtain ⟨a', cap', k1, k2, _⟩ := h1.ot
  rw [k1] at h9
  have := Option.some.inj h9
  rw [this] at k2
  exact k2
theorem heap_new_at {w : World} {n : Nat} (h : w.heap.size = n) (o : Obj) : (w.alloc o).heap[n]? = some o := by
  rw [← h]
  exact heap_alloc_new w o

set_option maxHeartbeats 1000000 in
theorem rstart200_any (R : Nat) (lab : Nat → Nat) (e : Em.St) (w : World) (h : Rn R w lab e) (hl : e.out.length ≤ 900000) :
    Calls Tryz.prog 108 #[.pointer (some ⟨R, 0, none⟩), .int .i64 200] w fun r w' => r = .returned (.tuple #[]) ∧ Mv (Rn R) w w' lab (Em.start200 e) := by
  obtain ⟨a, cap, h9, ho, hlb⟩ := h.ot
  have f9 := h.cs.f 9 (by decide)
  have hlt := h.cs.lt
  obtain ⟨i0, hi, hz0, hz1, hz2⟩ := info_parts reff_info
  have c := h.cs.c5
  have f := h.cs.f 5 (by decide)
  have HE1 : Hid (Mv (Rn R) w (w.setCell ⟨R, 5, none⟩ (.bool true)) lab { e with t200 := true }) := h.set200 true
  have h9' : (w.setCell ⟨R, 5, none⟩ (.bool true)).cell? ⟨R, 9, none⟩ = some (.slice a e.out.length cap) := (cell_oth w R (by decide) _).trans h9
  have hsz : (w.setCell ⟨R, 5, none⟩ (.bool true)).heap.size = w.heap.size := by simp [World.setCell]
  clear h ho hlb
  go_enter Tryz.func108, Tryz.ntmps108
  have hrow := fun o => (rrow HE1.out h9').alloc o
  go_wp2_with (at_builtin; refine wpList_append_lies _ rfl _ _ _ rfl 0 135 i0 (effV ⟨0, Em.fr0, ByteArray.empty, 0⟩) 11 104 Tryz.underlying81 hi hz0 hz1 hz2 (by rfl) (by decide) (.slice a e.out.length cap) e.out.length (effsL e.out) rfl (hrow _) ⟨w.heap.size, 0, none⟩ 1 1 (effL ⟨9, Em.fr0, ByteArray.empty, 200⟩) rfl rfl (eff_cells (w.setCell ⟨R, 5, none⟩ (.bool true)) ⟨9, Em.fr0, ByteArray.empty, 200⟩ _ _ 135 (heap_new_at hsz _)) (effL_one _) (by decide) (by unfold maxLen; omega) (by omega) (by simp) (w.heap.size + 1) (by simp) ?_)
  intro g cap1 w1 hown1 hgrow hat hgl
  obtain ⟨d9, g9, dl, hm⟩ := rtold_mv HE1.out h9' ((Below.refl _ _).alloc (Nat.le_refl _) _) hgrow hown1 hat (by omega) hgl
  have HF := (show Hid _ from hm)
  clear hm hown1 hgrow hat hgl hrow HE1 h9' hsz
  go_wp2
  go_end0
  exact ⟨rfl, HF.out⟩

set_option maxHeartbeats 1000000 in
theorem rstart203_any (R : Nat) (lab : Nat → Nat) (e : Em.St) (w : World) (h : Rn R w lab e) (hl : e.out.length ≤ 900000) :
    Calls Tryz.prog 108 #[.pointer (some ⟨R, 0, none⟩), .int .i64 203] w fun r w' => r = .returned (.tuple #[]) ∧ Mv (Rn R) w w' lab (Em.start203 e) := by
  obtain ⟨a, cap, h9, ho, hlb⟩ := h.ot
  have f9 := h.cs.f 9 (by decide)
  have hlt := h.cs.lt
  obtain ⟨i0, hi, hz0, hz1, hz2⟩ := info_parts reff_info
  have c := h.cs.c6
  have f := h.cs.f 6 (by decide)
  have HE1 : Hid (Mv (Rn R) w (w.setCell ⟨R, 6, none⟩ (.bool true)) lab { e with t203 := true }) := h.set203 true
  have h9' : (w.setCell ⟨R, 6, none⟩ (.bool true)).cell? ⟨R, 9, none⟩ = some (.slice a e.out.length cap) := (cell_oth w R (by decide) _).trans h9
  have hsz : (w.setCell ⟨R, 6, none⟩ (.bool true)).heap.size = w.heap.size := by simp [World.setCell]
  clear h ho hlb
  go_enter Tryz.func108, Tryz.ntmps108
  have hrow := fun o => (rrow HE1.out h9').alloc o
  go_wp2_with (at_builtin; refine wpList_append_lies _ rfl _ _ _ rfl 0 135 i0 (effV ⟨0, Em.fr0, ByteArray.empty, 0⟩) 11 104 Tryz.underlying81 hi hz0 hz1 hz2 (by rfl) (by decide) (.slice a e.out.length cap) e.out.length (effsL e.out) rfl (hrow _) ⟨w.heap.size, 0, none⟩ 1 1 (effL ⟨9, Em.fr0, ByteArray.empty, 203⟩) rfl rfl (eff_cells (w.setCell ⟨R, 6, none⟩ (.bool true)) ⟨9, Em.fr0, ByteArray.empty, 203⟩ _ _ 135 (heap_new_at hsz _)) (effL_one _) (by decide) (by unfold maxLen; omega) (by omega) (by simp) (w.heap.size + 1) (by simp) ?_)
  intro g cap1 w1 hown1 hgrow hat hgl
  obtain ⟨d9, g9, dl, hm⟩ := rtold_mv HE1.out h9' ((Below.refl _ _).alloc (Nat.le_refl _) _) hgrow hown1 hat (by omega) hgl
  have HF := (show Hid _ from hm)
  clear hm hown1 hgrow hat hgl hrow HE1 h9' hsz
  go_wp2
  go_end0
  exact ⟨rfl, HF.out⟩

set_option maxHeartbeats 1000000 in
theorem rstop200_any (R : Nat) (lab : Nat → Nat) (e : Em.St) (w : World) (h : Rn R w lab e) (hl : e.out.length ≤ 900000) :
    Calls Tryz.prog 107 #[.pointer (some ⟨R, 0, none⟩), .int .i64 200] w fun r w' => r = .returned (.tuple #[]) ∧ Mv (Rn R) w w' lab (Em.stop200 e) := by
  obtain ⟨a, cap, h9, ho, hlb⟩ := h.ot
  have f9 := h.cs.f 9 (by decide)
  have hlt := h.cs.lt
  obtain ⟨i0, hi, hz0, hz1, hz2⟩ := info_parts reff_info
  have c5 := h.cs.c5
  have c6 := h.cs.c6
  have f := h.cs.f 5 (by decide)
  unfold Em.stop200
  cases hr : e.t200 with
  | false =>
    rw [hr] at c5
    rw [if_neg (by decide)]
    have HF : Hid (Mv (Rn R) w w lab e) := h.same (Below.refl _ _)
    clear h ho hlb hr
    go_enter Tryz.func107, Tryz.ntmps107
    go_wp2
    refine bodyPost_ret (v := .tuple #[]) (results_none rfl _ _ _) rfl ?_
    exact ⟨rfl, HF.out⟩
  | true =>
    rw [hr] at c5
    rw [if_pos rfl]
    have HE1 : Hid (Mv (Rn R) w (w.setCell ⟨R, 5, none⟩ (.bool false)) lab { e with t200 := false }) := h.set200 false
    have h9' : (w.setCell ⟨R, 5, none⟩ (.bool false)).cell? ⟨R, 9, none⟩ = some (.slice a e.out.length cap) := (cell_oth w R (by decide) _).trans h9
    have hsz : (w.setCell ⟨R, 5, none⟩ (.bool false)).heap.size = w.heap.size := by simp [World.setCell]
    clear h ho hlb hr
    go_enter Tryz.func107, Tryz.ntmps107
    have hrow := fun o => (rrow HE1.out h9').alloc o
    go_wp2_with (at_builtin; refine wpList_append_lies _ rfl _ _ _ rfl 0 135 i0 (effV ⟨0, Em.fr0, ByteArray.empty, 0⟩) 11 104 Tryz.underlying81 hi hz0 hz1 hz2 (by rfl) (by decide) (.slice a e.out.length cap) e.out.length (effsL e.out) rfl (hrow _) ⟨w.heap.size, 0, none⟩ 1 1 (effL ⟨10, Em.fr0, ByteArray.empty, 200⟩) rfl rfl (eff_cells (w.setCell ⟨R, 5, none⟩ (.bool false)) ⟨10, Em.fr0, ByteArray.empty, 200⟩ _ _ 135 (heap_new_at hsz _)) (effL_one _) (by decide) (by unfold maxLen; omega) (by omega) (by simp) (w.heap.size + 1) (by simp) ?_)
    intro g cap1 w1 hown1 hgrow hat hgl
    obtain ⟨d9, g9, dl, hm⟩ := rtold_mv HE1.out h9' ((Below.refl _ _).alloc (Nat.le_refl _) _) hgrow hown1 hat (by omega) hgl
    have HF := (show Hid _ from hm)
    clear hm hown1 hgrow hat hgl hrow HE1 h9' hsz
    go_wp2
    go_end0
    exact ⟨rfl, HF.out⟩

set_option maxHeartbeats 1000000 in
theorem rstop203_any (R : Nat) (lab : Nat → Nat) (e : Em.St) (w : World) (h : Rn R w lab e) (hl : e.out.length ≤ 900000) :
    Calls Tryz.prog 107 #[.pointer (some ⟨R, 0, none⟩), .int .i64 203] w fun r w' => r = .returned (.tuple #[]) ∧ Mv (Rn R) w w' lab (Em.stop203 e) := by
  obtain ⟨a, cap, h9, ho, hlb⟩ := h.ot
  have f9 := h.cs.f 9 (by decide)
  have hlt := h.cs.lt
  obtain ⟨i0, hi, hz0, hz1, hz2⟩ := info_parts reff_info
  have c5 := h.cs.c5
  have c6 := h.cs.c6
  have f := h.cs.f 6 (by decide)
  unfold Em.stop203
  cases hr : e.t203 with
  | false =>
    rw [hr] at c6
    rw [if_neg (by decide)]
    have HF : Hid (Mv (Rn R) w w lab e) := h.same (Below.refl _ _)
    clear h ho hlb hr
    go_enter Tryz.func107, Tryz.ntmps107
    go_wp2
    refine bodyPost_ret (v := .tuple #[]) (results_none rfl _ _ _) rfl ?_
    exact ⟨rfl, HF.out⟩
  | true =>
    rw [hr] at c6
    rw [if_pos rfl]
    have HE1 : Hid (Mv (Rn R) w (w.setCell ⟨R, 6, none⟩ (.bool false)) lab { e with t203 := false }) := h.set203 false
    have h9' : (w.setCell ⟨R, 6, none⟩ (.bool false)).cell? ⟨R, 9, none⟩ = some (.slice a e.out.length cap) := (cell_oth w R (by decide) _).trans h9
    have hsz : (w.setCell ⟨R, 6, none⟩ (.bool false)).heap.size = w.heap.size := by simp [World.setCell]
    clear h ho hlb hr
    go_enter Tryz.func107, Tryz.ntmps107
    have hrow := fun o => (rrow HE1.out h9').alloc o
    go_wp2_with (at_builtin; refine wpList_append_lies _ rfl _ _ _ rfl 0 135 i0 (effV ⟨0, Em.fr0, ByteArray.empty, 0⟩) 11 104 Tryz.underlying81 hi hz0 hz1 hz2 (by rfl) (by decide) (.slice a e.out.length cap) e.out.length (effsL e.out) rfl (hrow _) ⟨w.heap.size, 0, none⟩ 1 1 (effL ⟨10, Em.fr0, ByteArray.empty, 203⟩) rfl rfl (eff_cells (w.setCell ⟨R, 6, none⟩ (.bool false)) ⟨10, Em.fr0, ByteArray.empty, 203⟩ _ _ 135 (heap_new_at hsz _)) (effL_one _) (by decide) (by unfold maxLen; omega) (by omega) (by simp) (w.heap.size + 1) (by simp) ?_)
    intro g cap1 w1 hown1 hgrow hat hgl
    obtain ⟨d9, g9, dl, hm⟩ := rtold_mv HE1.out h9' ((Below.refl _ _).alloc (Nat.le_refl _) _) hgrow hown1 hat (by omega) hgl
    have HF := (show Hid _ from hm)
    clear hm hown1 hgrow hat hgl hrow HE1 h9' hsz
    go_wp2
    go_end0
    exact ⟨rfl, HF.out⟩

end Go.Proofs.YtidemohpngkedabGreatDoor

namespace Go.Proofs.YtidemohpngkedabGreatDoor
open Go.RowKit
set_option linter.unusedVariables false
set_option maxRecDepth 100000
set_option linter.unusedSimpArgs false

set_option maxHeartbeats 2000000 in
theorem rsend_any (R : Nat) (lab : Nat → Nat) (e : Em.St) (f : Em.Fr) (w : World) (h : Rn R w lab e) (hl : e.out.length ≤ 900000) :
    Calls Tryz.prog 106 #[.pointer (some ⟨R, 0, none⟩), frmV f] w fun r w' => r = .returned (.tuple #[]) ∧ Mv (Rn R) w w' lab (Em.send e f) := by
  obtain ⟨a, cap, h9, ho, hlb⟩ := h.ot
  have f9 := h.cs.f 9 (by decide)
  have c2 := h.cs.c2
  have hlt := h.cs.lt
  obtain ⟨F, D, H, c8, hF, hfl, -⟩ := h.flow
  have v2 := hfl.fr.c2
  obtain ⟨i0, hi, hz0, hz1, hz2⟩ := info_parts reff_info
  have HE : Hid (Rn R w lab e) := h
  have HL : Hid (∀ B, (Value.slice a e.out.length cap).ownBlock = some B → lab B = 5) := hlb
  have hE : ∀ b, Em.numbered f.k = b → Em.send e f = Em.add e ⟨0, { f with tei := e.tei, nr := if b then e.fl.vr else f.nr }, ByteArray.empty, 0⟩ := by
    intro b hb
    subst hb
    rfl
  clear h hlb hfl
  cases hk : Em.numbered f.k with
  | false =>
    rw [hE false hk]
    have hN := fun W => renum_any f.k W
    rw [hk] at hN
    obtain ⟨sapi, tei, c, k, pf, ns, nr, info⟩ := f
    unfold frmV
    clear hE hk
    go_enter Tryz.func106, Tryz.ntmps106
    go_wp2_with fail
    refine (hN _).mono ?_
    rintro r w1 ⟨rfl, rfl⟩
    clear hN
    go_wp2_with fail
    go_region_law ((refine step_append_lies _ (by rfl) _ _ _ (by rfl) 0 135 i0 (effV ⟨0, Em.fr0, ByteArray.empty, 0⟩) 11 104 Tryz.underlying81 hi hz0 hz1 hz2 (by rfl) (by decide) (.slice a e.out.length cap) e.out.length (effsL e.out) (by rfl) (by first | exact ((ho.alloc _).drew).alloc _ | exact ((ho.alloc _).alloc _).drew) ⟨w.heap.size + 1, 0, none⟩ 1 1 (effL ⟨0, ⟨sapi, e.tei, c, k, pf, ns, nr, info⟩, ByteArray.empty, 0⟩) (by rfl) (by rfl) (eff_cells w ⟨0, ⟨sapi, e.tei, c, k, pf, ns, nr, info⟩, ByteArray.empty, 0⟩ _ _ 135 (heap_two w _ _)) (effL_one _) (by decide) (by unfold maxLen; omega) (by omega) (by simp) (w.heap.size + 2) (by simp) ?_; intro g cap1 w1 hown1 hgrow hat hgl; obtain ⟨d9, g9, dl, hm⟩ := rtold_step HE.out h9 HL.out (below_two w _ _) hgrow hown1 hat (by omega) hgl))
    all_goals
      go_end0
      exact ⟨rfl, hm⟩
  | true =>
    rw [hE true hk]
    have hN := fun W => renum_any f.k W
    rw [hk] at hN
    obtain ⟨sapi, tei, c, k, pf, ns, nr, info⟩ := f
    unfold frmV
    clear hE hk
    go_enter Tryz.func106, Tryz.ntmps106
    go_wp2_with fail
    refine (hN _).mono ?_
    rintro r w1 ⟨rfl, rfl⟩
    clear hN
    go_wp2_with fail
    go_region_law ((refine step_append_lies _ (by rfl) _ _ _ (by rfl) 0 135 i0 (effV ⟨0, Em.fr0, ByteArray.empty, 0⟩) 11 104 Tryz.underlying81 hi hz0 hz1 hz2 (by rfl) (by decide) (.slice a e.out.length cap) e.out.length (effsL e.out) (by rfl) (by first | exact ((ho.alloc _).drew).alloc _ | exact ((ho.alloc _).alloc _).drew) ⟨w.heap.size + 1, 0, none⟩ 1 1 (effL ⟨0, ⟨sapi, e.tei, c, k, pf, ns, e.fl.vr, info⟩, ByteArray.empty, 0⟩) (by rfl) (by rfl) (eff_cells w ⟨0, ⟨sapi, e.tei, c, k, pf, ns, e.fl.vr, info⟩, ByteArray.empty, 0⟩ _ _ 135 (heap_two w _ _)) (effL_one _) (by decide) (by unfold maxLen; omega) (by omega) (by simp) (w.heap.size + 2) (by simp) ?_; intro g cap1 w1 hown1 hgrow hat hgl; obtain ⟨d9, g9, dl, hm⟩ := rtold_step HE.out h9 HL.out (below_two w _ _) hgrow hown1 hat (by omega) hgl))
    all_goals
      go_end0
      exact ⟨rfl, hm⟩
end Go.Proofs.YtidemohpngkedabGreatDoor

namespace Go.Proofs.YtidemohpngkedabGreatDoor
open Go.RowKit
set_option linter.unusedVariables false
set_option maxRecDepth 100000
set_option linter.unusedSimpArgs false

set_option maxHeartbeats 1000000 in
theorem rreply_any (R : Nat) (lab : Nat → Nat) (e : Em.St) (k : Int) (f : Em.Fr) (w : World) (h : Rn R w lab e) (hl : e.out.length ≤ 800000) :
    Calls Tryz.prog 113 #[.pointer (some ⟨R, 0, none⟩), .int .i64 k, frmV f] w fun r w' => r = .returned (.tuple #[]) ∧ Mv (Rn R) w w' lab (Em.send e (Em.bare false k f.pf)) := by
  have HE0 : Hid (Mv (Rn R) w w lab e) := h.same (Below.refl _ _)
  clear h
  obtain ⟨sapi, tei, c, kk, pf, ns, nr, info⟩ := f
  unfold frmV
  go_enter Tryz.func113, Tryz.ntmps113
  go_wp2_with fail
  refine ((Rn.thenB HE0.out ((Below.refl _ _).alloc (Nat.le_refl _) _)).call fun lab1 h1 => rsend_any R lab1 _ (Em.bare false k pf) _ h1 (by omega)).mono ?_
  rintro r w1 ⟨rfl, hm⟩
  have HE1 : Hid (Mv (Rn R) w w1 lab (Em.send e (Em.bare false k pf))) := hm
  clear HE0 hm
  go_wp2
  go_end0
  exact ⟨rfl, HE1.out⟩

set_option maxHeartbeats 1000000 in
theorem runit_any (R : Nat) (lab : Nat → Nat) (e : Em.St) (s : ByteArray) (w : World) (h : Rn R w lab e) (hl : e.out.length ≤ 800000) :
    Calls Tryz.prog 61 #[.pointer (some ⟨R, 0, none⟩), .string s] w fun r w' => r = .returned (.tuple #[]) ∧ Mv (Rn R) w w' lab (Em.unit e s) := by
  have HE0 : Hid (Mv (Rn R) w w lab e) := h.same (Below.refl _ _)
  clear h
  go_enter Tryz.func61, Tryz.ntmps61
  go_wp2_with fail
  refine (HE0.out.call fun lab1 h1 => rsend_any R lab1 _ ⟨0, 0, true, 6, false, 0, 0, s⟩ _ h1 (by omega)).mono ?_
  rintro r w1 ⟨rfl, hm⟩
  have HE1 : Hid (Mv (Rn R) w w1 lab (Em.unit e s)) := hm
  clear HE0 hm
  go_wp2
  go_end0
  exact ⟨rfl, HE1.out⟩

set_option maxHeartbeats 1000000 in
theorem ranswer_any (R : Nat) (lab : Nat → Nat) (e : Em.St) (c pf : Bool) (w : World) (h : Rn R w lab e) (hl : e.out.length ≤ 800000) :
    Calls Tryz.prog 57 #[.pointer (some ⟨R, 0, none⟩), .bool c, .bool pf] w fun r w' => r = .returned (.tuple #[]) ∧ Mv (Rn R) w w' lab (Em.answer e c pf) := by
  have HE0 : Hid (Mv (Rn R) w w lab e) := h.same (Below.refl _ _)
  unfold Em.answer
  clear h
  obtain ⟨F, D, H, fc, fR, fF, ffl, fmv⟩ := rflow HE0.out
  have c4 := ffl.fr.c4
  clear ffl fmv
  cases ho : e.fl.ow with
  | false =>
    rw [ho] at c4
    rw [if_neg (by decide)]
    clear ho
    go_enter Tryz.func57, Tryz.ntmps57
    go_wp2_with fail
    refine (HE0.out.call fun lab1 h1 => rsend_any R lab1 _ (Em.bare c 1 pf) _ h1 (by omega)).mono ?_
    rintro r w1 ⟨rfl, hm⟩
    have HE1 : Hid (Mv (Rn R) w w1 lab (Em.send e (Em.bare c 1 pf))) := hm
    clear HE0 hm
    go_wp2
    go_end0
    exact ⟨rfl, HE1.out⟩
  | true =>
    rw [ho] at c4
    rw [if_pos rfl]
    clear ho
    go_enter Tryz.func57, Tryz.ntmps57
    go_wp2_with fail
    refine (HE0.out.call fun lab1 h1 => rsend_any R lab1 _ (Em.bare c 2 pf) _ h1 (by omega)).mono ?_
    rintro r w1 ⟨rfl, hm⟩
    have HE1 : Hid (Mv (Rn R) w w1 lab (Em.send e (Em.bare c 2 pf))) := hm
    clear HE0 hm
    go_wp2
    go_end0
    exact ⟨rfl, HE1.out⟩

set_option maxHeartbeats 1000000 in
theorem rinquire_any (R : Nat) (lab : Nat → Nat) (e : Em.St) (w : World) (h : Rn R w lab e) (hl : e.out.length ≤ 700000) :
    Calls Tryz.prog 58 #[.pointer (some ⟨R, 0, none⟩)] w fun r w' => r = .returned (.tuple #[]) ∧ Mv (Rn R) w w' lab (Em.inquire e) := by
  have HE0 : Hid (Mv (Rn R) w w lab e) := h.same (Below.refl _ _)
  clear h
  go_enter Tryz.func58, Tryz.ntmps58
  go_wp2_with fail
  refine (HE0.out.call fun lab1 h1 => ranswer_any R lab1 _ true true _ h1 (by omega)).mono ?_
  rintro r w1 ⟨rfl, hm⟩
  have HE1 : Hid (Mv (Rn R) w w1 lab (Em.answer e true true)) := hm
  clear HE0 hm
  go_wp2_with fail
  refine (HE1.out.call fun lab1 h1 => rstart200_any R lab1 _ _ h1 (by rw [Em.len_answer]; omega)).mono ?_
  rintro r w2 ⟨rfl, hm⟩
  have HE2 : Hid (Mv (Rn R) w w2 lab (Em.inquire e)) := hm
  clear HE1 hm
  go_wp2
  go_end0
  exact ⟨rfl, HE2.out⟩

set_option maxHeartbeats 1000000 in
theorem rcall_any (R : Nat) (lab : Nat → Nat) (e : Em.St) (w : World) (h : Rn R w lab e) (hl : e.out.length ≤ 700000) :
    Calls Tryz.prog 62 #[.pointer (some ⟨R, 0, none⟩)] w fun r w' => r = .returned (.tuple #[]) ∧ Mv (Rn R) w w' lab (Em.call e) := by
  have HE0 : Hid (Mv (Rn R) w w lab e) := h.same (Below.refl _ _)
  clear h
  have ha0 := rcells HE0.out
  have k03 := ha0.c3
  have l0 := ha0.lt
  have g0 := ha0.f 3 (by decide)
  clear ha0
  have HE1 : Hid (Mv (Rn R) w (w.setCell ⟨R, 3, none⟩ (.int .i64 0)) lab ({ e with tries := 0 })) := HE0.out.trans fun _ hx => hx.setTries 0
  go_enter Tryz.func62, Tryz.ntmps62
  go_wp2_with fail
  refine (HE1.out.call fun lab1 h1 => rsend_any R lab1 _ (Em.bare true 4 true) _ h1 (by show e.out.length ≤ _; omega)).mono ?_
  rintro r w2 ⟨rfl, hm⟩
  have HE2 : Hid (Mv (Rn R) w w2 lab (Em.send { e with tries := 0 } (Em.bare true 4 true))) := hm
  clear HE1 hm
  obtain ⟨e1, he1⟩ : ∃ e1, e1 = Em.send { e with tries := 0 } (Em.bare true 4 true) := ⟨_, rfl⟩
  have hl1 : e1.out.length = e.out.length + 1 := by rw [he1, Em.len_send]
  have HQ : Hid (Em.call e = { Em.start200 (Em.stop203 e1) with state := 5 }) := by rw [he1]; rfl
  rw [← he1] at HE2
  clear he1
  go_wp2_with fail
  refine (HE2.out.call fun lab1 h1 => rstop203_any R lab1 _ _ h1 (by omega)).mono ?_
  rintro r w3 ⟨rfl, hm⟩
  have HE3 : Hid (Mv (Rn R) w w3 lab (Em.stop203 e1)) := hm
  clear HE2 hm
  have hl2 := Em.len_stop203 e1
  go_wp2_with fail
  refine (HE3.out.call fun lab1 h1 => rstart200_any R lab1 _ _ h1 (by omega)).mono ?_
  rintro r w4 ⟨rfl, hm⟩
  have HE4 : Hid (Mv (Rn R) w w4 lab (Em.start200 (Em.stop203 e1))) := hm
  clear HE3 hm
  have ha4 := rcells HE4.out
  have k41 := ha4.c1
  have l4 := ha4.lt
  have g4 := ha4.f 1 (by decide)
  clear ha4
  have HE5 : Hid (Mv (Rn R) w (w4.setCell ⟨R, 1, none⟩ (.int .i64 5)) lab ({ Em.start200 (Em.stop203 e1) with state := 5 })) := HE4.out.trans fun _ hx => hx.setState 5
  go_wp2
  go_end0
  refine ⟨rfl, ?_⟩
  rw [HQ.out]
  exact HE5.out

set_option maxHeartbeats 1000000 in
theorem ranew_any (R : Nat) (lab : Nat → Nat) (e : Em.St) (l : ByteArray) (w : World) (h : Rn R w lab e) (hl : e.out.length ≤ 600000) :
    Calls Tryz.prog 60 #[.pointer (some ⟨R, 0, none⟩), .string l] w fun r w' => r = .returned (.tuple #[]) ∧ Mv (Rn R) w w' lab (Em.anew e l) := by
  have HE0 : Hid (Mv (Rn R) w w lab e) := h.same (Below.refl _ _)
  clear h
  go_enter Tryz.func60, Tryz.ntmps60
  go_wp2_with fail
  refine (HE0.out.call fun lab1 h1 => rtell_any R lab1 _ 7 l _ h1 (by omega)).mono ?_
  rintro r w1 ⟨rfl, hm⟩
  have HE1 : Hid (Mv (Rn R) w w1 lab (Em.tell e 7 l)) := hm
  clear HE0 hm
  have ha1 := rcells HE1.out
  have k14 := ha1.c4
  have l1 := ha1.lt
  have g1 := ha1.f 4 (by decide)
  clear ha1
  have HE2 : Hid (Mv (Rn R) w (w1.setCell ⟨R, 4, none⟩ (.bool false)) lab ({ Em.tell e 7 l with asked := false })) := HE1.out.trans fun _ hx => hx.setAsked false
  go_wp2_with fail
  refine (HE2.out.call fun lab1 h1 => rcall_any R lab1 _ _ h1 (by show (Em.tell e 7 l).out.length ≤ _; rw [Em.len_tell]; omega)).mono ?_
  rintro r w3 ⟨rfl, hm⟩
  have HE3 : Hid (Mv (Rn R) w w3 lab (Em.anew e l)) := hm
  clear HE2 hm
  go_wp2
  go_end0
  exact ⟨rfl, HE3.out⟩

set_option maxHeartbeats 1000000 in
theorem rstrange_any (R : Nat) (lab : Nat → Nat) (e : Em.St) (f : Em.Fr) (w : World) (h : Rn R w lab e) (hl : e.out.length ≤ 700000) :
    Calls Tryz.prog 115 #[.pointer (some ⟨R, 0, none⟩), frmV f] w fun r w' => r = .returned (.tuple #[]) ∧ Mv (Rn R) w w' lab (Em.strange e f) := by
  have HE0 : Hid (Mv (Rn R) w w lab e) := h.same (Below.refl _ _)
  clear h
  obtain ⟨sapi, tei, c, k, pf, ns, nr, info⟩ := f
  unfold frmV
  cases pf with
  | true =>
    go_enter Tryz.func115, Tryz.ntmps115
    go_wp2_with fail
    refine ((Rn.thenB HE0.out ((Below.refl _ _).alloc (Nat.le_refl _) _)).call fun lab1 h1 => rtell_any R lab1 _ 7 (Em.letter 67) _ h1 (by omega)).mono ?_
    rintro r w1 ⟨rfl, hm⟩
    have HE1 : Hid (Mv (Rn R) w w1 lab (Em.strange e ⟨sapi, tei, c, k, true, ns, nr, info⟩)) := hm
    clear HE0 hm
    go_wp2
    refine bodyPost_ret (v := .tuple #[]) (results_none rfl _ _ _) rfl ?_
    exact ⟨rfl, HE1.out⟩
  | false =>
    go_enter Tryz.func115, Tryz.ntmps115
    go_wp2_with fail
    refine ((Rn.thenB HE0.out ((Below.refl _ _).alloc (Nat.le_refl _) _)).call fun lab1 h1 => rtell_any R lab1 _ 7 (Em.letter 68) _ h1 (by omega)).mono ?_
    rintro r w1 ⟨rfl, hm⟩
    have HE1 : Hid (Mv (Rn R) w w1 lab (Em.strange e ⟨sapi, tei, c, k, false, ns, nr, info⟩)) := hm
    clear HE0 hm
    go_wp2
    go_end0
    exact ⟨rfl, HE1.out⟩

set_option maxHeartbeats 1000000 in
theorem rend_any (R : Nat) (lab : Nat → Nat) (e : Em.St) (w : World) (h : Rn R w lab e) (hl : e.out.length ≤ 600000) :
    Calls Tryz.prog 66 #[.pointer (some ⟨R, 0, none⟩)] w fun r w' => r = .returned (.tuple #[]) ∧ Mv (Rn R) w w' lab (Em.end' e) := by
  have HE0 : Hid (Mv (Rn R) w w lab e) := h.same (Below.refl _ _)
  clear h
  obtain ⟨F, D, H, fc, fR, fF, ffl, fmv⟩ := rflow HE0.out
  have HFL : Hid (Rf (w) F D H (e).fl) := ffl
  have HMV : Hid (∀ w' σ', Mvr (w) w' F D H σ' → Mv (Rn R) w w' lab { (e) with fl := σ' }) := fmv
  clear ffl fmv
  go_enter Tryz.func66, Tryz.ntmps66
  go_wp2_with fail
  refine (rfclear_any F D H _ _ HFL.out).mono ?_
  rintro r w1 ⟨rfl, hm⟩
  have HE1 : Hid (Mv (Rn R) w w1 lab (Em.clear e)) := HMV.out _ _ hm
  clear HE0 hm HFL HMV fc fR fF
  go_wp2_with fail
  refine (HE1.out.call fun lab1 h1 => rstop200_any R lab1 _ _ h1 (by show e.out.length ≤ _; omega)).mono ?_
  rintro r w2 ⟨rfl, hm⟩
  have HE2 : Hid (Mv (Rn R) w w2 lab (Em.stop200 (Em.clear e))) := hm
  clear HE1 hm
  have hl1 : (Em.stop200 (Em.clear e)).out.length ≤ e.out.length + 1 := Em.len_stop200 (Em.clear e)
  go_wp2_with fail
  refine (HE2.out.call fun lab1 h1 => rstop203_any R lab1 _ _ h1 (by omega)).mono ?_
  rintro r w3 ⟨rfl, hm⟩
  have HE3 : Hid (Mv (Rn R) w w3 lab (Em.stop203 (Em.stop200 (Em.clear e)))) := hm
  clear HE2 hm
  have ha3 := rcells HE3.out
  have k31 := ha3.c1
  have l3 := ha3.lt
  have g3 := ha3.f 1 (by decide)
  clear ha3
  have HE4 : Hid (Mv (Rn R) w (w3.setCell ⟨R, 1, none⟩ (.int .i64 4)) lab (Em.end' e)) := HE3.out.trans fun _ hx => hx.setState 4
  go_wp2
  go_end0
  exact ⟨rfl, HE4.out⟩

set_option maxHeartbeats 1000000 in
theorem runsure_any (R : Nat) (lab : Nat → Nat) (e : Em.St) (w : World) (h : Rn R w lab e) (hl : e.out.length ≤ 600000) :
    Calls Tryz.prog 116 #[.pointer (some ⟨R, 0, none⟩)] w fun r w' => r = .returned (.tuple #[]) ∧ Mv (Rn R) w w' lab (Em.unsure e) := by
  have HE0 : Hid (Mv (Rn R) w w lab e) := h.same (Below.refl _ _)
  clear h
  unfold Em.unsure
  obtain ⟨F, D, H, fc, fR, fF, ffl, fmv⟩ := rflow HE0.out
  have c7 := ffl.c7
  have q2 := ffl.qu.c2
  have fD := ffl.qu.lt
  by_cases hs : 0 < e.fl.sn
  · rw [if_pos hs]
    have hgt : decide ((e.fl.sn : Int) > 0) = true := by simp; omega
    have HFL : Hid (Rf w F D H e.fl) := ffl
    have HMV : Hid (∀ w' σ', Mvr w w' F D H σ' → Mv (Rn R) w w' lab { e with fl := σ' }) := fmv
    clear ffl fmv hs
    generalize (e.fl.sn : Int) = sn at q2 hgt
    go_enter Tryz.func116, Tryz.ntmps116
    go_wp2_with fail
    refine (rfclear_any F D H _ _ HFL.out).mono ?_
    rintro r w1 ⟨rfl, hm⟩
    have HE1 : Hid (Mv (Rn R) w w1 lab (Em.clear e)) := HMV.out _ _ hm
    clear HE0 hm HFL HMV fc fR fF c7 q2 fD hgt
    go_wp2_with fail
    refine (HE1.out.call fun lab1 h1 => rtell_any R lab1 _ 1 ByteArray.empty _ h1 (by show e.out.length ≤ _; omega)).mono ?_
    rintro r w2 ⟨rfl, hm⟩
    have HE2 : Hid (Mv (Rn R) w w2 lab (Em.tell (Em.clear e) 1 ByteArray.empty)) := hm
    clear HE1 hm
    go_wp2
    go_end0
    exact ⟨rfl, HE2.out⟩
  · rw [if_neg hs]
    have hgt : decide ((e.fl.sn : Int) > 0) = false := by simp; omega
    clear ffl fmv hs
    generalize (e.fl.sn : Int) = sn at q2 hgt
    go_enter Tryz.func116, Tryz.ntmps116
    go_wp2
    go_end0
    exact ⟨rfl, HE0.out⟩

end Go.Proofs.YtidemohpngkedabGreatDoor

namespace Go.Proofs.YtidemohpngkedabGreatDoor
open Go.RowKit
set_option linter.unusedVariables false
set_option maxRecDepth 100000
set_option linter.unusedSimpArgs false

set_option maxHeartbeats 1000000 in
theorem rgoOn_any (R : Nat) (lab : Nat → Nat) (e : Em.St) (w : World) (h : Rn R w lab e) (hl : e.out.length ≤ 500000) (ok : Em.FlOk e.fl) :
    Calls Tryz.prog 110 #[.pointer (some ⟨R, 0, none⟩)] w fun r w' => r = .returned (.tuple #[]) ∧ Mv (Rn R) w w' lab (Em.goOn e) := by
  by_cases h7 : e.state = 7
  · have HG0 : Hid (Em.GoI (Em.goOn e) 128 e) := Em.GoI.begin e h7 ok hl
    have HE0 : Hid (Mv (Rn R) w w lab e) := h.same (Below.refl _ _)
    have c1 := h.cs.c1
    have hlt := h.cs.lt
    rw [h7] at c1
    clear h h7 ok hl
    generalize Em.goOn e = X at HG0 ⊢
    go_enter Tryz.func110, Tryz.ntmps110
    go_wp2_with fail
    go_loopg [2] 128 (fun g c wr => ∃ (n : Nat) (e1 : Em.St), n + g = 128 ∧ c = .int .i64 n ∧ Hid (Mv (Rn R) w wr lab e1) ∧ Hid (Em.GoI X g e1))
    case atStart => exact ⟨0, e, rfl, rfl, HE0, HG0⟩
    case round =>
      obtain ⟨n, e1, hn, rfl, HE, HG⟩ := hrel
      clear HE0 HG0 c1 hlt
      by_cases hlt : n < 128
      · have hd : decide ((n : Int) < 128) = true := by simp; omega
        have ha := rcells HE.out
        have k5 := ha.c5
        have l0 := ha.lt
        clear ha k5
        obtain ⟨F, D, H, fc, fR, fF, ffl, fmv⟩ := rflow HE.out
        have HMV : Hid (∀ w' σ', Mvr wr w' F D H σ' → Mv (Rn R) w w' lab { e1 with fl := σ' }) := fmv
        have HT := rftake_any F D H e1.fl wr ffl HG.out.ok.ok
        have HN : Hid (n + gk = 128 ∧ n < 128) := ⟨hn, hlt⟩
        clear ffl fmv hn hlt
        cases hb : Wm.takeB e1.fl with
        | false =>
          rw [hb] at HT
          have HX : Hid (X = e1) := HG.out.stop hb
          have HTT : Hid (Wm.takeT e1.fl = e1.fl) := (Wm.take_no hb).2.2
          clear HG hb
          go_wp2_with fail
          refine HT.mono ?_
          rintro r w1 ⟨rfl, hm⟩
          have HE1 : Hid (Mv (Rn R) w w1 lab { e1 with fl := Wm.takeT e1.fl }) := HMV.out _ _ hm
          clear HT hm HMV HE
          go_wp2
          refine bodyPost_ret (v := .tuple #[]) (results_none rfl _ _ _) rfl ?_
          refine ⟨rfl, ?_⟩
          have := HE1.out
          rw [HTT.out] at this
          rw [HX.out]
          exact this
        | true =>
          rw [hb] at HT
          obtain ⟨g', hg, hG'⟩ := HG.out.step hb
          have HG2 : Hid (gk = g' + 1 ∧ Em.GoI X g' (Em.goOne e1)) := ⟨hg, hG'⟩
          have hlen : e1.out.length ≤ 600000 := by have := HG.out.le; omega
          clear HG hb hg hG'
          go_wp2_with fail
          refine HT.mono ?_
          rintro r w1 ⟨rfl, hm⟩
          have HE1 : Hid (Mv (Rn R) w w1 lab { e1 with fl := Wm.takeT e1.fl }) := HMV.out _ _ hm
          clear HT hm HMV HE fc fR fF
          go_wp2_with fail
          refine (HE1.out.call fun lab1 h1 => rsend_any R lab1 _ ⟨0, 0, true, 0, false, Wm.takeN e1.fl, 0, Wm.takeS e1.fl⟩ _ h1 (by show e1.out.length ≤ _; omega)).mono ?_
          rintro r w2 ⟨rfl, hm⟩
          obtain ⟨e2, he2⟩ : ∃ e2, e2 = Em.send { e1 with fl := Wm.takeT e1.fl } ⟨0, 0, true, 0, false, Wm.takeN e1.fl, 0, Wm.takeS e1.fl⟩ := ⟨_, rfl⟩
          have hl2 : e2.out.length ≤ 600001 := by rw [he2, Em.len_send]; show e1.out.length + 1 ≤ _; omega
          have HO : Hid (Em.goOne e1 = if e2.t200 then e2 else Em.start200 (Em.stop203 e2)) := by rw [he2]; rfl
          have HE2 : Hid (Mv (Rn R) w w2 lab e2) := by rw [he2]; exact hm
          clear HE1 hm he2 hlen
          have ha := rcells HE2.out
          have k5 := ha.c5
          have l2 := ha.lt
          clear ha l0
          cases ht : e2.t200 with
          | true =>
            rw [ht] at k5
            have HO2 : Hid (Em.goOne e1 = e2) := by have := HO.out; rw [ht, if_pos rfl] at this; exact this
            clear HO ht
            go_wp2
            go_roundg g'
            case measure => have := HG2.out.1; omega
            case rel => exact ⟨n + 1, e2, by have := HG2.out.1; have := HN.out; omega, by have := HN.out; rw [show wrap64 ((n : Int) + 1) = ((n + 1 : Nat) : Int) by unfold wrap64; omega], HE2, by have := HG2.out.2; rw [HO2.out] at this; exact this⟩
          | false =>
            rw [ht] at k5
            have HO2 : Hid (Em.goOne e1 = Em.start200 (Em.stop203 e2)) := by have := HO.out; rw [ht, if_neg (by decide)] at this; exact this
            clear HO ht
            go_wp2_with fail
            refine (HE2.out.call fun lab1 h1 => rstop203_any R lab1 _ _ h1 (by omega)).mono ?_
            rintro r w3 ⟨rfl, hm⟩
            have HE3 : Hid (Mv (Rn R) w w3 lab (Em.stop203 e2)) := hm
            clear HE2 hm k5 l2
            have hl3 := Em.len_stop203 e2
            go_wp2_with fail
            refine (HE3.out.call fun lab1 h1 => rstart200_any R lab1 _ _ h1 (by omega)).mono ?_
            rintro r w4 ⟨rfl, hm⟩
            have HE4 : Hid (Mv (Rn R) w w4 lab (Em.start200 (Em.stop203 e2))) := hm
            clear HE3 hm hl2 hl3
            go_wp2
            go_roundg g'
            case measure => have := HG2.out.1; omega
            case rel => exact ⟨n + 1, _, by have := HG2.out.1; have := HN.out; omega, by have := HN.out; rw [show wrap64 ((n : Int) + 1) = ((n + 1 : Nat) : Int) by unfold wrap64; omega], HE4, by have := HG2.out.2; rw [HO2.out] at this; exact this⟩
      · have hd : decide ((n : Int) < 128) = false := by simp; omega
        have hg0 : gk = 0 := by omega
        have HX : Hid (X = e1) := by have := HG.out.eq; rw [hg0] at this; exact this.symm
        clear HG hg0 hn hlt
        go_wp2
        go_end0
        exact ⟨rfl, by rw [HX.out]; exact HE.out⟩
  · have HX : Hid (Em.goOn e = e) := by show _ = _; unfold Em.goOn; rw [if_neg h7]
    have HE0 : Hid (Mv (Rn R) w w lab e) := h.same (Below.refl _ _)
    have c1 := h.cs.c1
    have hlt := h.cs.lt
    have hne : (e.state == 7) = false := by simpa using h7
    clear h h7 ok hl
    generalize e.state = s at c1 hne
    go_enter Tryz.func110, Tryz.ntmps110
    go_wp2
    refine bodyPost_ret (v := .tuple #[]) (results_none rfl _ _ _) rfl ?_
    exact ⟨rfl, by rw [HX.out]; exact HE0.out⟩

set_option maxHeartbeats 1000000 in
theorem ropen_any (R : Nat) (lab : Nat → Nat) (e : Em.St) (w : World) (h : Rn R w lab e) (hl : e.out.length ≤ 400000) (ok : Em.FlOk e.fl) :
    Calls Tryz.prog 114 #[.pointer (some ⟨R, 0, none⟩)] w fun r w' => r = .returned (.tuple #[]) ∧ Mv (Rn R) w w' lab (Em.open' e) := by
  have HE0 : Hid (Mv (Rn R) w w lab e) := h.same (Below.refl _ _)
  have hok : Em.FlOk (Wm.resetT e.fl) := ok.reset
  clear h ok
  obtain ⟨F, D, H, fc, fR, fF, ffl, fmv⟩ := rflow HE0.out
  have HFL : Hid (Rf (w) F D H (e).fl) := ffl
  have HMV : Hid (∀ w' σ', Mvr (w) w' F D H σ' → Mv (Rn R) w w' lab { (e) with fl := σ' }) := fmv
  clear ffl fmv
  go_enter Tryz.func114, Tryz.ntmps114
  go_wp2_with fail
  refine (rfreset_any F D H _ _ HFL.out).mono ?_
  rintro r w1 ⟨rfl, hm⟩
  have HE1 : Hid (Mv (Rn R) w w1 lab ({ e with fl := Wm.resetT e.fl })) := HMV.out _ _ hm
  clear HE0 hm HFL HMV fc fR fF
  go_wp2_with fail
  refine (HE1.out.call fun lab1 h1 => rstop200_any R lab1 _ _ h1 (by show e.out.length ≤ _; omega)).mono ?_
  rintro r w2 ⟨rfl, hm⟩
  have HE2 : Hid (Mv (Rn R) w w2 lab (Em.stop200 { e with fl := Wm.resetT e.fl })) := hm
  clear HE1 hm
  have hl1 : (Em.stop200 { e with fl := Wm.resetT e.fl }).out.length ≤ e.out.length + 1 := Em.len_stop200 { e with fl := Wm.resetT e.fl }
  go_wp2_with fail
  refine (HE2.out.call fun lab1 h1 => rstart203_any R lab1 _ _ h1 (by omega)).mono ?_
  rintro r w3 ⟨rfl, hm⟩
  have HE3 : Hid (Mv (Rn R) w w3 lab (Em.start203 (Em.stop200 { e with fl := Wm.resetT e.fl }))) := hm
  clear HE2 hm
  have ha3 := rcells HE3.out
  have k31 := ha3.c1
  have l3 := ha3.lt
  have g3 := ha3.f 1 (by decide)
  clear ha3
  have HE4 : Hid (Mv (Rn R) w (w3.setCell ⟨R, 1, none⟩ (.int .i64 7)) lab ({ Em.start203 (Em.stop200 { e with fl := Wm.resetT e.fl }) with state := 7 })) := HE3.out.trans fun _ hx => hx.setState 7
  go_wp2_with fail
  refine (HE4.out.call fun lab1 h1 => rgoOn_any R lab1 _ _ h1 (by show (Em.start203 (Em.stop200 { e with fl := Wm.resetT e.fl })).out.length ≤ _; rw [Em.len_start203]; omega) (by show Em.FlOk (Em.stop200 { e with fl := Wm.resetT e.fl }).fl; rw [(Em.stop200_keep _).fl]; exact hok)).mono ?_
  rintro r w5 ⟨rfl, hm⟩
  have HE5 : Hid (Mv (Rn R) w w5 lab (Em.open' e)) := hm
  clear HE4 hm
  go_wp2
  go_end0
  exact ⟨rfl, HE5.out⟩

set_option maxHeartbeats 1000000 in
theorem rcount_any (R : Nat) (lab : Nat → Nat) (e : Em.St) (n : Int) (w : World) (h : Rn R w lab e) (hl : e.out.length ≤ 600000) :
    Calls Tryz.prog 141 #[.pointer (some ⟨R, 0, none⟩), .int .i64 n] w fun r w' => r = .returned (.tuple #[]) ∧ Mv (Rn R) w w' lab (Em.count e n) := by
  have HE0 : Hid (Mv (Rn R) w w lab e) := h.same (Below.refl _ _)
  clear h
  unfold Em.count
  obtain ⟨F, D, H, fc, fR, fF, ffl, fmv⟩ := rflow HE0.out
  have v0 := ffl.fr.c0
  have v1 := ffl.fr.c1
  clear ffl fmv
  by_cases hv : e.fl.va = e.fl.vs
  · rw [if_pos hv]
    have hvv : (e.fl.va == e.fl.vs) = true := by simpa using hv
    clear hv
    generalize e.fl.va = va at v0 v1 hvv
    generalize e.fl.vs = vs at v0 v1 hvv
    go_enter Tryz.func141, Tryz.ntmps141
    go_wp2
    go_region
    go_wp2_with fail
    refine ((Rn.thenB HE0.out ((Below.refl _ _).drew)).call fun lab1 h1 => rstop200_any R lab1 _ _ h1 (by omega)).mono ?_
    rintro r w1 ⟨rfl, hm⟩
    have HE1 : Hid (Mv (Rn R) w w1 lab (Em.stop200 e)) := hm
    clear HE0 hm
    clear fc fR fF v0 v1 hvv
    have hl1 := Em.len_stop200 e
    go_wp2_with fail
    refine (HE1.out.call fun lab1 h1 => rstart203_any R lab1 _ _ h1 (by omega)).mono ?_
    rintro r w2 ⟨rfl, hm⟩
    have HE2 : Hid (Mv (Rn R) w w2 lab (Em.start203 (Em.stop200 e))) := hm
    clear HE1 hm
    go_wp2
    refine bodyPost_ret (v := .tuple #[]) (results_none rfl _ _ _) rfl ?_
    exact ⟨rfl, HE2.out⟩
  · rw [if_neg hv]
    have hvv : (e.fl.va == e.fl.vs) = false := by simpa using hv
    clear hv
    generalize e.fl.va = va at v0 v1 hvv
    generalize e.fl.vs = vs at v0 v1 hvv
    by_cases hn : 0 < n
    · rw [if_pos hn]
      have hd : decide (n > 0) = true := by simp; omega
      clear hn
      go_enter Tryz.func141, Tryz.ntmps141
      go_wp2
      go_region
      go_wp2_with fail
      refine ((Rn.thenB HE0.out ((Below.refl _ _).drew)).call fun lab1 h1 => rstart200_any R lab1 _ _ h1 (by omega)).mono ?_
      rintro r w1 ⟨rfl, hm⟩
      have HE1 : Hid (Mv (Rn R) w w1 lab (Em.start200 e)) := hm
      clear HE0 hm
      go_wp2
      go_end0
      exact ⟨rfl, HE1.out⟩
    · rw [if_neg hn]
      have hd : decide (n > 0) = false := by simp; omega
      clear hn
      go_enter Tryz.func141, Tryz.ntmps141
      go_wp2
      go_region
      go_wp2
      go_end0
      exact ⟨rfl, Rn.thenB HE0.out ((Below.refl _ _).drew)⟩

end Go.Proofs.YtidemohpngkedabGreatDoor

namespace Go.Proofs.YtidemohpngkedabGreatDoor
open Go.RowKit
set_option linter.unusedVariables false
set_option maxRecDepth 100000
set_option linter.unusedSimpArgs false

set_option maxHeartbeats 1000000 in
theorem rinAssigned_any (R : Nat) (lab : Nat → Nat) (e : Em.St) (f : Em.Fr) (w : World) (h : Rn R w lab e) (hl : e.out.length ≤ 200000) (ok : Em.FlOk e.fl) :
    Calls Tryz.prog 71 #[.pointer (some ⟨R, 0, none⟩), frmV f] w fun r w' => r = .returned (.tuple #[]) ∧ Mv (Rn R) w w' lab (Em.inAssigned e f) := by
  obtain ⟨sapi, tei, c, k, pf, ns, nr, info⟩ := f
  have HB : Hid (∀ o, Mv (Rn R) w (w.alloc o) lab e) := fun o => h.same ((Below.refl _ _).alloc (Nat.le_refl _) o)
  have HB0 : Hid (Mv (Rn R) w w lab e) := h.same (Below.refl _ _)
  have hcs := h.cs.c4
  have hlt := h.cs.lt
  clear h
  unfold frmV
  rcases (show k = 4 ∨ k = 7 ∨ k = 8 ∨ k = 5 ∨ (¬ k = 4 ∧ ¬ k = 7 ∧ ¬ k = 8 ∧ ¬ k = 5) by omega) with rfl | rfl | rfl | rfl | ⟨e4, e7, e8, e5⟩
  · skip
    have hres : Em.inAssigned e ⟨sapi, tei, c, 4, pf, ns, nr, info⟩ = Em.open' (Em.tell (Em.send e (Em.bare false 8 pf)) 1 ByteArray.empty) := by first | rfl | (unfold Em.inAssigned; simp)
    rw [hres]
    clear hres
    have HE0 : Hid (Mv (Rn R) w (w.alloc (.cells #[.int .i64 sapi, .int .i64 tei, .bool c, .int .i64 4, .bool pf, .int .i64 ns, .int .i64 nr, .string info] 50)) lab e) := HB.out _
    clear HB
    go_enter Tryz.func71, Tryz.ntmps71
    go_wp2_with fail
    refine (HE0.out.call fun lab1 h1 => rreply_any R lab1 _ 8 ⟨sapi, tei, c, 4, pf, ns, nr, info⟩ _ h1 (by omega)).mono ?_
    rintro r w1 ⟨rfl, hm⟩
    have HE1 : Hid (Mv (Rn R) w w1 lab (Em.send e (Em.bare false 8 pf))) := hm
    clear HE0 hm
    go_wp2_with fail
    refine (HE1.out.call fun lab1 h1 => rtell_any R lab1 _ 1 ByteArray.empty _ h1 (by rw [Em.len_send]; omega)).mono ?_
    rintro r w2 ⟨rfl, hm⟩
    have HE2 : Hid (Mv (Rn R) w w2 lab (Em.tell (Em.send e (Em.bare false 8 pf)) 1 ByteArray.empty)) := hm
    clear HE1 hm
    go_wp2_with fail
    refine (HE2.out.call fun lab1 h1 => ropen_any R lab1 _ _ h1 (by rw [Em.len_tell, Em.len_send]; omega) ok).mono ?_
    rintro r w3 ⟨rfl, hm⟩
    have HE3 : Hid (Mv (Rn R) w w3 lab (Em.open' (Em.tell (Em.send e (Em.bare false 8 pf)) 1 ByteArray.empty))) := hm
    clear HE2 hm
    go_wp2
    go_end0
    exact ⟨rfl, HE3.out⟩
  · skip
    have hres : Em.inAssigned e ⟨sapi, tei, c, 7, pf, ns, nr, info⟩ = Em.send e (Em.bare false 5 pf) := by first | rfl | (unfold Em.inAssigned; simp)
    rw [hres]
    clear hres
    have HE0 : Hid (Mv (Rn R) w (w.alloc (.cells #[.int .i64 sapi, .int .i64 tei, .bool c, .int .i64 7, .bool pf, .int .i64 ns, .int .i64 nr, .string info] 50)) lab e) := HB.out _
    clear HB
    go_enter Tryz.func71, Tryz.ntmps71
    go_wp2_with fail
    refine (HE0.out.call fun lab1 h1 => rreply_any R lab1 _ 5 ⟨sapi, tei, c, 7, pf, ns, nr, info⟩ _ h1 (by omega)).mono ?_
    rintro r w1 ⟨rfl, hm⟩
    have HE1 : Hid (Mv (Rn R) w w1 lab (Em.send e (Em.bare false 5 pf))) := hm
    clear HE0 hm
    go_wp2
    go_end0
    exact ⟨rfl, HE1.out⟩
  · skip
    have hres : Em.inAssigned e ⟨sapi, tei, c, 8, pf, ns, nr, info⟩ = Em.strange e ⟨sapi, tei, c, 8, pf, ns, nr, info⟩ := by first | rfl | (unfold Em.inAssigned; simp)
    rw [hres]
    clear hres
    have HE0 : Hid (Mv (Rn R) w (w.alloc (.cells #[.int .i64 sapi, .int .i64 tei, .bool c, .int .i64 8, .bool pf, .int .i64 ns, .int .i64 nr, .string info] 50)) lab e) := HB.out _
    clear HB
    go_enter Tryz.func71, Tryz.ntmps71
    go_wp2_with fail
    refine (HE0.out.call fun lab1 h1 => rstrange_any R lab1 _ ⟨sapi, tei, c, 8, pf, ns, nr, info⟩ _ h1 (by omega)).mono ?_
    rintro r w1 ⟨rfl, hm⟩
    have HE1 : Hid (Mv (Rn R) w w1 lab (Em.strange e ⟨sapi, tei, c, 8, pf, ns, nr, info⟩)) := hm
    clear HE0 hm
    go_wp2
    go_end0
    exact ⟨rfl, HE1.out⟩
  · cases pf with
    | true =>
      have hres : Em.inAssigned e ⟨sapi, tei, c, 5, true, ns, nr, info⟩ = e := by first | rfl | (unfold Em.inAssigned; simp)
      rw [hres]
      clear hres
      have HE0 : Hid (Mv (Rn R) w (w.alloc (.cells #[.int .i64 sapi, .int .i64 tei, .bool c, .int .i64 5, .bool true, .int .i64 ns, .int .i64 nr, .string info] 50)) lab e) := HB.out _
      clear HB
      go_enter Tryz.func71, Tryz.ntmps71
      go_wp2
      go_end0
      exact ⟨rfl, HE0.out⟩
    | false =>
      have hres : Em.inAssigned e ⟨sapi, tei, c, 5, false, ns, nr, info⟩ = Em.call { e with asked := true } := by first | rfl | (unfold Em.inAssigned; simp)
      rw [hres]
      clear hres
      have HE0 := HB0
      clear HB HB0
      have ha0 := rcells HE0.out
      have k04 := ha0.c4
      have l0 := ha0.lt
      have g0 := ha0.f 4 (by decide)
      clear ha0
      have HE1 : Hid (Mv (Rn R) w (w.setCell ⟨R, 4, none⟩ (.bool true)) lab ({ e with asked := true })) := HE0.out.trans fun _ hx => hx.setAsked true
      go_enter Tryz.func71, Tryz.ntmps71
      go_wp2_with fail
      refine ((Rn.thenB HE1.out ((Below.refl _ _).alloc (Nat.le_refl _) _)).call fun lab1 h1 => rcall_any R lab1 _ _ h1 (by show e.out.length ≤ _; omega)).mono ?_
      rintro r w2 ⟨rfl, hm⟩
      have HE2 : Hid (Mv (Rn R) w w2 lab (Em.call { e with asked := true })) := hm
      clear HE1 hm
      go_wp2
      go_end0
      exact ⟨rfl, HE2.out⟩
  · skip
    have hres : Em.inAssigned e ⟨sapi, tei, c, k, pf, ns, nr, info⟩ = e := by first | rfl | (unfold Em.inAssigned; simp [e4, e7, e8, e5])
    rw [hres]
    clear hres
    have n4 : (k == 4) = false := by simp; exact e4
    have n7 : (k == 7) = false := by simp; exact e7
    have n8 : (k == 8) = false := by simp; exact e8
    have n5 : (k == 5) = false := by simp; exact e5
    clear e4 e7 e8 e5
    have HE0 : Hid (Mv (Rn R) w (w.alloc (.cells #[.int .i64 sapi, .int .i64 tei, .bool c, .int .i64 k, .bool pf, .int .i64 ns, .int .i64 nr, .string info] 50)) lab e) := HB.out _
    clear HB
    go_enter Tryz.func71, Tryz.ntmps71
    go_wp2
    go_end0
    exact ⟨rfl, HE0.out⟩

set_option maxHeartbeats 1000000 in
theorem rinConnecting_any (R : Nat) (lab : Nat → Nat) (e : Em.St) (f : Em.Fr) (w : World) (h : Rn R w lab e) (hl : e.out.length ≤ 200000) (ok : Em.FlOk e.fl) :
    Calls Tryz.prog 72 #[.pointer (some ⟨R, 0, none⟩), frmV f] w fun r w' => r = .returned (.tuple #[]) ∧ Mv (Rn R) w w' lab (Em.inConnecting e f) := by
  obtain ⟨sapi, tei, c, k, pf, ns, nr, info⟩ := f
  have HB : Hid (∀ o, Mv (Rn R) w (w.alloc o) lab e) := fun o => h.same ((Below.refl _ _).alloc (Nat.le_refl _) o)
  have HB0 : Hid (Mv (Rn R) w w lab e) := h.same (Below.refl _ _)
  have hcs := h.cs.c4
  have hlt := h.cs.lt
  clear h
  unfold frmV
  rcases (show k = 4 ∨ k = 7 ∨ k = 8 ∨ k = 5 ∨ (¬ k = 4 ∧ ¬ k = 7 ∧ ¬ k = 8 ∧ ¬ k = 5) by omega) with rfl | rfl | rfl | rfl | ⟨e4, e7, e8, e5⟩
  · skip
    have hres : Em.inConnecting e ⟨sapi, tei, c, 4, pf, ns, nr, info⟩ = Em.send e (Em.bare false 8 pf) := by first | rfl | (unfold Em.inConnecting; simp)
    rw [hres]
    clear hres
    have HE0 : Hid (Mv (Rn R) w (w.alloc (.cells #[.int .i64 sapi, .int .i64 tei, .bool c, .int .i64 4, .bool pf, .int .i64 ns, .int .i64 nr, .string info] 50)) lab e) := HB.out _
    clear HB
    go_enter Tryz.func72, Tryz.ntmps72
    go_wp2_with fail
    refine (HE0.out.call fun lab1 h1 => rreply_any R lab1 _ 8 ⟨sapi, tei, c, 4, pf, ns, nr, info⟩ _ h1 (by omega)).mono ?_
    rintro r w1 ⟨rfl, hm⟩
    have HE1 : Hid (Mv (Rn R) w w1 lab (Em.send e (Em.bare false 8 pf))) := hm
    clear HE0 hm
    go_wp2
    go_end0
    exact ⟨rfl, HE1.out⟩
  · skip
    have hres : Em.inConnecting e ⟨sapi, tei, c, 7, pf, ns, nr, info⟩ = Em.send e (Em.bare false 5 pf) := by first | rfl | (unfold Em.inConnecting; simp)
    rw [hres]
    clear hres
    have HE0 : Hid (Mv (Rn R) w (w.alloc (.cells #[.int .i64 sapi, .int .i64 tei, .bool c, .int .i64 7, .bool pf, .int .i64 ns, .int .i64 nr, .string info] 50)) lab e) := HB.out _
    clear HB
    go_enter Tryz.func72, Tryz.ntmps72
    go_wp2_with fail
    refine (HE0.out.call fun lab1 h1 => rreply_any R lab1 _ 5 ⟨sapi, tei, c, 7, pf, ns, nr, info⟩ _ h1 (by omega)).mono ?_
    rintro r w1 ⟨rfl, hm⟩
    have HE1 : Hid (Mv (Rn R) w w1 lab (Em.send e (Em.bare false 5 pf))) := hm
    clear HE0 hm
    go_wp2
    go_end0
    exact ⟨rfl, HE1.out⟩
  · cases pf with
    | false =>
      have hres : Em.inConnecting e ⟨sapi, tei, c, 8, false, ns, nr, info⟩ = Em.tell e 7 (Em.letter 68) := by first | rfl | (unfold Em.inConnecting; simp)
      rw [hres]
      clear hres
      have HE0 : Hid (Mv (Rn R) w (w.alloc (.cells #[.int .i64 sapi, .int .i64 tei, .bool c, .int .i64 8, .bool false, .int .i64 ns, .int .i64 nr, .string info] 50)) lab e) := HB.out _
      clear HB
      go_enter Tryz.func72, Tryz.ntmps72
      go_wp2_with fail
      refine (HE0.out.call fun lab1 h1 => rtell_any R lab1 _ 7 (Em.letter 68) _ h1 (by omega)).mono ?_
      rintro r w1 ⟨rfl, hm⟩
      have HE1 : Hid (Mv (Rn R) w w1 lab (Em.tell e 7 (Em.letter 68))) := hm
      clear HE0 hm
      go_wp2
      refine bodyPost_ret (v := .tuple #[]) (results_none rfl _ _ _) rfl ?_
      exact ⟨rfl, HE1.out⟩
    | true =>
      cases ha : e.asked with
      | true =>
        rw [ha] at hcs
        have hres : Em.inConnecting e ⟨sapi, tei, c, 8, true, ns, nr, info⟩ = Em.open' { Em.tell e 2 ByteArray.empty with asked := false } := by first | rfl | (unfold Em.inConnecting; simp [ha])
        rw [hres]
        clear hres
        have HE0 : Hid (Mv (Rn R) w (w.alloc (.cells #[.int .i64 sapi, .int .i64 tei, .bool c, .int .i64 8, .bool true, .int .i64 ns, .int .i64 nr, .string info] 50)) lab e) := HB.out _
        clear HB
        have hk4 := (rcells HE0.out).c4
        have hkl := (rcells HE0.out).lt
        rw [ha] at hk4
        clear ha hcs hlt
        go_enter Tryz.func72, Tryz.ntmps72
        go_wp2_with fail
        refine (HE0.out.call fun lab1 h1 => rtell_any R lab1 _ 2 ByteArray.empty _ h1 (by omega)).mono ?_
        rintro r w1 ⟨rfl, hm⟩
        have HE1 : Hid (Mv (Rn R) w w1 lab (Em.tell e 2 ByteArray.empty)) := hm
        clear HE0 hm
        clear hk4 hkl
        have ha1 := rcells HE1.out
        have k14 := ha1.c4
        have l1 := ha1.lt
        have g1 := ha1.f 4 (by decide)
        clear ha1
        have HE2 : Hid (Mv (Rn R) w (w1.setCell ⟨R, 4, none⟩ (.bool false)) lab ({ Em.tell e 2 ByteArray.empty with asked := false })) := HE1.out.trans fun _ hx => hx.setAsked false
        go_wp2_with fail
        refine (HE2.out.call fun lab1 h1 => ropen_any R lab1 _ _ h1 (by show (Em.tell e 2 ByteArray.empty).out.length ≤ _; rw [Em.len_tell]; omega) ok).mono ?_
        rintro r w3 ⟨rfl, hm⟩
        have HE3 : Hid (Mv (Rn R) w w3 lab (Em.open' { Em.tell e 2 ByteArray.empty with asked := false })) := hm
        clear HE2 hm
        go_wp2
        go_end0
        exact ⟨rfl, HE3.out⟩
      | false =>
        rw [ha] at hcs
        have hres : Em.inConnecting e ⟨sapi, tei, c, 8, true, ns, nr, info⟩ = Em.open' { Em.unsure e with asked := false } := by first | rfl | (unfold Em.inConnecting; simp [ha])
        rw [hres]
        clear hres
        have HE0 : Hid (Mv (Rn R) w (w.alloc (.cells #[.int .i64 sapi, .int .i64 tei, .bool c, .int .i64 8, .bool true, .int .i64 ns, .int .i64 nr, .string info] 50)) lab e) := HB.out _
        clear HB
        have hk4 := (rcells HE0.out).c4
        have hkl := (rcells HE0.out).lt
        rw [ha] at hk4
        clear ha hcs hlt
        go_enter Tryz.func72, Tryz.ntmps72
        go_wp2_with fail
        refine (HE0.out.call fun lab1 h1 => runsure_any R lab1 _ _ h1 (by omega)).mono ?_
        rintro r w1 ⟨rfl, hm⟩
        have HE1 : Hid (Mv (Rn R) w w1 lab (Em.unsure e)) := hm
        clear HE0 hm
        clear hk4 hkl
        have hok : Em.FlOk (Em.unsure e).fl := by unfold Em.unsure; split <;> first | exact ok.clear | exact ok
        have hl1 := Em.len_unsure e
        have ha1 := rcells HE1.out
        have k14 := ha1.c4
        have l1 := ha1.lt
        have g1 := ha1.f 4 (by decide)
        clear ha1
        have HE2 : Hid (Mv (Rn R) w (w1.setCell ⟨R, 4, none⟩ (.bool false)) lab ({ Em.unsure e with asked := false })) := HE1.out.trans fun _ hx => hx.setAsked false
        go_wp2_with fail
        refine (HE2.out.call fun lab1 h1 => ropen_any R lab1 _ _ h1 (by show (Em.unsure e).out.length ≤ _; omega) hok).mono ?_
        rintro r w3 ⟨rfl, hm⟩
        have HE3 : Hid (Mv (Rn R) w w3 lab (Em.open' { Em.unsure e with asked := false })) := hm
        clear HE2 hm
        go_wp2
        go_end0
        exact ⟨rfl, HE3.out⟩
  · cases pf with
    | true =>
      have hres : Em.inConnecting e ⟨sapi, tei, c, 5, true, ns, nr, info⟩ = Em.end' (Em.tell e 3 ByteArray.empty) := by first | rfl | (unfold Em.inConnecting; simp)
      rw [hres]
      clear hres
      have HE0 : Hid (Mv (Rn R) w (w.alloc (.cells #[.int .i64 sapi, .int .i64 tei, .bool c, .int .i64 5, .bool true, .int .i64 ns, .int .i64 nr, .string info] 50)) lab e) := HB.out _
      clear HB
      go_enter Tryz.func72, Tryz.ntmps72
      go_wp2_with fail
      refine (HE0.out.call fun lab1 h1 => rtell_any R lab1 _ 3 ByteArray.empty _ h1 (by omega)).mono ?_
      rintro r w1 ⟨rfl, hm⟩
      have HE1 : Hid (Mv (Rn R) w w1 lab (Em.tell e 3 ByteArray.empty)) := hm
      clear HE0 hm
      go_wp2_with fail
      refine (HE1.out.call fun lab1 h1 => rend_any R lab1 _ _ h1 (by rw [Em.len_tell]; omega)).mono ?_
      rintro r w2 ⟨rfl, hm⟩
      have HE2 : Hid (Mv (Rn R) w w2 lab (Em.end' (Em.tell e 3 ByteArray.empty))) := hm
      clear HE1 hm
      go_wp2
      go_end0
      exact ⟨rfl, HE2.out⟩
    | false =>
      have hres : Em.inConnecting e ⟨sapi, tei, c, 5, false, ns, nr, info⟩ = e := by first | rfl | (unfold Em.inConnecting; simp)
      rw [hres]
      clear hres
      have HE0 : Hid (Mv (Rn R) w (w.alloc (.cells #[.int .i64 sapi, .int .i64 tei, .bool c, .int .i64 5, .bool false, .int .i64 ns, .int .i64 nr, .string info] 50)) lab e) := HB.out _
      clear HB
      go_enter Tryz.func72, Tryz.ntmps72
      go_wp2
      go_end0
      exact ⟨rfl, HE0.out⟩
  · skip
    have hres : Em.inConnecting e ⟨sapi, tei, c, k, pf, ns, nr, info⟩ = e := by first | rfl | (unfold Em.inConnecting; simp [e4, e7, e8, e5])
    rw [hres]
    clear hres
    have n4 : (k == 4) = false := by simp; exact e4
    have n7 : (k == 7) = false := by simp; exact e7
    have n8 : (k == 8) = false := by simp; exact e8
    have n5 : (k == 5) = false := by simp; exact e5
    clear e4 e7 e8 e5
    have HE0 : Hid (Mv (Rn R) w (w.alloc (.cells #[.int .i64 sapi, .int .i64 tei, .bool c, .int .i64 k, .bool pf, .int .i64 ns, .int .i64 nr, .string info] 50)) lab e) := HB.out _
    clear HB
    go_enter Tryz.func72, Tryz.ntmps72
    go_wp2
    go_end0
    exact ⟨rfl, HE0.out⟩

set_option maxHeartbeats 1000000 in
theorem rinReleasing_any (R : Nat) (lab : Nat → Nat) (e : Em.St) (f : Em.Fr) (w : World) (h : Rn R w lab e) (hl : e.out.length ≤ 200000) (ok : Em.FlOk e.fl) :
    Calls Tryz.prog 73 #[.pointer (some ⟨R, 0, none⟩), frmV f] w fun r w' => r = .returned (.tuple #[]) ∧ Mv (Rn R) w w' lab (Em.inReleasing e f) := by
  obtain ⟨sapi, tei, c, k, pf, ns, nr, info⟩ := f
  have HB : Hid (∀ o, Mv (Rn R) w (w.alloc o) lab e) := fun o => h.same ((Below.refl _ _).alloc (Nat.le_refl _) o)
  have HB0 : Hid (Mv (Rn R) w w lab e) := h.same (Below.refl _ _)
  have hcs := h.cs.c4
  have hlt := h.cs.lt
  clear h
  unfold frmV
  rcases (show k = 4 ∨ k = 7 ∨ k = 8 ∨ k = 5 ∨ (¬ k = 4 ∧ ¬ k = 7 ∧ ¬ k = 8 ∧ ¬ k = 5) by omega) with rfl | rfl | rfl | rfl | ⟨e4, e7, e8, e5⟩
  · skip
    have hres : Em.inReleasing e ⟨sapi, tei, c, 4, pf, ns, nr, info⟩ = Em.send e (Em.bare false 5 pf) := by first | rfl | (unfold Em.inReleasing; simp)
    rw [hres]
    clear hres
    have HE0 : Hid (Mv (Rn R) w (w.alloc (.cells #[.int .i64 sapi, .int .i64 tei, .bool c, .int .i64 4, .bool pf, .int .i64 ns, .int .i64 nr, .string info] 50)) lab e) := HB.out _
    clear HB
    go_enter Tryz.func73, Tryz.ntmps73
    go_wp2_with fail
    refine (HE0.out.call fun lab1 h1 => rreply_any R lab1 _ 5 ⟨sapi, tei, c, 4, pf, ns, nr, info⟩ _ h1 (by omega)).mono ?_
    rintro r w1 ⟨rfl, hm⟩
    have HE1 : Hid (Mv (Rn R) w w1 lab (Em.send e (Em.bare false 5 pf))) := hm
    clear HE0 hm
    go_wp2
    go_end0
    exact ⟨rfl, HE1.out⟩
  · skip
    have hres : Em.inReleasing e ⟨sapi, tei, c, 7, pf, ns, nr, info⟩ = Em.send e (Em.bare false 8 pf) := by first | rfl | (unfold Em.inReleasing; simp)
    rw [hres]
    clear hres
    have HE0 : Hid (Mv (Rn R) w (w.alloc (.cells #[.int .i64 sapi, .int .i64 tei, .bool c, .int .i64 7, .bool pf, .int .i64 ns, .int .i64 nr, .string info] 50)) lab e) := HB.out _
    clear HB
    go_enter Tryz.func73, Tryz.ntmps73
    go_wp2_with fail
    refine (HE0.out.call fun lab1 h1 => rreply_any R lab1 _ 8 ⟨sapi, tei, c, 7, pf, ns, nr, info⟩ _ h1 (by omega)).mono ?_
    rintro r w1 ⟨rfl, hm⟩
    have HE1 : Hid (Mv (Rn R) w w1 lab (Em.send e (Em.bare false 8 pf))) := hm
    clear HE0 hm
    go_wp2
    go_end0
    exact ⟨rfl, HE1.out⟩
  · cases pf with
    | true =>
      have hres : Em.inReleasing e ⟨sapi, tei, c, 8, true, ns, nr, info⟩ = Em.end' (Em.tell e 4 ByteArray.empty) := by first | rfl | (unfold Em.inReleasing; simp)
      rw [hres]
      clear hres
      have HE0 : Hid (Mv (Rn R) w (w.alloc (.cells #[.int .i64 sapi, .int .i64 tei, .bool c, .int .i64 8, .bool true, .int .i64 ns, .int .i64 nr, .string info] 50)) lab e) := HB.out _
      clear HB
      go_enter Tryz.func73, Tryz.ntmps73
      go_wp2_with fail
      refine (HE0.out.call fun lab1 h1 => rtell_any R lab1 _ 4 ByteArray.empty _ h1 (by omega)).mono ?_
      rintro r w1 ⟨rfl, hm⟩
      have HE1 : Hid (Mv (Rn R) w w1 lab (Em.tell e 4 ByteArray.empty)) := hm
      clear HE0 hm
      go_wp2_with fail
      refine (HE1.out.call fun lab1 h1 => rend_any R lab1 _ _ h1 (by rw [Em.len_tell]; omega)).mono ?_
      rintro r w2 ⟨rfl, hm⟩
      have HE2 : Hid (Mv (Rn R) w w2 lab (Em.end' (Em.tell e 4 ByteArray.empty))) := hm
      clear HE1 hm
      go_wp2
      refine bodyPost_ret (v := .tuple #[]) (results_none rfl _ _ _) rfl ?_
      exact ⟨rfl, HE2.out⟩
    | false =>
      have hres : Em.inReleasing e ⟨sapi, tei, c, 8, false, ns, nr, info⟩ = Em.tell e 7 (Em.letter 68) := by first | rfl | (unfold Em.inReleasing; simp)
      rw [hres]
      clear hres
      have HE0 : Hid (Mv (Rn R) w (w.alloc (.cells #[.int .i64 sapi, .int .i64 tei, .bool c, .int .i64 8, .bool false, .int .i64 ns, .int .i64 nr, .string info] 50)) lab e) := HB.out _
      clear HB
      go_enter Tryz.func73, Tryz.ntmps73
      go_wp2_with fail
      refine (HE0.out.call fun lab1 h1 => rtell_any R lab1 _ 7 (Em.letter 68) _ h1 (by omega)).mono ?_
      rintro r w1 ⟨rfl, hm⟩
      have HE1 : Hid (Mv (Rn R) w w1 lab (Em.tell e 7 (Em.letter 68))) := hm
      clear HE0 hm
      go_wp2
      go_end0
      exact ⟨rfl, HE1.out⟩
  · cases pf with
    | true =>
      have hres : Em.inReleasing e ⟨sapi, tei, c, 5, true, ns, nr, info⟩ = Em.end' (Em.tell e 4 ByteArray.empty) := by first | rfl | (unfold Em.inReleasing; simp)
      rw [hres]
      clear hres
      have HE0 : Hid (Mv (Rn R) w (w.alloc (.cells #[.int .i64 sapi, .int .i64 tei, .bool c, .int .i64 5, .bool true, .int .i64 ns, .int .i64 nr, .string info] 50)) lab e) := HB.out _
      clear HB
      go_enter Tryz.func73, Tryz.ntmps73
      go_wp2_with fail
      refine (HE0.out.call fun lab1 h1 => rtell_any R lab1 _ 4 ByteArray.empty _ h1 (by omega)).mono ?_
      rintro r w1 ⟨rfl, hm⟩
      have HE1 : Hid (Mv (Rn R) w w1 lab (Em.tell e 4 ByteArray.empty)) := hm
      clear HE0 hm
      go_wp2_with fail
      refine (HE1.out.call fun lab1 h1 => rend_any R lab1 _ _ h1 (by rw [Em.len_tell]; omega)).mono ?_
      rintro r w2 ⟨rfl, hm⟩
      have HE2 : Hid (Mv (Rn R) w w2 lab (Em.end' (Em.tell e 4 ByteArray.empty))) := hm
      clear HE1 hm
      go_wp2
      refine bodyPost_ret (v := .tuple #[]) (results_none rfl _ _ _) rfl ?_
      exact ⟨rfl, HE2.out⟩
    | false =>
      have hres : Em.inReleasing e ⟨sapi, tei, c, 5, false, ns, nr, info⟩ = e := by first | rfl | (unfold Em.inReleasing; simp)
      rw [hres]
      clear hres
      have HE0 : Hid (Mv (Rn R) w (w.alloc (.cells #[.int .i64 sapi, .int .i64 tei, .bool c, .int .i64 5, .bool false, .int .i64 ns, .int .i64 nr, .string info] 50)) lab e) := HB.out _
      clear HB
      go_enter Tryz.func73, Tryz.ntmps73
      go_wp2
      go_end0
      exact ⟨rfl, HE0.out⟩
  · skip
    have hres : Em.inReleasing e ⟨sapi, tei, c, k, pf, ns, nr, info⟩ = e := by first | rfl | (unfold Em.inReleasing; simp [e4, e7, e8, e5])
    rw [hres]
    clear hres
    have n4 : (k == 4) = false := by simp; exact e4
    have n7 : (k == 7) = false := by simp; exact e7
    have n8 : (k == 8) = false := by simp; exact e8
    have n5 : (k == 5) = false := by simp; exact e5
    clear e4 e7 e8 e5
    have HE0 : Hid (Mv (Rn R) w (w.alloc (.cells #[.int .i64 sapi, .int .i64 tei, .bool c, .int .i64 k, .bool pf, .int .i64 ns, .int .i64 nr, .string info] 50)) lab e) := HB.out _
    clear HB
    go_enter Tryz.func73, Tryz.ntmps73
    go_wp2
    go_end0
    exact ⟨rfl, HE0.out⟩

set_option maxHeartbeats 1000000 in
theorem ragain_any (R : Nat) (lab : Nat → Nat) (e : Em.St) (k : Int) (l : ByteArray) (g : Int) (w : World) (h : Rn R w lab e) (hl : e.out.length ≤ 400000) (r0 : 0 ≤ e.tries) (r1 : e.tries ≤ 32) :
    Calls Tryz.prog 59 #[.pointer (some ⟨R, 0, none⟩), .int .i64 k, .string l, .int .i64 g] w fun r w' => r = .returned (.tuple #[]) ∧ Mv (Rn R) w w' lab (Em.again e k l g) := by
  have c3 := h.cs.c3
  have c0 := h.cs.c0
  have g3 := h.cs.f 3 (by decide)
  have hlt := h.cs.lt
  have HE0 : Hid (Mv (Rn R) w w lab e) := h.same (Below.refl _ _)
  have HD : Hid (Mv (Rn R) w w.drew lab e) := h.same (Below.refl _ _).drew
  clear h
  unfold Em.again
  by_cases ht : e.tries = e.most
  · rw [if_pos ht]
    have hq : (e.tries == e.most) = true := by simpa using ht
    clear ht
    generalize e.tries = tr at c3 hq
    generalize e.most = mo at c0 hq
    clear HE0 g3
    have HE0 := HD
    clear HD
    go_enter Tryz.func59, Tryz.ntmps59
    go_wp2
    go_region
    clear c3 c0 hq
    go_wp2_with fail
    refine (HE0.out.call fun lab1 h1 => rtell_any R lab1 _ 7 l _ h1 (by omega)).mono ?_
    rintro r w1 ⟨rfl, hm⟩
    have HE1 : Hid (Mv (Rn R) w w1 lab (Em.tell e 7 l)) := hm
    clear HE0 hm
    go_wp2_with fail
    refine (HE1.out.call fun lab1 h1 => rtell_any R lab1 _ g ByteArray.empty _ h1 (by rw [Em.len_tell]; omega)).mono ?_
    rintro r w2 ⟨rfl, hm⟩
    have HE2 : Hid (Mv (Rn R) w w2 lab (Em.tell (Em.tell e 7 l) g ByteArray.empty)) := hm
    clear HE1 hm
    go_wp2_with fail
    refine (HE2.out.call fun lab1 h1 => rend_any R lab1 _ _ h1 (by rw [Em.len_tell, Em.len_tell]; omega)).mono ?_
    rintro r w3 ⟨rfl, hm⟩
    have HE3 : Hid (Mv (Rn R) w w3 lab (Em.end' (Em.tell (Em.tell e 7 l) g ByteArray.empty))) := hm
    clear HE2 hm
    go_wp2
    refine bodyPost_ret (v := .tuple #[]) (results_none rfl _ _ _) rfl ?_
    exact ⟨rfl, HE3.out⟩
  · rw [if_neg ht]
    have hq : (e.tries == e.most) = false := by simpa using ht
    clear ht HE0
    have HE1 : Hid (Mv (Rn R) w (w.drew.setCell ⟨R, 3, none⟩ (.int .i64 (e.tries + 1))) lab { e with tries := e.tries + 1 }) := HD.out.trans fun _ hx => hx.setTries _
    have HLT : Hid (e.out.length ≤ 400000) := hl
    have hw : wrap64 (e.tries + 1) = e.tries + 1 := by unfold wrap64; omega
    obtain ⟨e1, he1⟩ : ∃ e1, e1 = { e with tries := e.tries + 1 } := ⟨_, rfl⟩
    have hl1 : e1.out.length ≤ 400000 := by rw [he1]; exact hl
    rw [← he1] at HE1
    rw [← he1]
    clear he1 HD r0 r1 hl
    generalize e.tries = tr at c3 hq hw HE1
    generalize e.most = mo at c0 hq
    go_enter Tryz.func59, Tryz.ntmps59
    go_wp2
    go_region
    go_wp2_with fail
    refine (HE1.out.call fun lab1 h1 => rsend_any R lab1 _ (Em.bare true k true) _ h1 (by omega)).mono ?_
    rintro r w2 ⟨rfl, hm⟩
    have HE2 : Hid (Mv (Rn R) w w2 lab (Em.send e1 (Em.bare true k true))) := hm
    clear HE1 hm
    clear c3 c0 g3 hq hw hlt
    go_wp2_with fail
    refine (HE2.out.call fun lab1 h1 => rstart200_any R lab1 _ _ h1 (by rw [Em.len_send]; omega)).mono ?_
    rintro r w3 ⟨rfl, hm⟩
    have HE3 : Hid (Mv (Rn R) w w3 lab (Em.start200 (Em.send e1 (Em.bare true k true)))) := hm
    clear HE2 hm
    go_wp2
    go_end0
    exact ⟨rfl, HE3.out⟩

end Go.Proofs.YtidemohpngkedabGreatDoor

namespace Go.Proofs.YtidemohpngkedabGreatDoor
open Go.RowKit
set_option linter.unusedVariables false
set_option maxRecDepth 100000
set_option linter.unusedSimpArgs false

set_option maxHeartbeats 2000000 in
theorem rtime_any (R : Nat) (lab : Nat → Nat) (e : Em.St) (t : Int) (w : World) (h : Rn R w lab e) (ok : Em.Ok e) :
    Calls Tryz.prog 28 #[.pointer (some ⟨R, 0, none⟩), .int .i64 t] w fun r w' => r = .returned (.tuple #[]) ∧ Mv (Rn R) w w' lab (Em.timeout e t) := by
  have r0 := ok.r0
  have r1 : e.tries ≤ 32 := by have := ok.r1; have := ok.m1; omega
  have HE0 : Hid (Mv (Rn R) w (w.setCell ⟨R, 9, none⟩ (.slice none 0 0)) lab { e with out := [] }) := h.fresh
  have c0 := h.cs.c0
  have c1 := h.cs.c1
  have c3 := h.cs.c3
  have c5 := h.cs.c5
  have c6 := h.cs.c6
  have g1 := h.cs.f 1 (by decide)
  have g3 := h.cs.f 3 (by decide)
  have g5 := h.cs.f 5 (by decide)
  have g6 := h.cs.f 6 (by decide)
  have g9 := h.cs.f 9 (by decide)
  obtain ⟨a, cap, c9, -, -⟩ := h.ot
  have hlt := h.cs.lt
  clear h ok
  obtain ⟨most, st, tei, tr, asked, t2, t3, us, fl, out⟩ := e
  replace c0 : w.cell? ⟨R, 0, none⟩ = some (.int .i64 most) := c0
  replace c1 : w.cell? ⟨R, 1, none⟩ = some (.int .i64 st) := c1
  replace c3 : w.cell? ⟨R, 3, none⟩ = some (.int .i64 tr) := c3
  replace c5 : w.cell? ⟨R, 5, none⟩ = some (.bool t2) := c5
  replace c6 : w.cell? ⟨R, 6, none⟩ = some (.bool t3) := c6
  replace r0 : 0 ≤ tr := r0
  replace r1 : tr ≤ 32 := r1
  have hw : wrap64 (tr + 1) = tr + 1 := by unfold wrap64; omega
  by_cases h3 : t = 203
  · subst h3
    cases t3 with
    | true =>
      by_cases h7 : st = 7
      · subst h7
        have hres : Em.timeout ⟨most, 7, tei, tr, asked, t2, true, us, fl, out⟩ 203 = Em.asks ⟨most, 7, tei, tr, asked, t2, false, us, fl, []⟩ := by first | rfl | (unfold Em.timeout; simp [])
        rw [hres]
        clear hres r0 r1
        have HE0 : Hid (Mv (Rn R) w (w.setCell ⟨R, 9, none⟩ (.slice none 0 0)) lab ⟨most, 7, tei, tr, asked, t2, true, us, fl, []⟩) := HE0
        have HE1 : Hid (Mv (Rn R) w ((w.setCell ⟨R, 9, none⟩ (.slice none 0 0)).setCell ⟨R, 6, none⟩ (.bool false)) lab (⟨most, 7, tei, tr, asked, t2, false, us, fl, []⟩)) := HE0.out.trans fun _ hx => hx.set203 false
        have HE2 : Hid (Mv (Rn R) w (((w.setCell ⟨R, 9, none⟩ (.slice none 0 0)).setCell ⟨R, 6, none⟩ (.bool false)).setCell ⟨R, 3, none⟩ (.int .i64 0)) lab (⟨most, 7, tei, 0, asked, t2, false, us, fl, []⟩)) := HE1.out.trans fun _ hx => hx.setTries 0
        go_enter Tryz.func28, Tryz.ntmps28
        go_wp2_with fail
        refine (HE2.out.call fun lab1 h1 => rinquire_any R lab1 _ _ h1 (by show 0 ≤ _; omega)).mono ?_
        rintro r w3 ⟨rfl, hm⟩
        have HE3 : Hid (Mv (Rn R) w w3 lab (Em.inquire ⟨most, 7, tei, 0, asked, t2, false, us, fl, []⟩)) := hm
        clear HE2 hm
        clear c0 c1 c3 c5 c6 g1 g3 g5 g6 g9 c9 hlt hw
        have ha3 := rcells HE3.out
        have k31 := ha3.c1
        have l3 := ha3.lt
        have g3 := ha3.f 1 (by decide)
        clear ha3
        have HE4 : Hid (Mv (Rn R) w (w3.setCell ⟨R, 1, none⟩ (.int .i64 8)) lab (Em.asks ⟨most, 7, tei, tr, asked, t2, false, us, fl, []⟩)) := HE3.out.trans fun _ hx => hx.setState 8
        go_wp2
        refine bodyPost_ret (v := .tuple #[]) (results_none rfl _ _ _) rfl ?_
        exact ⟨rfl, HE4.out⟩
      · have n7 : (st == 7) = false := by simpa using h7
        have hres : Em.timeout ⟨most, st, tei, tr, asked, t2, true, us, fl, out⟩ 203 = ⟨most, st, tei, tr, asked, t2, false, us, fl, []⟩ := by first | rfl | (unfold Em.timeout; simp [h7])
        rw [hres]
        clear hres r0 r1
        have HE0 : Hid (Mv (Rn R) w (w.setCell ⟨R, 9, none⟩ (.slice none 0 0)) lab ⟨most, st, tei, tr, asked, t2, true, us, fl, []⟩) := HE0
        have HE1 : Hid (Mv (Rn R) w ((w.setCell ⟨R, 9, none⟩ (.slice none 0 0)).setCell ⟨R, 6, none⟩ (.bool false)) lab (⟨most, st, tei, tr, asked, t2, false, us, fl, []⟩)) := HE0.out.trans fun _ hx => hx.set203 false
        clear h7
        go_enter Tryz.func28, Tryz.ntmps28
        go_wp2
        refine bodyPost_ret (v := .tuple #[]) (results_none rfl _ _ _) rfl ?_
        exact ⟨rfl, HE1.out⟩
    | false =>
      have hres : Em.timeout ⟨most, st, tei, tr, asked, t2, false, us, fl, out⟩ 203 = ⟨most, st, tei, tr, asked, t2, false, us, fl, []⟩ := by first | rfl | (unfold Em.timeout; simp [])
      rw [hres]
      clear hres r0 r1
      have HE0 : Hid (Mv (Rn R) w (w.setCell ⟨R, 9, none⟩ (.slice none 0 0)) lab ⟨most, st, tei, tr, asked, t2, false, us, fl, []⟩) := HE0
      go_enter Tryz.func28, Tryz.ntmps28
      go_wp2
      refine bodyPost_ret (v := .tuple #[]) (results_none rfl _ _ _) rfl ?_
      exact ⟨rfl, HE0.out⟩
  · have n3 : (t == 203) = false := by simpa using h3
    by_cases h2 : t = 200
    · subst h2
      clear h3 n3
      cases t2 with
      | true =>
        rcases (show st = 5 ∨ st = 6 ∨ st = 7 ∨ st = 8 ∨ (¬ st = 5 ∧ ¬ st = 6 ∧ ¬ st = 7 ∧ ¬ st = 8) by omega) with rfl | rfl | rfl | rfl | ⟨n5, n6, n7, n8⟩
        · have H0 : 0 ≤ tr := r0
          have H1 : tr ≤ 32 := r1
          have hres : Em.timeout ⟨most, 5, tei, tr, asked, true, t3, us, fl, out⟩ 200 = Em.again ⟨most, 5, tei, tr, asked, false, t3, us, fl, []⟩ 4 (Em.letter 71) 3 := by first | rfl | (unfold Em.timeout; simp [])
          rw [hres]
          clear hres r0 r1
          have HE0 : Hid (Mv (Rn R) w (w.setCell ⟨R, 9, none⟩ (.slice none 0 0)) lab ⟨most, 5, tei, tr, asked, true, t3, us, fl, []⟩) := HE0
          have HE1 : Hid (Mv (Rn R) w ((w.setCell ⟨R, 9, none⟩ (.slice none 0 0)).setCell ⟨R, 5, none⟩ (.bool false)) lab (⟨most, 5, tei, tr, asked, false, t3, us, fl, []⟩)) := HE0.out.trans fun _ hx => hx.set200 false
          go_enter Tryz.func28, Tryz.ntmps28
          go_wp2_with fail
          refine (HE1.out.call fun lab1 h1 => ragain_any R lab1 _ 4 (Em.letter 71) 3 _ h1 (by show 0 ≤ _; omega) H0 H1).mono ?_
          rintro r w2 ⟨rfl, hm⟩
          have HE2 : Hid (Mv (Rn R) w w2 lab (Em.again ⟨most, 5, tei, tr, asked, false, t3, us, fl, []⟩ 4 (Em.letter 71) 3)) := hm
          clear HE1 hm
          go_wp2
          go_end0
          exact ⟨rfl, HE2.out⟩
        · have H0 : 0 ≤ tr := r0
          have H1 : tr ≤ 32 := r1
          have hres : Em.timeout ⟨most, 6, tei, tr, asked, true, t3, us, fl, out⟩ 200 = Em.again ⟨most, 6, tei, tr, asked, false, t3, us, fl, []⟩ 7 (Em.letter 72) 4 := by first | rfl | (unfold Em.timeout; simp [])
          rw [hres]
          clear hres r0 r1
          have HE0 : Hid (Mv (Rn R) w (w.setCell ⟨R, 9, none⟩ (.slice none 0 0)) lab ⟨most, 6, tei, tr, asked, true, t3, us, fl, []⟩) := HE0
          have HE1 : Hid (Mv (Rn R) w ((w.setCell ⟨R, 9, none⟩ (.slice none 0 0)).setCell ⟨R, 5, none⟩ (.bool false)) lab (⟨most, 6, tei, tr, asked, false, t3, us, fl, []⟩)) := HE0.out.trans fun _ hx => hx.set200 false
          go_enter Tryz.func28, Tryz.ntmps28
          go_wp2_with fail
          refine (HE1.out.call fun lab1 h1 => ragain_any R lab1 _ 7 (Em.letter 72) 4 _ h1 (by show 0 ≤ _; omega) H0 H1).mono ?_
          rintro r w2 ⟨rfl, hm⟩
          have HE2 : Hid (Mv (Rn R) w w2 lab (Em.again ⟨most, 6, tei, tr, asked, false, t3, us, fl, []⟩ 7 (Em.letter 72) 4)) := hm
          clear HE1 hm
          go_wp2
          go_end0
          exact ⟨rfl, HE2.out⟩
        · skip
          have hres : Em.timeout ⟨most, 7, tei, tr, asked, true, t3, us, fl, out⟩ 200 = Em.asks ⟨most, 7, tei, tr, asked, false, t3, us, fl, []⟩ := by first | rfl | (unfold Em.timeout; simp [])
          rw [hres]
          clear hres r0 r1
          have HE0 : Hid (Mv (Rn R) w (w.setCell ⟨R, 9, none⟩ (.slice none 0 0)) lab ⟨most, 7, tei, tr, asked, true, t3, us, fl, []⟩) := HE0
          have HE1 : Hid (Mv (Rn R) w ((w.setCell ⟨R, 9, none⟩ (.slice none 0 0)).setCell ⟨R, 5, none⟩ (.bool false)) lab (⟨most, 7, tei, tr, asked, false, t3, us, fl, []⟩)) := HE0.out.trans fun _ hx => hx.set200 false
          have HE2 : Hid (Mv (Rn R) w (((w.setCell ⟨R, 9, none⟩ (.slice none 0 0)).setCell ⟨R, 5, none⟩ (.bool false)).setCell ⟨R, 3, none⟩ (.int .i64 0)) lab (⟨most, 7, tei, 0, asked, false, t3, us, fl, []⟩)) := HE1.out.trans fun _ hx => hx.setTries 0
          go_enter Tryz.func28, Tryz.ntmps28
          go_wp2_with fail
          refine (HE2.out.call fun lab1 h1 => rinquire_any R lab1 _ _ h1 (by show 0 ≤ _; omega)).mono ?_
          rintro r w3 ⟨rfl, hm⟩
          have HE3 : Hid (Mv (Rn R) w w3 lab (Em.inquire ⟨most, 7, tei, 0, asked, false, t3, us, fl, []⟩)) := hm
          clear HE2 hm
          clear c0 c1 c3 c5 c6 g1 g3 g5 g6 g9 c9 hlt hw
          have ha3 := rcells HE3.out
          have k31 := ha3.c1
          have l3 := ha3.lt
          have g3 := ha3.f 1 (by decide)
          clear ha3
          have HE4 : Hid (Mv (Rn R) w (w3.setCell ⟨R, 1, none⟩ (.int .i64 8)) lab (Em.asks ⟨most, 7, tei, tr, asked, false, t3, us, fl, []⟩)) := HE3.out.trans fun _ hx => hx.setState 8
          go_wp2
          go_end0
          exact ⟨rfl, HE4.out⟩
        · by_cases hm : tr = most
          · have hq : (tr == most) = true := by simpa using hm
            have hres : Em.timeout ⟨most, 8, tei, tr, asked, true, t3, us, fl, out⟩ 200 = Em.anew ⟨most, 8, tei, tr, asked, false, t3, us, fl, []⟩ (Em.letter 73) := by first | rfl | (unfold Em.timeout; simp [hm])
            rw [hres]
            clear hres r0 r1
            have HE0 : Hid (Mv (Rn R) w (w.setCell ⟨R, 9, none⟩ (.slice none 0 0)) lab ⟨most, 8, tei, tr, asked, true, t3, us, fl, []⟩) := HE0
            have HE1 : Hid (Mv (Rn R) w ((w.setCell ⟨R, 9, none⟩ (.slice none 0 0)).setCell ⟨R, 5, none⟩ (.bool false)) lab (⟨most, 8, tei, tr, asked, false, t3, us, fl, []⟩)) := HE0.out.trans fun _ hx => hx.set200 false
            clear hm
            go_enter Tryz.func28, Tryz.ntmps28
            go_wp2
            go_region
            go_wp2_with fail
            refine ((Rn.thenB HE1.out ((Below.refl _ _).drew)).call fun lab1 h1 => ranew_any R lab1 _ (Em.letter 73) _ h1 (by show 0 ≤ _; omega)).mono ?_
            rintro r w2 ⟨rfl, hm⟩
            have HE2 : Hid (Mv (Rn R) w w2 lab (Em.anew ⟨most, 8, tei, tr, asked, false, t3, us, fl, []⟩ (Em.letter 73))) := hm
            clear HE1 hm
            go_wp2
            refine bodyPost_ret (v := .tuple #[]) (results_none rfl _ _ _) rfl ?_
            exact ⟨rfl, HE2.out⟩
          · have hq : (tr == most) = false := by simpa using hm
            have hres : Em.timeout ⟨most, 8, tei, tr, asked, true, t3, us, fl, out⟩ 200 = Em.inquire ⟨most, 8, tei, (tr + 1), asked, false, t3, us, fl, []⟩ := by first | rfl | (unfold Em.timeout; simp [hm])
            rw [hres]
            clear hres r0 r1
            have HE0 : Hid (Mv (Rn R) w (w.setCell ⟨R, 9, none⟩ (.slice none 0 0)) lab ⟨most, 8, tei, tr, asked, true, t3, us, fl, []⟩) := HE0
            have HE1 : Hid (Mv (Rn R) w ((w.setCell ⟨R, 9, none⟩ (.slice none 0 0)).setCell ⟨R, 5, none⟩ (.bool false)) lab (⟨most, 8, tei, tr, asked, false, t3, us, fl, []⟩)) := HE0.out.trans fun _ hx => hx.set200 false
            clear hm
            have HE2 : Hid (Mv (Rn R) w (((w.setCell ⟨R, 9, none⟩ (.slice none 0 0)).setCell ⟨R, 5, none⟩ (.bool false)).drew.setCell ⟨R, 3, none⟩ (.int .i64 (tr + 1))) lab ⟨most, 8, tei, (tr + 1), asked, false, t3, us, fl, []⟩) := (Rn.thenB HE1.out (Below.refl _ _).drew).trans fun _ hx => hx.setTries _
            go_enter Tryz.func28, Tryz.ntmps28
            go_wp2
            go_region
            go_wp2_with fail
            refine (HE2.out.call fun lab1 h1 => rinquire_any R lab1 _ _ h1 (by show 0 ≤ _; omega)).mono ?_
            rintro r w3 ⟨rfl, hm⟩
            have HE3 : Hid (Mv (Rn R) w w3 lab (Em.inquire ⟨most, 8, tei, (tr + 1), asked, false, t3, us, fl, []⟩)) := hm
            clear HE2 hm
            go_wp2
            go_end0
            exact ⟨rfl, HE3.out⟩
        · have m5 : (st == 5) = false := by simp; exact n5
          have m6 : (st == 6) = false := by simp; exact n6
          have m7 : (st == 7) = false := by simp; exact n7
          have m8 : (st == 8) = false := by simp; exact n8
          have hres : Em.timeout ⟨most, st, tei, tr, asked, true, t3, us, fl, out⟩ 200 = ⟨most, st, tei, tr, asked, false, t3, us, fl, []⟩ := by first | rfl | (unfold Em.timeout; simp [n5, n6, n7, n8])
          rw [hres]
          clear hres r0 r1
          have HE0 : Hid (Mv (Rn R) w (w.setCell ⟨R, 9, none⟩ (.slice none 0 0)) lab ⟨most, st, tei, tr, asked, true, t3, us, fl, []⟩) := HE0
          have HE1 : Hid (Mv (Rn R) w ((w.setCell ⟨R, 9, none⟩ (.slice none 0 0)).setCell ⟨R, 5, none⟩ (.bool false)) lab (⟨most, st, tei, tr, asked, false, t3, us, fl, []⟩)) := HE0.out.trans fun _ hx => hx.set200 false
          clear n5 n6 n7 n8
          go_enter Tryz.func28, Tryz.ntmps28
          go_wp2
          go_end0
          exact ⟨rfl, HE1.out⟩
      | false =>
        have hres : Em.timeout ⟨most, st, tei, tr, asked, false, t3, us, fl, out⟩ 200 = ⟨most, st, tei, tr, asked, false, t3, us, fl, []⟩ := by first | rfl | (unfold Em.timeout; simp [])
        rw [hres]
        clear hres r0 r1
        have HE0 : Hid (Mv (Rn R) w (w.setCell ⟨R, 9, none⟩ (.slice none 0 0)) lab ⟨most, st, tei, tr, asked, false, t3, us, fl, []⟩) := HE0
        go_enter Tryz.func28, Tryz.ntmps28
        go_wp2
        refine bodyPost_ret (v := .tuple #[]) (results_none rfl _ _ _) rfl ?_
        exact ⟨rfl, HE0.out⟩
    · have n2 : (t == 200) = false := by simpa using h2
      have hres : Em.timeout ⟨most, st, tei, tr, asked, t2, t3, us, fl, out⟩ t = ⟨most, st, tei, tr, asked, t2, t3, us, fl, []⟩ := by first | rfl | (unfold Em.timeout; simp [h3, h2])
      rw [hres]
      clear hres r0 r1
      have HE0 : Hid (Mv (Rn R) w (w.setCell ⟨R, 9, none⟩ (.slice none 0 0)) lab ⟨most, st, tei, tr, asked, t2, t3, us, fl, []⟩) := HE0
      go_enter Tryz.func28, Tryz.ntmps28
      go_wp2
      refine bodyPost_ret (v := .tuple #[]) (results_none rfl _ _ _) rfl ?_
      exact ⟨rfl, HE0.out⟩

end Go.Proofs.YtidemohpngkedabGreatDoor
