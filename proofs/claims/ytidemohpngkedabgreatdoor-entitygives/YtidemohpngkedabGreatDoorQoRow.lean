/-
  The program's queue as it lies inside a flow, from the eighth cell of its block on: what is said of a queue (QueRow), and that the seven cells ahead of it stand.
-/
import Derived.Test.YtidemohpngkedabGreatDoorQueRow
namespace Go.Proofs.YtidemohpngkedabGreatDoor
open Go.RowKit
set_option linter.unusedVariables false
set_option maxRecDepth 100000
set_option linter.unusedSimpArgs false

/-- the seven cells ahead of it are as they were -/
def Front (w w' : World) (C : Nat) : Prop := ∀ j, j < 7 → w'.cell? ⟨C, j, none⟩ = w.cell? ⟨C, j, none⟩ ∧ w'.frozen? ⟨C, j, none⟩ = w.frozen? ⟨C, j, none⟩
theorem Front.refl (w : World) (C : Nat) : Front w w C := fun _ _ => ⟨rfl, rfl⟩
theorem Front.trans {a b c : World} {C : Nat} (h : Front a b C) (k : Front b c C) : Front a c C := fun j hj => ⟨(k j hj).1.trans (h j hj).1, (k j hj).2.trans (h j hj).2⟩
theorem Front.of_kept {a b : World} {C : Nat} {T : Nat → Prop} (h : Kept a b T) (hC : C < a.heap.size) (hT : ¬ T C) : Front a b C := fun j hj => ⟨h.cell (p := ⟨C, j, none⟩) hC hT, h.frozen (p := ⟨C, j, none⟩) hC hT⟩
theorem Front.of_below {a b : World} {C : Nat} (h : Below a.heap.size a b) (hC : C < a.heap.size) : Front a b C := Front.of_kept (T := fun _ => False) (Kept.of_below h (fun k hk h' => by omega)) hC (fun x => x)
theorem Front.setCell {a w : World} {C : Nat} (h : Front a w C) (i : Nat) (hi : 7 ≤ i) (v : Value) : Front a (w.setCell ⟨C, i, none⟩ v) C := h.trans fun j hj => ⟨World.cell?_setCell_other w _ _ _ (fun h => by injection h with _ h2; omega), World.frozen?_setCell _ _ _ _⟩

/-- a queue -/
structure Qo (w : World) (C : Nat) (G : Option Nat) (mo : Int) (L : List ByteArray) (sn : Nat) : Prop where
  lt : C < w.heap.size
  c0 : w.cell? ⟨C, 7, none⟩ = some (.int .i64 mo)
  c1 : ∃ a cap, w.cell? ⟨C, 8, none⟩ = some (.slice a L.length cap) ∧ SRow w a cap G L
  c2 : w.cell? ⟨C, 9, none⟩ = some (.int .i64 sn)
  f0 : w.frozen? ⟨C, 7, none⟩ = false
  f1 : w.frozen? ⟨C, 8, none⟩ = false
  f2 : w.frozen? ⟨C, 9, none⟩ = false
  ne : G ≠ some C
  sn : sn ≤ L.length
  len : L.length ≤ Qm.takes mo
  size : ∀ x ∈ L, x.size ≤ 260

theorem Qo.le {w : World} {C sn : Nat} {G : Option Nat} {mo : Int} {L : List ByteArray} (h : Qo w C G mo L sn) : L.length ≤ 256 := by
  have := h.len
  have := Qm.takes_le mo
  omega
theorem Qo.kept {w w' : World} {C sn : Nat} {G : Option Nat} {mo : Int} {L : List ByteArray} {T : Nat → Prop} (h : Qo w C G mo L sn) (hk : Kept w w' T) (hC : ¬ T C) (hG : ∀ B, G = some B → ¬ T B) : Qo w' C G mo L sn := by
  obtain ⟨a, cap, h1, h2⟩ := h.c1
  exact ⟨Nat.lt_of_lt_of_le h.lt hk.size, (hk.cell (p := ⟨C, 7, none⟩) h.lt hC).trans h.c0, ⟨a, cap, (hk.cell (p := ⟨C, 8, none⟩) h.lt hC).trans h1, h2.kept hk hG⟩, (hk.cell (p := ⟨C, 9, none⟩) h.lt hC).trans h.c2,
    (hk.frozen (p := ⟨C, 7, none⟩) h.lt hC).trans h.f0, (hk.frozen (p := ⟨C, 8, none⟩) h.lt hC).trans h.f1, (hk.frozen (p := ⟨C, 9, none⟩) h.lt hC).trans h.f2, h.ne, h.sn, h.len, h.size⟩
theorem Qo.below {w w' : World} {C sn : Nat} {G : Option Nat} {mo : Int} {L : List ByteArray} (h : Qo w C G mo L sn) (hb : Below w.heap.size w w') : Qo w' C G mo L sn :=
  h.kept (T := fun _ => False) (Kept.of_below hb (fun k hk h' => by omega)) (fun x => x) (fun _ _ x => x)
theorem Qo.tlt {w : World} {C sn : Nat} {G : Option Nat} {mo : Int} {L : List ByteArray} (h : Qo w C G mo L sn) {k : Nat} (hk : qtch C G k) : k < w.heap.size := by
  rcases hk with rfl | hk
  · exact h.lt
  · obtain ⟨a, cap, _, h2⟩ := h.c1
    exact h2.lt hk

/-- a queue that was has now the payloads L', sn' of them sent, and nothing else is turned -/
def Mvo (w w' : World) (C : Nat) (G : Option Nat) (mo : Int) (L' : List ByteArray) (sn' : Nat) : Prop :=
  ∃ G', Qo w' C G' mo L' sn' ∧ Kept w w' (qtch C G) ∧ (∀ B, G' = some B → G = some B ∨ w.heap.size ≤ B) ∧ Front w w' C

theorem Qo.same {w w' : World} {C sn : Nat} {G : Option Nat} {mo : Int} {L : List ByteArray} (h : Qo w C G mo L sn) (hb : Below w.heap.size w w') : Mvo w w' C G mo L sn :=
  ⟨G, h.below hb, Kept.of_below hb (fun k hk h' => by omega), fun B hB => Or.inl hB, Front.of_below hb h.lt⟩
theorem Mvo.ahead {w w1 w2 : World} {C sn : Nat} {G : Option Nat} {mo : Int} {L : List ByteArray} (hC : C < w.heap.size) (hb : Below w.heap.size w w1) (h : Mvo w1 w2 C G mo L sn) : Mvo w w2 C G mo L sn := by
  obtain ⟨m', hc, hk, hf, hr⟩ := h
  refine ⟨m', hc, (Kept.of_below (T := qtch C G) hb (fun k hk h' => by omega)).trans hk (fun k _ h => h), fun B hB => ?_, (Front.of_below hb hC).trans hr⟩
  rcases hf B hB with h' | h'
  · exact Or.inl h'
  · exact Or.inr (Nat.le_trans hb.size h')
theorem Mvo.then {w w1 w2 : World} {C sn : Nat} {G : Option Nat} {mo : Int} {L : List ByteArray} (h : Mvo w w1 C G mo L sn) (hb : Below w1.heap.size w1 w2) : Mvo w w2 C G mo L sn := by
  obtain ⟨m', hc, hk, hf, hr⟩ := h
  exact ⟨m', hc.below hb, hk.trans (T' := fun _ => False) (Kept.of_below hb (fun k hk h' => by omega)) (fun _ _ h => h.elim), hf, hr.trans (Front.of_below hb hc.lt)⟩
/-- its number of sent ones is laid down -/
theorem Qo.setSent {w : World} {C sn sn' : Nat} {G : Option Nat} {mo : Int} {L : List ByteArray} (h : Qo w C G mo L sn) (hs : sn' ≤ L.length) : Mvo w (w.setCell ⟨C, 9, none⟩ (.int .i64 sn')) C G mo L sn' := by
  have hk : Kept w (w.setCell ⟨C, 9, none⟩ (.int .i64 sn')) (qtch C G) := (Kept.refl w _).setCell (p := ⟨C, 9, none⟩) (fun _ => Or.inl rfl) _
  have hk1 : Kept w (w.setCell ⟨C, 9, none⟩ (.int .i64 sn')) (fun k => k = C) := (Kept.refl w (fun k => k = C)).setCell (p := ⟨C, 9, none⟩) (fun _ => rfl) _
  obtain ⟨a, cap, h1, h2⟩ := h.c1
  refine ⟨G, ⟨Nat.lt_of_lt_of_le h.lt hk.size, ?_, ⟨a, cap, ?_, h2.kept hk1 (fun B hB e => h.ne (by rw [hB, e]))⟩, ?_, ?_, ?_, ?_, h.ne, hs, h.len, h.size⟩, hk, fun B hB => Or.inl hB, (Front.refl w C).setCell 9 (by decide) _⟩
  · rw [World.cell?_setCell_other w _ _ _ (fun h => by injection h with _ h2; omega)]; exact h.c0
  · rw [World.cell?_setCell_other w _ _ _ (fun h => by injection h with _ h2; omega)]; exact h1
  · exact World.cell?_setCell_same' w ⟨C, 9, none⟩ _ (by rw [h.c2]; rfl)
  · rw [World.frozen?_setCell]; exact h.f0
  · rw [World.frozen?_setCell]; exact h.f1
  · rw [World.frozen?_setCell]; exact h.f2
/-- its payloads are laid down -/
theorem Qo.setRow {w wq : World} {C sn cap' : Nat} {G G' : Option Nat} {mo : Int} {L L' : List ByteArray} {a' : Option Addr} (h : Qo w C G mo L sn) (hk : Kept w wq (fun k => G = some k)) (hS : SRow wq a' cap' G' L') (hG : ∀ B, G' = some B → G = some B ∨ w.heap.size ≤ B) (hs : sn ≤ L'.length) (hl : L'.length ≤ Qm.takes mo) (hz : ∀ x ∈ L', x.size ≤ 260) :
    Mvo w (wq.setCell ⟨C, 8, none⟩ (.slice a' L'.length cap')) C G mo L' sn := by
  have hne : ¬ (G = some C) := h.ne
  have hne' : G' ≠ some C := fun e => by
    rcases hG C e with h' | h'
    · exact hne h'
    · have := h.lt; omega
  have hk1 : Kept wq (wq.setCell ⟨C, 8, none⟩ (.slice a' L'.length cap')) (fun k => k = C) := (Kept.refl wq (fun k => k = C)).setCell (p := ⟨C, 8, none⟩) (fun _ => rfl) _
  obtain ⟨a, cap, h1, h2⟩ := h.c1
  have hlt := h.lt
  refine ⟨G', ⟨by have := hk.size; have := hk1.size; omega, ?_, ⟨a', cap', ?_, hS.kept hk1 (fun B hB e => hne' (by rw [hB, e]))⟩, ?_, ?_, ?_, ?_, hne', hs, hl, hz⟩, (hk.mono (fun k _ e => Or.inr e)).trans hk1 (fun k _ e => Or.inl e), hG, (Front.of_kept hk hlt hne).setCell 8 (by decide) _⟩
  · rw [World.cell?_setCell_other wq _ _ _ (fun h => by injection h with _ h2; omega)]; exact (hk.cell (p := ⟨C, 7, none⟩) hlt hne).trans h.c0
  · exact World.cell?_setCell_same' wq ⟨C, 8, none⟩ _ (by rw [(hk.cell (p := ⟨C, 8, none⟩) hlt hne).trans h1]; rfl)
  · rw [World.cell?_setCell_other wq _ _ _ (fun h => by injection h with _ h2; omega)]; exact (hk.cell (p := ⟨C, 9, none⟩) hlt hne).trans h.c2
  · rw [World.frozen?_setCell]; exact (hk.frozen (p := ⟨C, 7, none⟩) hlt hne).trans h.f0
  · rw [World.frozen?_setCell]; exact (hk.frozen (p := ⟨C, 8, none⟩) hlt hne).trans h.f1
  · rw [World.frozen?_setCell]; exact (hk.frozen (p := ⟨C, 9, none⟩) hlt hne).trans h.f2
/-- its payloads are laid down, and its number of sent ones -/
theorem Qo.setBoth {w wq : World} {C sn sn' cap' : Nat} {G G' : Option Nat} {mo : Int} {L L' : List ByteArray} {a' : Option Addr} (h : Qo w C G mo L sn) (hk : Kept w wq (fun k => G = some k)) (hS : SRow wq a' cap' G' L') (hG : ∀ B, G' = some B → G = some B ∨ w.heap.size ≤ B) (hs : sn' ≤ L'.length) (hl : L'.length ≤ Qm.takes mo) (hz : ∀ x ∈ L', x.size ≤ 260) :
    Mvo w ((wq.setCell ⟨C, 8, none⟩ (.slice a' L'.length cap')).setCell ⟨C, 9, none⟩ (.int .i64 sn')) C G mo L' sn' := by
  have hne : ¬ (G = some C) := h.ne
  have hne' : G' ≠ some C := fun e => by
    rcases hG C e with h' | h'
    · exact hne h'
    · have := h.lt; omega
  obtain ⟨W, hW⟩ : ∃ W, W = wq.setCell ⟨C, 8, none⟩ (.slice a' L'.length cap') := ⟨_, rfl⟩
  have hk1 : Kept wq W (fun k => k = C) := by rw [hW]; exact (Kept.refl wq (fun k => k = C)).setCell (p := ⟨C, 8, none⟩) (fun _ => rfl) _
  have hk2 : Kept W (W.setCell ⟨C, 9, none⟩ (.int .i64 sn')) (fun k => k = C) := (Kept.refl W (fun k => k = C)).setCell (p := ⟨C, 9, none⟩) (fun _ => rfl) _
  obtain ⟨a, cap, h1, h2⟩ := h.c1
  have hlt := h.lt
  have b0 : W.cell? ⟨C, 7, none⟩ = some (.int .i64 mo) := by
    rw [hW, World.cell?_setCell_other wq _ _ _ (fun h => by injection h with _ h2; omega)]; exact (hk.cell (p := ⟨C, 7, none⟩) hlt hne).trans h.c0
  have b1 : W.cell? ⟨C, 8, none⟩ = some (.slice a' L'.length cap') := by
    rw [hW]; exact World.cell?_setCell_same' wq ⟨C, 8, none⟩ _ (by rw [(hk.cell (p := ⟨C, 8, none⟩) hlt hne).trans h1]; rfl)
  have b2 : W.cell? ⟨C, 9, none⟩ = some (.int .i64 sn) := by
    rw [hW, World.cell?_setCell_other wq _ _ _ (fun h => by injection h with _ h2; omega)]; exact (hk.cell (p := ⟨C, 9, none⟩) hlt hne).trans h.c2
  have z0 : W.frozen? ⟨C, 7, none⟩ = false := by rw [hW, World.frozen?_setCell]; exact (hk.frozen (p := ⟨C, 7, none⟩) hlt hne).trans h.f0
  have z1 : W.frozen? ⟨C, 8, none⟩ = false := by rw [hW, World.frozen?_setCell]; exact (hk.frozen (p := ⟨C, 8, none⟩) hlt hne).trans h.f1
  have z2 : W.frozen? ⟨C, 9, none⟩ = false := by rw [hW, World.frozen?_setCell]; exact (hk.frozen (p := ⟨C, 9, none⟩) hlt hne).trans h.f2
  rw [← hW]
  refine ⟨G', ⟨by have := hk.size; have := hk1.size; have := hk2.size; omega, ?_, ⟨a', cap', ?_, (hS.kept hk1 (fun B hB e => hne' (by rw [hB, e]))).kept hk2 (fun B hB e => hne' (by rw [hB, e]))⟩, ?_, ?_, ?_, ?_, hne', hs, hl, hz⟩, ((hk.mono (fun k _ e => Or.inr e)).trans hk1 (fun k _ e => Or.inl e)).trans hk2 (fun k _ e => Or.inl e), hG, by rw [hW]; exact ((Front.of_kept hk hlt hne).setCell 8 (by decide) _).setCell 9 (by decide) _⟩
  · rw [World.cell?_setCell_other W _ _ _ (fun h => by injection h with _ h2; omega)]; exact b0
  · rw [World.cell?_setCell_other W _ _ _ (fun h => by injection h with _ h2; omega)]; exact b1
  · exact World.cell?_setCell_same' W ⟨C, 9, none⟩ _ (by rw [b2]; rfl)
  · rw [World.frozen?_setCell]; exact z0
  · rw [World.frozen?_setCell]; exact z1
  · rw [World.frozen?_setCell]; exact z2
theorem Mvo.trans {w w1 w2 : World} {C sn sn2 : Nat} {G : Option Nat} {mo : Int} {L L2 : List ByteArray} (h : Mvo w w1 C G mo L sn) (h2 : ∀ G1, Qo w1 C G1 mo L sn → Mvo w1 w2 C G1 mo L2 sn2) : Mvo w w2 C G mo L2 sn2 := by
  obtain ⟨G1, hq, hk, hf, hr⟩ := h
  obtain ⟨G2, hq2, hk2, hf2, hr2⟩ := h2 G1 hq
  refine ⟨G2, hq2, hk.trans hk2 (fun k hk' ht => ?_), fun B hB => ?_, hr.trans hr2⟩
  · rcases ht with rfl | ht
    · exact Or.inl rfl
    · rcases hf k ht with h' | h'
      · exact Or.inr h'
      · omega
  · rcases hf2 B hB with h' | h'
    · exact hf B h'
    · exact Or.inr (Nat.le_trans hk.size h')
end Go.Proofs.YtidemohpngkedabGreatDoor
