/-
  A queue, the program's or the document's: most, a slice of payloads, how many are sent, behind a pointer. What an append leaves of it.
-/
import Derived.Test.YtidemohpngkedabGreatDoorQueMath
import Derived.Test.YtidemohpngkedabGreatDoorKept
import Derived.ArgAppend
import Derived.Laws.OwnMore
namespace Go.Proofs.YtidemohpngkedabGreatDoor
open Go.RowKit
set_option linter.unusedVariables false
set_option maxRecDepth 100000
set_option linter.unusedSimpArgs false

theorem qstr_info : (Tryz.prog.info? 9).map (fun i => (i.zero, i.size, i.bytes)) = some (some (.string ByteArray.empty), 1, 16) := by kernel_rfl

/-- a slice of payloads that may be written: its address, its room, the row's block -/
structure SRow (w : World) (a : Option Addr) (cap : Nat) (G : Option Nat) (L : List ByteArray) : Prop where
  le : L.length ≤ cap
  mx : cap ≤ maxLen
  row : (a = none ∧ G = none ∧ cap = 0) ∨ ∃ g off, a = some ⟨g, off, none⟩ ∧ G = some g ∧ g < w.heap.size ∧ (∀ i, i < L.length → w.cell? ⟨g, off + i, none⟩ = some (.string (L.getD i ByteArray.empty))) ∧ ∀ j, j < cap → (w.cell? ⟨g, off + j, none⟩).isSome = true ∧ w.frozen? ⟨g, off + j, none⟩ = false

theorem SRow.kept {w w' : World} {a : Option Addr} {cap : Nat} {G : Option Nat} {L : List ByteArray} {T : Nat → Prop} (h : SRow w a cap G L) (hk : Kept w w' T) (hG : ∀ B, G = some B → ¬ T B) : SRow w' a cap G L := by
  refine ⟨h.le, h.mx, ?_⟩
  rcases h.row with h' | ⟨g, off, h1, h2, h3, h4, h5⟩
  · exact Or.inl h'
  · refine Or.inr ⟨g, off, h1, h2, Nat.lt_of_lt_of_le h3 hk.size, fun i hi => (hk.cell (p := ⟨g, off + i, none⟩) h3 (hG g h2)).trans (h4 i hi), fun j hj => ?_⟩
    rw [hk.cell (p := ⟨g, off + j, none⟩) h3 (hG g h2), hk.frozen (p := ⟨g, off + j, none⟩) h3 (hG g h2)]
    exact h5 j hj
theorem SRow.lt {w : World} {a : Option Addr} {cap : Nat} {G : Option Nat} {L : List ByteArray} (h : SRow w a cap G L) {B : Nat} (hB : G = some B) : B < w.heap.size := by
  rcases h.row with ⟨_, h2, _⟩ | ⟨g, off, h1, h2, h3, _⟩
  · rw [h2] at hB; cases hB
  · rw [h2] at hB; injection hB with hB; subst hB; exact h3
/-- one of its payloads -/
theorem SRow.nth {w : World} {a : Option Addr} {cap : Nat} {G : Option Nat} {L : List ByteArray} (h : SRow w a cap G L) (i : Nat) (hi : i < L.length) : ∃ g off, a = some ⟨g, off, none⟩ ∧ G = some g ∧ g < w.heap.size ∧ w.cell? ⟨g, off + i, none⟩ = some (.string (L.getD i ByteArray.empty)) := by
  rcases h.row with ⟨_, _, h3⟩ | ⟨g, off, h1, h2, h3, h4, _⟩
  · have := h.le; omega
  · exact ⟨g, off, h1, h2, h3, h4 i hi⟩
theorem strs_at (L : List ByteArray) (j : Nat) (u : Value) (h : (L.map Value.string)[j]? = some u) : j < L.length ∧ u = .string (L.getD j ByteArray.empty) := by
  have hj := (List.getElem?_eq_some_iff.1 h).1
  rw [List.length_map] at hj
  refine ⟨hj, ?_⟩
  rw [List.getElem?_map, List.getElem?_eq_getElem hj] at h
  injection h with h
  rw [← h]
  simp [List.getD, List.getElem?_eq_getElem hj]
theorem strs_get (L : List ByteArray) (j : Nat) (h : j < L.length) : (L.map Value.string)[j]? = some (.string (L.getD j ByteArray.empty)) := by
  rw [List.getElem?_map, List.getElem?_eq_getElem h]
  simp [List.getD, List.getElem?_eq_getElem h]
theorem strs_one (L : List ByteArray) : ∀ u ∈ L.map Value.string, u.oneCell' = true := by
  intro u hu
  obtain ⟨x, _, rfl⟩ := List.mem_map.1 hu
  rfl
theorem qaddr_at (g j : Nat) : (⟨g, 0, none⟩ : Addr).add j = ⟨g, j, none⟩ := by unfold Addr.add; split <;> simp_all

/-- a row of the call's own is such a slice -/
theorem own_srow {w : World} {base : Nat} {v : Value} {L : List ByteArray} {n : Nat} (hn : n = L.length) (h : w.ownsRow base 9 1 v n (L.map Value.string)) : ∃ a cap G, v = .slice a L.length cap ∧ SRow w a cap G L ∧ ∀ B, G = some B → base ≤ B ∧ B < w.heap.size := by
  subst hn
  have h0 := h
  rcases h.2 with ⟨rfl, h'⟩ | ⟨g, cap, cur, rfl, hb, hgg, hle, hm, hcs, _⟩
  · exact ⟨none, 0, none, by rw [h'], ⟨by omega, Nat.zero_le _, Or.inl ⟨rfl, rfl, rfl⟩⟩, fun B hB => (by cases hB)⟩
  · have hgl := (Array.getElem?_eq_some_iff.1 hgg).1
    refine ⟨_, cap, some g, rfl, ⟨hle, hm, Or.inr ⟨g, 0, rfl, rfl, hgl, fun i hi => ?_, fun j hj => ⟨?_, ?_⟩⟩⟩, fun B hB => by injection hB with hB; subst hB; exact ⟨hb, hgl⟩⟩
    · have := h0.cells (g := g) rfl i _ (strs_get L i hi)
      rw [qaddr_at] at this
      rw [Nat.zero_add]; exact this
    · have hj' : 0 + j < cur.size := by rw [hcs]; omega
      simp [World.cell?, hgg]
      omega
    · exact h0.frozenAt _

/-- one payload more, behind the others -/
theorem append_srow {w : World} {ops : Array Oper} {rest : List Oper} {o : Oper} {a : Act} {Q : Exit → Act → World → Prop} (hgd : o.guard = none) (s x : Operand)
    (ho : o.op = .call { callee := .builtin .append, args := #[s, x], argTypes := #[76, 76] })
    (ao : Option Addr) (cap : Nat) (G : Option Nat) (L : List ByteArray) (t : ByteArray) (ad : Nat) (c : Nat) (hs : a.eval s = .slice ao L.length cap) (h1 : SRow w ao cap G L) (hx : a.eval x = .slice (some ⟨ad, 0, none⟩) 1 c) (h2 : w.cell? ⟨ad, 0, none⟩ = some (.string t)) (hl : L.length ≤ 1000000)
    (h : ∀ a' cap' G' w', SRow w' a' cap' G' (L ++ [t]) → Kept w w' (fun k => G = some k) → (∀ B, G' = some B → G = some B ∨ w.heap.size ≤ B) → wpList Tryz.prog ops Q rest (a.put o.dst (.slice a' (L.length + 1) cap')) w') : wpList Tryz.prog ops Q (o :: rest) a w := by
  obtain ⟨i0, hi, hz0, hz1, hz2⟩ := info_parts qstr_info
  have hnews : ∀ (j : Nat) (u : Value), [Value.string t][j]? = some u → w.cell? ((⟨ad, 0, none⟩ : Addr).add j) = some u := by
    intro j u hj
    rw [qaddr_at]
    match j, hj with
    | 0, hj => simp at hj; subst hj; exact h2
  have hone : ∀ u ∈ [Value.string t], u.oneCell' = true := by
    intro u hu; simp at hu; subst hu; rfl
  have hgrow : ∀ v' w', w'.ownsRow w.heap.size 9 1 v' (L.length + 1) (L.map Value.string ++ [.string t]) → w.grownBy w' none → wpList Tryz.prog ops Q rest (a.put o.dst v') w' := by
    intro v' w' hown hg
    have e : L.map Value.string ++ [.string t] = (L ++ [t]).map Value.string := by simp
    rw [e] at hown
    obtain ⟨a', cap', G', rfl, hS, hG⟩ := own_srow (by simp) hown
    have := h a' cap' G' w' hS (Kept.of_grown hg (fun k e => by cases e)) (fun B hB => Or.inr (hG B hB).1)
    simpa using this
  rcases h1.row with ⟨rfl, rfl, rfl⟩ | ⟨g, off, rfl, rfl, hlt, hc, hf⟩
  · have h0 : L = [] := List.eq_nil_of_length_eq_zero (by have := h1.le; omega)
    subst h0
    exact wpList_append_grows w hgd s x 76 ho 9 i0 (.string ByteArray.empty) 1 16 Tryz.underlying76 hi hz0 hz1 hz2 rfl (by decide) none 0 0 [] hs (fun _ => ⟨rfl, rfl⟩) rfl (fun b hb => by cases hb) ⟨ad, 0, none⟩ 1 c [.string t] hx rfl hnews hone (by decide) (by unfold maxLen; omega) (by decide) hgrow
  · refine wpList_append_arg w hgd s x 76 ho 9 i0 (.string ByteArray.empty) 1 16 Tryz.underlying76 hi hz0 hz1 hz2 rfl (by decide) g off L.length cap (L.map Value.string) hs (by simp) (fun j u hj => ?_) ⟨ad, 0, none⟩ 1 c [.string t] hx rfl hnews hone (fun hr j hj => ?_) (by unfold maxLen; omega) (by omega) (fun hr => ?_) (fun _ => hgrow)
    · obtain ⟨h3, rfl⟩ := strs_at L j u hj
      exact hc j h3
    · have := hf (L.length + j) (by simp at hj; omega)
      rw [Nat.mul_one, Nat.add_assoc]; exact this
    · have hk : Kept w (w.setCells g (off + L.length * 1) [.string t]) (fun k => some g = some k) := (Kept.refl w (fun k => some g = some k)).setCell (p := ⟨g, off + L.length * 1, none⟩) (fun _ => rfl) _
      refine h (some ⟨g, off, none⟩) cap (some g) _ ⟨by simp; omega, h1.mx, Or.inr ⟨g, off, rfl, rfl, Nat.lt_of_lt_of_le hlt hk.size, fun i hi => ?_, fun j hj => ?_⟩⟩ hk (fun B hB => Or.inl hB)
      · show (w.setCell ⟨g, off + L.length * 1, none⟩ (.string t)).cell? ⟨g, off + i, none⟩ = _
        rw [Nat.mul_one]
        by_cases e : i = L.length
        · subst e
          rw [World.cell?_setCell_same' w ⟨g, off + L.length, none⟩ _ (hf L.length (by omega)).1]
          simp [List.getD]
        · have hi' : i < L.length := by simp at hi; omega
          rw [World.cell?_setCell_other w _ _ _ (fun h => by injection h with _ h2; omega), hc i hi']
          simp [List.getD, List.getElem?_append_left hi']
      · show (World.cell? (w.setCell ⟨g, off + L.length * 1, none⟩ (.string t)) _).isSome = true ∧ World.frozen? (w.setCell ⟨g, off + L.length * 1, none⟩ (.string t)) _ = false
        rw [Nat.mul_one, World.frozen?_setCell]
        refine ⟨?_, (hf j hj).2⟩
        by_cases e : j = L.length
        · subst e
          rw [World.cell?_setCell_same' w ⟨g, off + L.length, none⟩ _ (hf L.length hj).1]; rfl
        · rw [World.cell?_setCell_other w _ _ _ (fun h => by injection h with _ h2; omega)]
          exact (hf j hj).1

/-- a queue -/
structure Qu (w : World) (C : Nat) (G : Option Nat) (mo : Int) (L : List ByteArray) (sn : Nat) : Prop where
  lt : C < w.heap.size
  c0 : w.cell? ⟨C, 0, none⟩ = some (.int .i64 mo)
  c1 : ∃ a cap, w.cell? ⟨C, 1, none⟩ = some (.slice a L.length cap) ∧ SRow w a cap G L
  c2 : w.cell? ⟨C, 2, none⟩ = some (.int .i64 sn)
  f0 : w.frozen? ⟨C, 0, none⟩ = false
  f1 : w.frozen? ⟨C, 1, none⟩ = false
  f2 : w.frozen? ⟨C, 2, none⟩ = false
  ne : G ≠ some C
  sn : sn ≤ L.length
  len : L.length ≤ Qm.takes mo
  size : ∀ x ∈ L, x.size ≤ 260

/-- what a queue's methods may turn -/
def qtch (C : Nat) (m : Option Nat) (k : Nat) : Prop := k = C ∨ m = some k

theorem Qu.le {w : World} {C sn : Nat} {G : Option Nat} {mo : Int} {L : List ByteArray} (h : Qu w C G mo L sn) : L.length ≤ 256 := by
  have := h.len
  have := Qm.takes_le mo
  omega
theorem Qu.kept {w w' : World} {C sn : Nat} {G : Option Nat} {mo : Int} {L : List ByteArray} {T : Nat → Prop} (h : Qu w C G mo L sn) (hk : Kept w w' T) (hC : ¬ T C) (hG : ∀ B, G = some B → ¬ T B) : Qu w' C G mo L sn := by
  obtain ⟨a, cap, h1, h2⟩ := h.c1
  exact ⟨Nat.lt_of_lt_of_le h.lt hk.size, (hk.cell (p := ⟨C, 0, none⟩) h.lt hC).trans h.c0, ⟨a, cap, (hk.cell (p := ⟨C, 1, none⟩) h.lt hC).trans h1, h2.kept hk hG⟩, (hk.cell (p := ⟨C, 2, none⟩) h.lt hC).trans h.c2,
    (hk.frozen (p := ⟨C, 0, none⟩) h.lt hC).trans h.f0, (hk.frozen (p := ⟨C, 1, none⟩) h.lt hC).trans h.f1, (hk.frozen (p := ⟨C, 2, none⟩) h.lt hC).trans h.f2, h.ne, h.sn, h.len, h.size⟩
theorem Qu.below {w w' : World} {C sn : Nat} {G : Option Nat} {mo : Int} {L : List ByteArray} (h : Qu w C G mo L sn) (hb : Below w.heap.size w w') : Qu w' C G mo L sn :=
  h.kept (T := fun _ => False) (Kept.of_below hb (fun k hk h' => by omega)) (fun x => x) (fun _ _ x => x)
theorem Qu.tlt {w : World} {C sn : Nat} {G : Option Nat} {mo : Int} {L : List ByteArray} (h : Qu w C G mo L sn) {k : Nat} (hk : qtch C G k) : k < w.heap.size := by
  rcases hk with rfl | hk
  · exact h.lt
  · obtain ⟨a, cap, _, h2⟩ := h.c1
    exact h2.lt hk

/-- a queue that was has now the payloads L', sn' of them sent, and nothing else is turned -/
def Mvq (w w' : World) (C : Nat) (G : Option Nat) (mo : Int) (L' : List ByteArray) (sn' : Nat) : Prop :=
  ∃ G', Qu w' C G' mo L' sn' ∧ Kept w w' (qtch C G) ∧ ∀ B, G' = some B → G = some B ∨ w.heap.size ≤ B

theorem Qu.same {w w' : World} {C sn : Nat} {G : Option Nat} {mo : Int} {L : List ByteArray} (h : Qu w C G mo L sn) (hb : Below w.heap.size w w') : Mvq w w' C G mo L sn :=
  ⟨G, h.below hb, Kept.of_below hb (fun k hk h' => by omega), fun B hB => Or.inl hB⟩
theorem Mvq.ahead {w w1 w2 : World} {C sn : Nat} {G : Option Nat} {mo : Int} {L : List ByteArray} (hb : Below w.heap.size w w1) (h : Mvq w1 w2 C G mo L sn) : Mvq w w2 C G mo L sn := by
  obtain ⟨m', hc, hk, hf⟩ := h
  refine ⟨m', hc, (Kept.of_below (T := qtch C G) hb (fun k hk h' => by omega)).trans hk (fun k _ h => h), fun B hB => ?_⟩
  rcases hf B hB with h' | h'
  · exact Or.inl h'
  · exact Or.inr (Nat.le_trans hb.size h')
theorem Mvq.then {w w1 w2 : World} {C sn : Nat} {G : Option Nat} {mo : Int} {L : List ByteArray} (h : Mvq w w1 C G mo L sn) (hb : Below w1.heap.size w1 w2) : Mvq w w2 C G mo L sn := by
  obtain ⟨m', hc, hk, hf⟩ := h
  exact ⟨m', hc.below hb, hk.trans (T' := fun _ => False) (Kept.of_below hb (fun k hk h' => by omega)) (fun _ _ h => h.elim), hf⟩
/-- its number of sent ones is laid down -/
theorem Qu.setSent {w : World} {C sn sn' : Nat} {G : Option Nat} {mo : Int} {L : List ByteArray} (h : Qu w C G mo L sn) (hs : sn' ≤ L.length) : Mvq w (w.setCell ⟨C, 2, none⟩ (.int .i64 sn')) C G mo L sn' := by
  have hk : Kept w (w.setCell ⟨C, 2, none⟩ (.int .i64 sn')) (qtch C G) := (Kept.refl w _).setCell (p := ⟨C, 2, none⟩) (fun _ => Or.inl rfl) _
  have hk1 : Kept w (w.setCell ⟨C, 2, none⟩ (.int .i64 sn')) (fun k => k = C) := (Kept.refl w (fun k => k = C)).setCell (p := ⟨C, 2, none⟩) (fun _ => rfl) _
  obtain ⟨a, cap, h1, h2⟩ := h.c1
  refine ⟨G, ⟨Nat.lt_of_lt_of_le h.lt hk.size, ?_, ⟨a, cap, ?_, h2.kept hk1 (fun B hB e => h.ne (by rw [hB, e]))⟩, ?_, ?_, ?_, ?_, h.ne, hs, h.len, h.size⟩, hk, fun B hB => Or.inl hB⟩
  · rw [World.cell?_setCell_other w _ _ _ (fun h => by injection h with _ h2; omega)]; exact h.c0
  · rw [World.cell?_setCell_other w _ _ _ (fun h => by injection h with _ h2; omega)]; exact h1
  · exact World.cell?_setCell_same' w ⟨C, 2, none⟩ _ (by rw [h.c2]; rfl)
  · rw [World.frozen?_setCell]; exact h.f0
  · rw [World.frozen?_setCell]; exact h.f1
  · rw [World.frozen?_setCell]; exact h.f2
/-- its payloads are laid down -/
theorem Qu.setRow {w wq : World} {C sn cap' : Nat} {G G' : Option Nat} {mo : Int} {L L' : List ByteArray} {a' : Option Addr} (h : Qu w C G mo L sn) (hk : Kept w wq (fun k => G = some k)) (hS : SRow wq a' cap' G' L') (hG : ∀ B, G' = some B → G = some B ∨ w.heap.size ≤ B) (hs : sn ≤ L'.length) (hl : L'.length ≤ Qm.takes mo) (hz : ∀ x ∈ L', x.size ≤ 260) :
    Mvq w (wq.setCell ⟨C, 1, none⟩ (.slice a' L'.length cap')) C G mo L' sn := by
  have hne : ¬ (G = some C) := h.ne
  have hne' : G' ≠ some C := fun e => by
    rcases hG C e with h' | h'
    · exact hne h'
    · have := h.lt; omega
  have hk1 : Kept wq (wq.setCell ⟨C, 1, none⟩ (.slice a' L'.length cap')) (fun k => k = C) := (Kept.refl wq (fun k => k = C)).setCell (p := ⟨C, 1, none⟩) (fun _ => rfl) _
  obtain ⟨a, cap, h1, h2⟩ := h.c1
  have hlt := h.lt
  refine ⟨G', ⟨by have := hk.size; have := hk1.size; omega, ?_, ⟨a', cap', ?_, hS.kept hk1 (fun B hB e => hne' (by rw [hB, e]))⟩, ?_, ?_, ?_, ?_, hne', hs, hl, hz⟩, (hk.mono (fun k _ e => Or.inr e)).trans hk1 (fun k _ e => Or.inl e), hG⟩
  · rw [World.cell?_setCell_other wq _ _ _ (fun h => by injection h with _ h2; omega)]; exact (hk.cell (p := ⟨C, 0, none⟩) hlt hne).trans h.c0
  · exact World.cell?_setCell_same' wq ⟨C, 1, none⟩ _ (by rw [(hk.cell (p := ⟨C, 1, none⟩) hlt hne).trans h1]; rfl)
  · rw [World.cell?_setCell_other wq _ _ _ (fun h => by injection h with _ h2; omega)]; exact (hk.cell (p := ⟨C, 2, none⟩) hlt hne).trans h.c2
  · rw [World.frozen?_setCell]; exact (hk.frozen (p := ⟨C, 0, none⟩) hlt hne).trans h.f0
  · rw [World.frozen?_setCell]; exact (hk.frozen (p := ⟨C, 1, none⟩) hlt hne).trans h.f1
  · rw [World.frozen?_setCell]; exact (hk.frozen (p := ⟨C, 2, none⟩) hlt hne).trans h.f2
/-- its payloads are laid down, and its number of sent ones -/
theorem Qu.setBoth {w wq : World} {C sn sn' cap' : Nat} {G G' : Option Nat} {mo : Int} {L L' : List ByteArray} {a' : Option Addr} (h : Qu w C G mo L sn) (hk : Kept w wq (fun k => G = some k)) (hS : SRow wq a' cap' G' L') (hG : ∀ B, G' = some B → G = some B ∨ w.heap.size ≤ B) (hs : sn' ≤ L'.length) (hl : L'.length ≤ Qm.takes mo) (hz : ∀ x ∈ L', x.size ≤ 260) :
    Mvq w ((wq.setCell ⟨C, 1, none⟩ (.slice a' L'.length cap')).setCell ⟨C, 2, none⟩ (.int .i64 sn')) C G mo L' sn' := by
  have hne : ¬ (G = some C) := h.ne
  have hne' : G' ≠ some C := fun e => by
    rcases hG C e with h' | h'
    · exact hne h'
    · have := h.lt; omega
  obtain ⟨W, hW⟩ : ∃ W, W = wq.setCell ⟨C, 1, none⟩ (.slice a' L'.length cap') := ⟨_, rfl⟩
  have hk1 : Kept wq W (fun k => k = C) := by rw [hW]; exact (Kept.refl wq (fun k => k = C)).setCell (p := ⟨C, 1, none⟩) (fun _ => rfl) _
  have hk2 : Kept W (W.setCell ⟨C, 2, none⟩ (.int .i64 sn')) (fun k => k = C) := (Kept.refl W (fun k => k = C)).setCell (p := ⟨C, 2, none⟩) (fun _ => rfl) _
  obtain ⟨a, cap, h1, h2⟩ := h.c1
  have hlt := h.lt
  have b0 : W.cell? ⟨C, 0, none⟩ = some (.int .i64 mo) := by
    rw [hW, World.cell?_setCell_other wq _ _ _ (fun h => by injection h with _ h2; omega)]; exact (hk.cell (p := ⟨C, 0, none⟩) hlt hne).trans h.c0
  have b1 : W.cell? ⟨C, 1, none⟩ = some (.slice a' L'.length cap') := by
    rw [hW]; exact World.cell?_setCell_same' wq ⟨C, 1, none⟩ _ (by rw [(hk.cell (p := ⟨C, 1, none⟩) hlt hne).trans h1]; rfl)
  have b2 : W.cell? ⟨C, 2, none⟩ = some (.int .i64 sn) := by
    rw [hW, World.cell?_setCell_other wq _ _ _ (fun h => by injection h with _ h2; omega)]; exact (hk.cell (p := ⟨C, 2, none⟩) hlt hne).trans h.c2
  have z0 : W.frozen? ⟨C, 0, none⟩ = false := by rw [hW, World.frozen?_setCell]; exact (hk.frozen (p := ⟨C, 0, none⟩) hlt hne).trans h.f0
  have z1 : W.frozen? ⟨C, 1, none⟩ = false := by rw [hW, World.frozen?_setCell]; exact (hk.frozen (p := ⟨C, 1, none⟩) hlt hne).trans h.f1
  have z2 : W.frozen? ⟨C, 2, none⟩ = false := by rw [hW, World.frozen?_setCell]; exact (hk.frozen (p := ⟨C, 2, none⟩) hlt hne).trans h.f2
  rw [← hW]
  refine ⟨G', ⟨by have := hk.size; have := hk1.size; have := hk2.size; omega, ?_, ⟨a', cap', ?_, (hS.kept hk1 (fun B hB e => hne' (by rw [hB, e]))).kept hk2 (fun B hB e => hne' (by rw [hB, e]))⟩, ?_, ?_, ?_, ?_, hne', hs, hl, hz⟩, ((hk.mono (fun k _ e => Or.inr e)).trans hk1 (fun k _ e => Or.inl e)).trans hk2 (fun k _ e => Or.inl e), hG⟩
  · rw [World.cell?_setCell_other W _ _ _ (fun h => by injection h with _ h2; omega)]; exact b0
  · rw [World.cell?_setCell_other W _ _ _ (fun h => by injection h with _ h2; omega)]; exact b1
  · exact World.cell?_setCell_same' W ⟨C, 2, none⟩ _ (by rw [b2]; rfl)
  · rw [World.frozen?_setCell]; exact z0
  · rw [World.frozen?_setCell]; exact z1
  · rw [World.frozen?_setCell]; exact z2
theorem qsrow_nil (w : World) : SRow w none 0 none [] := ⟨Nat.le_refl _, Nat.zero_le _, Or.inl ⟨rfl, rfl, rfl⟩⟩
theorem Mvq.trans {w w1 w2 : World} {C sn sn2 : Nat} {G : Option Nat} {mo : Int} {L L2 : List ByteArray} (h : Mvq w w1 C G mo L sn) (h2 : ∀ G1, Qu w1 C G1 mo L sn → Mvq w1 w2 C G1 mo L2 sn2) : Mvq w w2 C G mo L2 sn2 := by
  obtain ⟨G1, hq, hk, hf⟩ := h
  obtain ⟨G2, hq2, hk2, hf2⟩ := h2 G1 hq
  refine ⟨G2, hq2, hk.trans hk2 (fun k hk' ht => ?_), fun B hB => ?_⟩
  · rcases ht with rfl | ht
    · exact Or.inl rfl
    · rcases hf k ht with h' | h'
      · exact Or.inr h'
      · omega
  · rcases hf2 B hB with h' | h'
    · exact hf B h'
    · exact Or.inr (Nat.le_trans hk.size h')
end Go.Proofs.YtidemohpngkedabGreatDoor
