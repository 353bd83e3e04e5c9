/-
  Rows of numbers: one that is only read (Lies), one of the call's own that may be written and grow (IRow). It names no type of the program but int and []int.
-/
import Derived.Test.YtdnhcpkpajbhoabKept
import Derived.ArgAppend
import Derived.Laws.OwnMore
namespace Go.Proofs.Ytdnhcpkpajbhoab
open Go.RowKit
set_option linter.unusedVariables false
set_option linter.unusedSimpArgs false

theorem int_info : (Try.prog.info? 3).map (fun i => (i.zero, i.size, i.bytes)) = some (some (.int .i64 0), 1, 8) := by kernel_rfl

def In64 (n : Int) : Prop := -9223372036854775808 ≤ n ∧ n ≤ 9223372036854775807
/-- the numbers L lie one behind the other, in block G -/
def Lies (w : World) (a : Option Addr) (G : Option Nat) (L : List Int) : Prop :=
  L = [] ∨ ∃ g off, a = some ⟨g, off, none⟩ ∧ G = some g ∧ g < w.heap.size ∧ ∀ i, i < L.length → w.cell? ⟨g, off + i, none⟩ = some (.int .i64 (L.getD i 0))
theorem Lies.kept {w w' : World} {a : Option Addr} {G : Option Nat} {L : List Int} {T : Nat → Prop} (h : Lies w a G L) (hk : Kept w w' T) (hG : ∀ B, G = some B → ¬ T B) : Lies w' a G L := by
  rcases h with h | ⟨g, off, h1, h2, h3, h4⟩
  · exact Or.inl h
  · exact Or.inr ⟨g, off, h1, h2, Nat.lt_of_lt_of_le h3 hk.size, fun i hi => (hk.cell (p := ⟨g, off + i, none⟩) h3 (hG g h2)).trans (h4 i hi)⟩

theorem ints_at (L : List Int) (j : Nat) (u : Value) (h : (L.map (Value.int .i64))[j]? = some u) : j < L.length ∧ u = .int .i64 (L.getD j 0) := by
  have hj := (List.getElem?_eq_some_iff.1 h).1
  rw [List.length_map] at hj
  refine ⟨hj, ?_⟩
  rw [List.getElem?_map, List.getElem?_eq_getElem hj] at h
  injection h with h
  rw [← h]
  simp [List.getD, List.getElem?_eq_getElem hj]
theorem ints_get (L : List Int) (j : Nat) (h : j < L.length) : (L.map (Value.int .i64))[j]? = some (.int .i64 (L.getD j 0)) := by
  rw [List.getElem?_map, List.getElem?_eq_getElem h]
  simp [List.getD, List.getElem?_eq_getElem h]
theorem ints_one (L : List Int) : ∀ u ∈ L.map (Value.int .i64), u.oneCell' = true := by
  intro u hu
  obtain ⟨x, _, rfl⟩ := List.mem_map.1 hu
  rfl
theorem daddr_at (g j : Nat) : (⟨g, 0, none⟩ : Addr).add j = ⟨g, j, none⟩ := by unfold Addr.add; split <;> simp_all

/-- a row of the call's own that may be written -/
structure IRow (w : World) (a : Option Addr) (cap : Nat) (G : Option Nat) (L : List Int) : Prop where
  le : L.length ≤ cap
  mx : cap ≤ maxLen
  row : (a = none ∧ G = none ∧ cap = 0) ∨ ∃ g, a = some ⟨g, 0, none⟩ ∧ G = some g ∧ g < w.heap.size ∧ (∀ i, i < L.length → w.cell? ⟨g, i, none⟩ = some (.int .i64 (L.getD i 0))) ∧ ∀ j, j < cap → (w.cell? ⟨g, j, none⟩).isSome = true ∧ w.frozen? ⟨g, j, none⟩ = false
theorem IRow.kept {w w' : World} {a : Option Addr} {cap : Nat} {G : Option Nat} {L : List Int} {T : Nat → Prop} (h : IRow w a cap G L) (hk : Kept w w' T) (hG : ∀ B, G = some B → ¬ T B) : IRow w' a cap G L := by
  refine ⟨h.le, h.mx, ?_⟩
  rcases h.row with h' | ⟨g, h1, h2, h3, h4, h5⟩
  · exact Or.inl h'
  · refine Or.inr ⟨g, h1, h2, Nat.lt_of_lt_of_le h3 hk.size, fun i hi => (hk.cell (p := ⟨g, i, none⟩) h3 (hG g h2)).trans (h4 i hi), fun j hj => ?_⟩
    rw [hk.cell (p := ⟨g, j, none⟩) h3 (hG g h2), hk.frozen (p := ⟨g, j, none⟩) h3 (hG g h2)]
    exact h5 j hj
theorem IRow.lt {w : World} {a : Option Addr} {cap : Nat} {G : Option Nat} {L : List Int} (h : IRow w a cap G L) {B : Nat} (hB : G = some B) : B < w.heap.size := by
  rcases h.row with ⟨_, h2, _⟩ | ⟨g, h1, h2, h3, _⟩
  · rw [h2] at hB; cases hB
  · rw [h2] at hB; injection hB with hB; subst hB; exact h3
theorem IRow.below {w w' : World} {a : Option Addr} {cap : Nat} {G : Option Nat} {L : List Int} (h : IRow w a cap G L) (hb : Below w.heap.size w w') : IRow w' a cap G L :=
  h.kept (T := fun _ => False) (Kept.of_below hb (fun k hk h' => by omega)) (fun _ _ x => x)
theorem IRow.lies {w : World} {a : Option Addr} {cap : Nat} {G : Option Nat} {L : List Int} (h : IRow w a cap G L) : Lies w a G L := by
  rcases h.row with ⟨_, _, h3⟩ | ⟨g, h1, h2, h3, h4, _⟩
  · exact Or.inl (List.eq_nil_of_length_eq_zero (by have := h.le; omega))
  · exact Or.inr ⟨g, 0, h1, h2, h3, fun i hi => by rw [Nat.zero_add]; exact h4 i hi⟩
theorem IRow.nth {w : World} {a : Option Addr} {cap : Nat} {G : Option Nat} {L : List Int} (h : IRow w a cap G L) (i : Nat) (hi : i < L.length) : ∃ g, a = some ⟨g, 0, none⟩ ∧ G = some g ∧ g < w.heap.size ∧ w.cell? ⟨g, i, none⟩ = some (.int .i64 (L.getD i 0)) ∧ w.frozen? ⟨g, i, none⟩ = false := by
  rcases h.row with ⟨_, _, h3⟩ | ⟨g, h1, h2, h3, h4, h5⟩
  · have := h.le; omega
  · exact ⟨g, h1, h2, h3, h4 i hi, (h5 i (by have := h.le; omega)).2⟩
/-- one of its numbers is laid down anew -/
theorem IRow.set {w : World} {g cap : Nat} {a : Option Addr} {L : List Int} (h : IRow w a cap (some g) L) (i : Nat) (hi : i < L.length) (v : Int) : IRow (w.setCell ⟨g, i, none⟩ (.int .i64 v)) a cap (some g) (L.set i v) ∧ Kept w (w.setCell ⟨g, i, none⟩ (.int .i64 v)) (fun k => k = g) := by
  have hk : Kept w (w.setCell ⟨g, i, none⟩ (.int .i64 v)) (fun k => k = g) := (Kept.refl w (fun k => k = g)).setCell (p := ⟨g, i, none⟩) (fun _ => rfl) _
  refine ⟨⟨by simpa using h.le, h.mx, ?_⟩, hk⟩
  rcases h.row with ⟨_, h2, _⟩ | ⟨g', h1, h2, h3, h4, h5⟩
  · cases h2
  · injection h2 with h2
    subst h2
    refine Or.inr ⟨g, h1, rfl, Nat.lt_of_lt_of_le h3 hk.size, fun j hj => ?_, fun j hj => ?_⟩
    · have hj' : j < L.length := by simpa using hj
      by_cases e : j = i
      · subst e
        rw [World.cell?_setCell_same' w ⟨g, j, none⟩ _ (by rw [h4 j hj']; rfl)]
        simp [List.getD, hj']
      · rw [World.cell?_setCell_other w _ _ _ (fun h => by injection h with _ h2; omega), h4 j hj']
        simp [List.getD, List.getElem?_set, Ne.symm e]
    · rw [World.frozen?_setCell]
      refine ⟨?_, (h5 j hj).2⟩
      by_cases e : j = i
      · subst e
        rw [World.cell?_setCell_same' w ⟨g, j, none⟩ _ (h5 j hj).1]; rfl
      · rw [World.cell?_setCell_other w _ _ _ (fun h => by injection h with _ h2; omega)]
        exact (h5 j hj).1
/-- a row of the call's own is such a slice -/
theorem own_irow {w : World} {base : Nat} {v : Value} {L : List Int} {n : Nat} (hn : n = L.length) (h : w.ownsRow base 3 1 v n (L.map (Value.int .i64))) : ∃ a cap G, v = .slice a L.length cap ∧ IRow w a cap G L ∧ ∀ B, G = some B → base ≤ B ∧ B < w.heap.size := by
  subst hn
  have h0 := h
  rcases h.2 with ⟨rfl, h'⟩ | ⟨g, cap, cur, rfl, hb, hgg, hle, hm, hcs, _⟩
  · exact ⟨none, 0, none, by rw [h'], ⟨by omega, Nat.zero_le _, Or.inl ⟨rfl, rfl, rfl⟩⟩, fun B hB => (by cases hB)⟩
  · have hgl := (Array.getElem?_eq_some_iff.1 hgg).1
    refine ⟨_, cap, some g, rfl, ⟨hle, hm, Or.inr ⟨g, rfl, rfl, hgl, fun i hi => ?_, fun j hj => ⟨?_, ?_⟩⟩⟩, fun B hB => by injection hB with hB; subst hB; exact ⟨hb, hgl⟩⟩
    · have := h0.cells (g := g) rfl i _ (ints_get L i hi)
      rw [daddr_at] at this
      exact this
    · have hj' : j < cur.size := by rw [hcs]; omega
      simp [World.cell?, hgg]
      omega
    · exact h0.frozenAt _
theorem irow_nil (w : World) : IRow w none 0 none [] := ⟨Nat.le_refl _, Nat.zero_le _, Or.inl ⟨rfl, rfl, rfl⟩⟩

/-- one number more, behind the others -/
theorem append_irow {w : World} {ops : Array Oper} {rest : List Oper} {o : Oper} {a : Act} {Q : Exit → Act → World → Prop} (hgd : o.guard = none) (s x : Operand)
    (ho : o.op = .call { callee := .builtin .append, args := #[s, x], argTypes := #[31, 31] })
    (ao : Option Addr) (cap : Nat) (G : Option Nat) (L : List Int) (t : Int) (ad : Nat) (c : Nat) (hs : a.eval s = .slice ao L.length cap) (h1 : IRow w ao cap G L) (hx : a.eval x = .slice (some ⟨ad, 0, none⟩) 1 c) (h2 : w.cell? ⟨ad, 0, none⟩ = some (.int .i64 t)) (hl : L.length ≤ 1000000)
    (h : ∀ a' cap' G' w', IRow w' a' cap' G' (L ++ [t]) → Kept w w' (fun k => G = some k) → (∀ B, G' = some B → G = some B ∨ w.heap.size ≤ B) → wpList Try.prog ops Q rest (a.put o.dst (.slice a' (L.length + 1) cap')) w') : wpList Try.prog ops Q (o :: rest) a w := by
  obtain ⟨i0, hi, hz0, hz1, hz2⟩ := info_parts int_info
  have hnews : ∀ (j : Nat) (u : Value), [Value.int .i64 t][j]? = some u → w.cell? ((⟨ad, 0, none⟩ : Addr).add j) = some u := by
    intro j u hj
    rw [daddr_at]
    match j, hj with
    | 0, hj => simp at hj; subst hj; exact h2
  have hone : ∀ u ∈ [Value.int .i64 t], u.oneCell' = true := by
    intro u hu; simp at hu; subst hu; rfl
  have hgrow : ∀ v' w', w'.ownsRow w.heap.size 3 1 v' (L.length + 1) (L.map (Value.int .i64) ++ [.int .i64 t]) → w.grownBy w' none → wpList Try.prog ops Q rest (a.put o.dst v') w' := by
    intro v' w' hown hg
    have e : L.map (Value.int .i64) ++ [.int .i64 t] = (L ++ [t]).map (Value.int .i64) := by simp
    rw [e] at hown
    obtain ⟨a', cap', G', rfl, hS, hG⟩ := own_irow (by simp) hown
    have := h a' cap' G' w' hS (Kept.of_grown hg (fun k e => by cases e)) (fun B hB => Or.inr (hG B hB).1)
    simpa using this
  rcases h1.row with ⟨rfl, rfl, rfl⟩ | ⟨g, rfl, rfl, hlt, hc, hf⟩
  · have h0 : L = [] := List.eq_nil_of_length_eq_zero (by have := h1.le; omega)
    subst h0
    exact wpList_append_grows w hgd s x 31 ho 3 i0 (.int .i64 0) 1 8 Try.underlying31 hi hz0 hz1 hz2 rfl (by decide) none 0 0 [] hs (fun _ => ⟨rfl, rfl⟩) rfl (fun b hb => by cases hb) ⟨ad, 0, none⟩ 1 c [.int .i64 t] hx rfl hnews hone (by decide) (by unfold maxLen; omega) (by decide) hgrow
  · refine wpList_append_arg w hgd s x 31 ho 3 i0 (.int .i64 0) 1 8 Try.underlying31 hi hz0 hz1 hz2 rfl (by decide) g 0 L.length cap (L.map (Value.int .i64)) hs (by simp) (fun j u hj => ?_) ⟨ad, 0, none⟩ 1 c [.int .i64 t] hx rfl hnews hone (fun hr j hj => ?_) (by unfold maxLen; omega) (by omega) (fun hr => ?_) (fun _ => hgrow)
    · obtain ⟨h3, rfl⟩ := ints_at L j u hj
      rw [Nat.zero_add]
      exact hc j h3
    · have := hf (L.length + j) (by simp at hj; omega)
      rw [Nat.mul_one, Nat.zero_add]; exact this
    · have hk : Kept w (w.setCells g (0 + L.length * 1) [.int .i64 t]) (fun k => some g = some k) := (Kept.refl w (fun k => some g = some k)).setCell (p := ⟨g, 0 + L.length * 1, none⟩) (fun _ => rfl) _
      refine h (some ⟨g, 0, none⟩) cap (some g) _ ⟨by simp; omega, h1.mx, Or.inr ⟨g, rfl, rfl, Nat.lt_of_lt_of_le hlt hk.size, fun i hi => ?_, fun j hj => ?_⟩⟩ hk (fun B hB => Or.inl hB)
      · show (w.setCell ⟨g, 0 + L.length * 1, none⟩ (.int .i64 t)).cell? ⟨g, i, none⟩ = _
        rw [Nat.mul_one, Nat.zero_add]
        by_cases e : i = L.length
        · subst e
          rw [World.cell?_setCell_same' w ⟨g, L.length, none⟩ _ (hf L.length (by omega)).1]
          simp [List.getD]
        · have hi' : i < L.length := by simp at hi; omega
          rw [World.cell?_setCell_other w _ _ _ (fun h => by injection h with _ h2; omega), hc i hi']
          simp [List.getD, List.getElem?_append_left hi']
      · show (World.cell? (w.setCell ⟨g, 0 + L.length * 1, none⟩ (.int .i64 t)) _).isSome = true ∧ World.frozen? (w.setCell ⟨g, 0 + L.length * 1, none⟩ (.int .i64 t)) _ = false
        rw [Nat.mul_one, Nat.zero_add, World.frozen?_setCell]
        refine ⟨?_, (hf j hj).2⟩
        by_cases e : j = L.length
        · subst e
          rw [World.cell?_setCell_same' w ⟨g, L.length, none⟩ _ (hf L.length hj).1]; rfl
        · rw [World.cell?_setCell_other w _ _ _ (fun h => by injection h with _ h2; omega)]
          exact (hf j hj).1
end Go.Proofs.Ytdnhcpkpajbhoab
