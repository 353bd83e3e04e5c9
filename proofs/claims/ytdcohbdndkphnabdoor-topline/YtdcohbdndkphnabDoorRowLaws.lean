/-
  Rows of events, and one decoder behind the other: what the statements on pieces share.
-/
import Derived.Test.YtdcohbdndkphnabDoorEncMet
namespace Go.Proofs.YtdcohbdndkphnabDoor
open Go.RowKit
set_option linter.unusedVariables false
set_option linter.unusedSimpArgs false

theorem evCells_get (l : List Hm.Ev) : ∀ (i : Nat) (h : i < l.length), (evCells l)[2 * i]? = some (.int .i64 l[i].1) ∧ (evCells l)[2 * i + 1]? = some (.string l[i].2) := by
  induction l with
  | nil => intro i h; simp at h
  | cons a l ih =>
    intro i h
    have e : evCells (a :: l) = .int .i64 a.1 :: .string a.2 :: evCells l := by simp [evCells]
    rw [e]
    cases i with
    | zero => exact ⟨rfl, rfl⟩
    | succ i =>
      have := ih i (by simpa using h)
      rw [show 2 * (i + 1) = 2 * i + 1 + 1 from by omega]
      simpa using this

/-- a row of events: its shape -/
theorem row_shape {w : World} {B n : Nat} {x : Value} {xs : List Value} (h : w.ownsRow B 53 2 x n xs) : ∃ a cap, x = .slice a n cap := by
  rcases h.2 with ⟨rfl, h0⟩ | ⟨g, cap, cur, rfl, _⟩
  · exact ⟨none, 0, by rw [h0]⟩
  · exact ⟨_, cap, rfl⟩
/-- the i-th event of a row -/
theorem row_ev {w : World} {B n cap : Nat} {a : Option Addr} {evs : List Hm.Ev} (h : w.ownsRow B 53 2 (.slice a n cap) n (evCells evs)) (hn : n = evs.length) (i : Nat) (hi : i < evs.length) :
    ∃ g, a = some ⟨g, 0, none⟩ ∧ w.cell? ⟨g, i * 2, none⟩ = some (.int .i64 evs[i].1) ∧ w.cell? ⟨g, i * 2 + 1, none⟩ = some (.string evs[i].2) ∧ g < w.heap.size := by
  obtain ⟨g, hg⟩ : ∃ g, a = some ⟨g, 0, none⟩ := by
    rcases h.2 with ⟨_, h0⟩ | ⟨g, cap', cur, h', _⟩
    · omega
    · injection h' with h1 h2 h3; exact ⟨g, h1⟩
  subst hg
  have := evCells_get evs i hi
  refine ⟨g, rfl, ?_, ?_, (h.lt g rfl).2⟩
  · rw [h.cellAt (i * 2) (by omega), Nat.mul_comm]; exact this.1
  · rw [h.cellAt (i * 2 + 1) (by omega), Nat.mul_comm]; exact this.2

theorem Feeding.moved {base D : Nat} {v x v' : Value} {w w' : World} {r : Hm.St × List Hm.Ev} (h : Feeding base D v w w' r x v') : Moved w w' base D v r.1 := ⟨v', h.dec, h.kept, h.fresh⟩
theorem Feeding.below' {base D : Nat} {v x v' : Value} {w w' : World} {r : Hm.St × List Hm.Ev} {st : Hm.St} (h : Feeding base D v w w' r x v') (hd : Dec w base D v st) (hb : base ≤ w.heap.size) : Below base w w' :=
  h.kept.below hb (fun k hk => by
    rcases hk with rfl | hk
    · exact hd.ge
    · exact (hd.own.lt k hk).1)
/-- what does not touch it leaves what was fed -/
theorem Feeding.behind {base D : Nat} {v x v' : Value} {w w' w2 : World} {r : Hm.St × List Hm.Ev} (h : Feeding base D v w w' r x v') (hb : Below w'.heap.size w' w2) : Feeding base D v w w2 r x v' :=
  ⟨h.dec.below hb (Nat.le_refl _), h.kept.behind hb, h.fresh, (Kept.of_below (T := fun _ => False) hb (fun k hk h' => by omega)).owns h.row (fun _ _ x => x), h.apart, h.nil⟩
end Go.Proofs.YtdcohbdndkphnabDoor
