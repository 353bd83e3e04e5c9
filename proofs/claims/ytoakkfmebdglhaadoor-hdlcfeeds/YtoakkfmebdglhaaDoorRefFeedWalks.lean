/-
  The walk of the document's Feed: what is met by bits, in a row of its own. Nothing but the decoder is turned.
-/
import Derived.Test.YtoakkfmebdglhaaDoorRefEndedWalks
import Derived.Test.YtoakkfmebdglhaaDoorFeedWalks
import Derived.Deep.RegionLaw
import Derived.Deep.AppendLies
namespace Go.Proofs.YtoakkfmebdglhaaDoor
open Go.RowKit
set_option linter.unusedVariables false
set_option linter.unusedSimpArgs false

theorem info_rev : (Tryd.prog.info? 55).map (fun i => (i.zero, i.size, i.bytes)) = some (some (.agg #[.int .i64 0, .string ByteArray.empty]), 2, 24) := by kernel_rfl

/-- The document's decoder: its three fields in block R, its bits in a row of its own. -/
structure RC (w : World) (base R : Nat) (v : Value) (inn : Bool) (ones : Nat) (since : List Int) : Prop where
  ge : base ≤ R
  lt : R < w.heap.size
  c0 : w.cell? ⟨R, 0, none⟩ = some v
  c1 : w.cell? ⟨R, 1, none⟩ = some (.bool inn)
  c2 : w.cell? ⟨R, 2, none⟩ = some (.int .i64 (ones : Int))
  f : ∀ j, j < 3 → w.frozen? ⟨R, j, none⟩ = false
  own : w.ownsRow base 5 1 v since.length (since.map (Value.int .u8))
  ne : v.ownBlock ≠ some R

theorem RC.kept {w w' : World} {base R : Nat} {v : Value} {inn : Bool} {ones : Nat} {since : List Int} {T : Nat → Prop} (h : RC w base R v inn ones since) (hk : Kept w w' T) (hD : ¬ T R) (hv : ∀ k, v.ownBlock = some k → ¬ T k) : RC w' base R v inn ones since :=
  ⟨h.ge, Nat.lt_of_lt_of_le h.lt hk.size, (hk.cell (p := ⟨R, 0, none⟩) h.lt hD).trans h.c0, (hk.cell (p := ⟨R, 1, none⟩) h.lt hD).trans h.c1, (hk.cell (p := ⟨R, 2, none⟩) h.lt hD).trans h.c2,
    fun j hj => (hk.frozen (p := ⟨R, j, none⟩) h.lt hD).trans (h.f j hj), hk.owns h.own hv, h.ne⟩

theorem addr_ne (R a b : Nat) (h : a ≠ b) : (⟨R, a, none⟩ : Addr) ≠ ⟨R, b, none⟩ := fun e => by injection e with _ e2; exact h e2

theorem RC.set1 {w : World} {base R : Nat} {v : Value} {inn : Bool} {ones : Nat} {since : List Int} (h : RC w base R v inn ones since) (b : Bool) : RC (w.setCell ⟨R, 1, none⟩ (.bool b)) base R v b ones since := by
  have hk : Kept w (w.setCell ⟨R, 1, none⟩ (.bool b)) (fun k => k = R) := Kept.setCell (T := fun k => k = R) (Kept.refl w _) (p := ⟨R, 1, none⟩) (fun _ => rfl) _
  refine ⟨h.ge, Nat.lt_of_lt_of_le h.lt hk.size, ?_, ?_, ?_, fun j hj => ?_, hk.owns h.own (fun k hk e => h.ne (by rw [hk, e])), h.ne⟩
  · rw [World.cell?_setCell_other _ _ _ _ (addr_ne R 1 0 (by decide))]; exact h.c0
  · exact World.cell?_setCell_same' w ⟨R, 1, none⟩ _ (by rw [h.c1]; rfl)
  · rw [World.cell?_setCell_other _ _ _ _ (addr_ne R 1 2 (by decide))]; exact h.c2
  · have := h.f j hj; simpa using this
theorem RC.set2 {w : World} {base R : Nat} {v : Value} {inn : Bool} {ones : Nat} {since : List Int} (h : RC w base R v inn ones since) (n : Nat) : RC (w.setCell ⟨R, 2, none⟩ (.int .i64 (n : Int))) base R v inn n since := by
  have hk : Kept w (w.setCell ⟨R, 2, none⟩ (.int .i64 (n : Int))) (fun k => k = R) := Kept.setCell (T := fun k => k = R) (Kept.refl w _) (p := ⟨R, 2, none⟩) (fun _ => rfl) _
  refine ⟨h.ge, Nat.lt_of_lt_of_le h.lt hk.size, ?_, ?_, ?_, fun j hj => ?_, hk.owns h.own (fun k hk e => h.ne (by rw [hk, e])), h.ne⟩
  · rw [World.cell?_setCell_other _ _ _ _ (addr_ne R 2 0 (by decide))]; exact h.c0
  · rw [World.cell?_setCell_other _ _ _ _ (addr_ne R 2 1 (by decide))]; exact h.c1
  · exact World.cell?_setCell_same' w ⟨R, 2, none⟩ _ (by rw [h.c2]; rfl)
  · have := h.f j hj; simpa using this
theorem RC.set0 {w : World} {base R : Nat} {v v' : Value} {inn : Bool} {ones : Nat} {since since' : List Int} (h : RC w base R v inn ones since) (ho : w.ownsRow base 5 1 v' since'.length (since'.map (Value.int .u8))) (hne : v'.ownBlock ≠ some R) : RC (w.setCell ⟨R, 0, none⟩ v') base R v' inn ones since' := by
  have hk : Kept w (w.setCell ⟨R, 0, none⟩ v') (fun k => k = R) := Kept.setCell (T := fun k => k = R) (Kept.refl w _) (p := ⟨R, 0, none⟩) (fun _ => rfl) _
  refine ⟨h.ge, Nat.lt_of_lt_of_le h.lt hk.size, ?_, ?_, ?_, fun j hj => ?_, hk.owns ho (fun k hk e => hne (by rw [hk, e])), hne⟩
  · exact World.cell?_setCell_same' w ⟨R, 0, none⟩ _ (by rw [h.c0]; rfl)
  · rw [World.cell?_setCell_other _ _ _ _ (addr_ne R 0 1 (by decide))]; exact h.c1
  · rw [World.cell?_setCell_other _ _ _ _ (addr_ne R 0 2 (by decide))]; exact h.c2
  · have := h.f j hj; simpa using this

/-- bits are on their way -/
structure RF (base R : Nat) (v : Value) (w wr : World) (inn : Bool) (ones : Nat) (since : List Int) (evs : List Hm.Ev) (mv v1 : Value) : Prop where
  mem : RC wr base R v1 inn ones since
  kept : Kept w wr (touch R v)
  fresh : ∀ k, v1.ownBlock = some k → v.ownBlock = some k ∨ w.heap.size ≤ k
  row : wr.ownsRow w.heap.size 55 2 mv evs.length (evCells evs)
  apart : ∀ k, mv.ownBlock = some k → v1.ownBlock ≠ some k
  lt : R < w.heap.size

section
variable {base R : Nat} {v mv v1 : Value} {w wr : World} {inn : Bool} {ones : Nat} {since : List Int} {evs : List Hm.Ev}

theorem RF.nmv (h : RF base R v w wr inn ones since evs mv v1) : ∀ k, mv.ownBlock = some k → k ≠ R := fun k hk e => by
  have := (h.row.lt k hk).1; have := h.lt; omega
/-- a store into the decoder -/
theorem RF.stored (h : RF base R v w wr inn ones since evs mv v1) (j : Nat) (u : Value) {inn' : Bool} {ones' : Nat} {since' : List Int} {v2 : Value} (hm : RC (wr.setCell ⟨R, j, none⟩ u) base R v2 inn' ones' since')
    (hv : ∀ k, v2.ownBlock = some k → v1.ownBlock = some k) : RF base R v w (wr.setCell ⟨R, j, none⟩ u) inn' ones' since' evs mv v2 := by
  have hk : Kept wr (wr.setCell ⟨R, j, none⟩ u) (fun k => k = R) := Kept.setCell (T := fun k => k = R) (Kept.refl wr _) (p := ⟨R, j, none⟩) (fun _ => rfl) _
  exact ⟨hm, h.kept.trans hk (fun k _ e => Or.inl e), fun k hk => h.fresh k (hv k hk), hk.owns h.row (fun k hk e => h.nmv k hk e), fun k hk e => h.apart k hk (hv k e), h.lt⟩
theorem RF.set1 (h : RF base R v w wr inn ones since evs mv v1) (b : Bool) : RF base R v w (wr.setCell ⟨R, 1, none⟩ (.bool b)) b ones since evs mv v1 := h.stored 1 _ (h.mem.set1 b) (fun k hk => hk)
theorem RF.set2 (h : RF base R v w wr inn ones since evs mv v1) (n : Nat) : RF base R v w (wr.setCell ⟨R, 2, none⟩ (.int .i64 (n : Int))) inn n since evs mv v1 := h.stored 2 _ (h.mem.set2 n) (fun k hk => hk)
theorem RF.nil (h : RF base R v w wr inn ones since evs mv v1) : RF base R v w (wr.setCell ⟨R, 0, none⟩ (.slice none 0 0)) inn ones [] evs mv (.slice none 0 0) :=
  h.stored 0 _ (h.mem.set0 (World.ownsRow_nil _ _ _ _) (by simp [Value.ownBlock])) (fun k hk => by simp [Value.ownBlock] at hk)
theorem RF.behind {w2 : World} (h : RF base R v w wr inn ones since evs mv v1) (hb : Below wr.heap.size wr w2) : RF base R v w w2 inn ones since evs mv v1 := by
  have hk : Kept wr w2 (fun _ => False) := Kept.of_below hb (fun k hk h' => by omega)
  exact ⟨h.mem.kept hk (fun x => x) (fun _ _ x => x), h.kept.trans hk (fun _ _ h => h.elim), h.fresh, hk.owns h.row (fun _ _ x => x), h.apart, h.lt⟩
/-- a bit behind those that came -/
theorem RF.bit {W w1 : World} {c : Int} {g cap : Nat} (h : RF base R v w wr inn ones since evs mv v1) (hW : Below wr.heap.size wr W) (hg : W.grownBy w1 v1.ownBlock)
    (ho : w1.ownsRow base 5 1 (.slice (some ⟨g, 0, none⟩) (since.length + 1) cap) (since.length + 1) (since.map (Value.int .u8) ++ [.int .u8 c])) (hw : v1.ownBlock = some g ∨ W.heap.size ≤ g) :
    RF base R v w (w1.setCell ⟨R, 0, none⟩ (.slice (some ⟨g, 0, none⟩) (since.length + 1) cap)) inn ones (since ++ [c]) evs mv (.slice (some ⟨g, 0, none⟩) (since.length + 1) cap) := by
  have hsW := hW.size
  have hk1 : Kept wr w1 (fun k => v1.ownBlock = some k) := (Kept.of_below (T := fun k => v1.ownBlock = some k) hW (fun k hk h' => by omega)).trans (Kept.of_grown (T := fun k => v1.ownBlock = some k) hg (fun k e => e)) (fun _ _ h => h)
  have hlt := h.mem.lt
  have hmR : RC w1 base R v1 inn ones since → True := fun _ => trivial
  have hneR : (Value.slice (some ⟨g, 0, none⟩) (since.length + 1) cap).ownBlock ≠ some R := fun e => by
    simp [Value.ownBlock] at e
    subst e
    rcases hw with h' | h'
    · exact h.mem.ne h'
    · omega
  have hk2 : Kept w1 (w1.setCell ⟨R, 0, none⟩ (.slice (some ⟨g, 0, none⟩) (since.length + 1) cap)) (fun k => k = R) := Kept.setCell (T := fun k => k = R) (Kept.refl w1 _) (p := ⟨R, 0, none⟩) (fun _ => rfl) _
  have hRv : ¬ v1.ownBlock = some R := h.mem.ne
  refine ⟨⟨h.mem.ge, ?_, ?_, ?_, ?_, fun j hj => ?_, ?_, hneR⟩, ?_, ?_, ?_, ?_, h.lt⟩
  · exact Nat.lt_of_lt_of_le (Nat.lt_of_lt_of_le hlt hk1.size) hk2.size
  · exact World.cell?_setCell_same' w1 ⟨R, 0, none⟩ _ (by rw [hk1.cell (p := ⟨R, 0, none⟩) hlt hRv, h.mem.c0]; rfl)
  · rw [World.cell?_setCell_other _ _ _ _ (addr_ne R 0 1 (by decide)), hk1.cell (p := ⟨R, 1, none⟩) hlt hRv]; exact h.mem.c1
  · rw [World.cell?_setCell_other _ _ _ _ (addr_ne R 0 2 (by decide)), hk1.cell (p := ⟨R, 2, none⟩) hlt hRv]; exact h.mem.c2
  · have := (hk1.frozen (p := ⟨R, j, none⟩) hlt hRv).trans (h.mem.f j hj); simpa using this
  · have := hk2.owns ho (fun k hk e => hneR (by rw [hk, e])); simpa using this
  · refine (h.kept.trans hk1 (fun k hk' ht => ?_)).trans hk2 (fun k _ e => Or.inl e)
    rcases h.fresh k ht with h' | h'
    · exact Or.inr h'
    · omega
  · intro k hk
    simp [Value.ownBlock] at hk
    subst hk
    rcases hw with h' | h'
    · exact h.fresh g h'
    · have := h.kept.size; exact Or.inr (by omega)
  · have h1 := hk1.owns h.row (fun k hk e => h.apart k hk e)
    exact hk2.owns h1 (fun k hk e => h.nmv k hk e)
  · intro k hk e
    simp [Value.ownBlock] at e
    subst e
    rcases hw with h' | h'
    · exact h.apart g hk h'
    · have := (h.row.lt g hk).2; omega
/-- one event more -/
theorem RF.event {W w2 : World} {g cap : Nat} {ev : Hm.Ev} (h : RF base R v w wr inn ones since evs mv v1) (hW : Below wr.heap.size wr W) (hg : W.grownBy w2 mv.ownBlock)
    (ho : w2.ownsRow w.heap.size 55 2 (.slice (some ⟨g, 0, none⟩) (evs.length + 1) cap) (evs.length + 1) (evCells evs ++ evCells [ev])) (hw : mv.ownBlock = some g ∨ W.heap.size ≤ g) :
    RF base R v w w2 inn ones since (evs ++ [ev]) (.slice (some ⟨g, 0, none⟩) (evs.length + 1) cap) v1 := by
  have h1 := h.behind hW
  have hk : Kept W w2 (fun k => mv.ownBlock = some k) := Kept.of_grown hg (fun k e => e)
  refine ⟨h1.mem.kept hk (fun hx => h.nmv R hx rfl) (fun k hk' hx => h1.apart k hx hk'), h1.kept.trans hk (fun k hk' ht => ?_), h1.fresh, ?_, ?_, h.lt⟩
  · have := (h.row.lt k ht).1; omega
  · rw [evCells_append, List.length_append]; exact ho
  · intro k hk' hv
    simp [Value.ownBlock] at hk'
    subst hk'
    rcases hw with h' | h'
    · exact h1.apart g h' hv
    · have := (h1.mem.own.lt g hv).2; omega
end
end Go.Proofs.YtoakkfmebdglhaaDoor
