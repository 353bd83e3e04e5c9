/-
  A pool behind a pointer, the program's and the document's: 63 truth values one behind the other, and a number. Its methods turn its own block alone.
-/
import Derived.Test.YtdnhcpkpajbhoabPoolMath
import Derived.Test.YtdnhcpkpajbhoabKept
namespace Go.Proofs.Ytdnhcpkpajbhoab
open Go.RowKit
set_option linter.unusedVariables false
set_option linter.unusedSimpArgs false

/-- 63 truth values in block C, from the cell o on -/
structure Bools (w : World) (C o : Nat) (f : Nat → Bool) : Prop where
  lt : C < w.heap.size
  on : ∀ i, i < 63 → w.cell? ⟨C, o + i, none⟩ = some (.bool (f i))
  fz : ∀ i, w.frozen? ⟨C, i, none⟩ = false
section
variable {w w' : World} {C o nx : Nat} {f : Nat → Bool}
theorem Bools.kept {T : Nat → Prop} (h : Bools w C o f) (hk : Kept w w' T) (hC : ¬ T C) : Bools w' C o f :=
  ⟨Nat.lt_of_lt_of_le h.lt hk.size, fun i hi => (hk.cell (p := ⟨C, o + i, none⟩) h.lt hC).trans (h.on i hi), fun i => (hk.frozen (p := ⟨C, i, none⟩) h.lt hC).trans (h.fz i)⟩
theorem Bools.set (h : Bools w C o f) (p : Nat) (hp : p < 63) (b : Bool) : Bools (w.setCell ⟨C, o + p, none⟩ (.bool b)) C o (Pm.upd f p b) := by
  refine ⟨by simpa [World.setCell] using h.lt, fun i hi => ?_, fun i => ?_⟩
  · by_cases e : i = p
    · subst e
      rw [World.cell?_setCell_same' w ⟨C, o + i, none⟩ _ (by rw [h.on i hi]; rfl), Pm.upd_same]
    · rw [World.cell?_setCell_other w _ _ _ (fun h => by injection h with _ h2; omega), h.on i hi, Pm.upd_other f p b e]
  · rw [World.frozen?_setCell]; exact h.fz i
theorem Bools.setOther (h : Bools w C o f) (p : Nat) (hp : o + 63 ≤ p) (v : Value) : Bools (w.setCell ⟨C, p, none⟩ v) C o f := by
  refine ⟨by simpa [World.setCell] using h.lt, fun i hi => ?_, fun i => ?_⟩
  · rw [World.cell?_setCell_other w _ _ _ (fun h => by injection h with _ h2; omega), h.on i hi]
  · rw [World.frozen?_setCell]; exact h.fz i
theorem own_set (w : World) (C p : Nat) (v : Value) : Kept w (w.setCell ⟨C, p, none⟩ v) (fun k => k = C) := (Kept.refl w (fun k => k = C)).setCell (p := ⟨C, p, none⟩) (fun _ => rfl) _

/-- the program's pool -/
structure Pl (w : World) (C : Nat) (f : Nat → Bool) (nx : Nat) : Prop where
  bs : Bools w C 0 f
  cn : w.cell? ⟨C, 63, none⟩ = some (.int .i64 nx)
  hi : nx < 63
theorem Pl.lt (h : Pl w C f nx) : C < w.heap.size := h.bs.lt
theorem Pl.at (h : Pl w C f nx) (i : Nat) (hi : i < 63) : w.cell? ⟨C, i, none⟩ = some (.bool (f i)) := by
  have := h.bs.on i hi
  rwa [Nat.zero_add] at this
theorem Pl.kept {T : Nat → Prop} (h : Pl w C f nx) (hk : Kept w w' T) (hC : ¬ T C) : Pl w' C f nx := ⟨h.bs.kept hk hC, (hk.cell (p := ⟨C, 63, none⟩) h.lt hC).trans h.cn, h.hi⟩
theorem Pl.below (h : Pl w C f nx) (hb : Below w.heap.size w w') : Pl w' C f nx := h.kept (T := fun _ => False) (Kept.of_below hb (fun k hk h' => by omega)) (fun x => x)
theorem Pl.set (h : Pl w C f nx) (p : Nat) (hp : p < 63) (b : Bool) : Pl (w.setCell ⟨C, p, none⟩ (.bool b)) C (Pm.upd f p b) nx := by
  have h1 := h.bs.set p hp b
  rw [Nat.zero_add] at h1
  exact ⟨h1, (World.cell?_setCell_other w _ _ _ (fun h => by injection h with _ h2; omega)).trans h.cn, h.hi⟩
theorem Pl.setN (h : Pl w C f nx) (y : Nat) (hy : y < 63) : Pl (w.setCell ⟨C, 63, none⟩ (.int .i64 y)) C f y :=
  ⟨h.bs.setOther 63 (by omega) _, World.cell?_setCell_same' w ⟨C, 63, none⟩ _ (by rw [h.cn]; rfl), hy⟩

/-- what was told last, for the place to go on from -/
def Told (t nx : Nat) : Prop := (t = 0 ∧ nx = 0) ∨ (64 ≤ t ∧ t ≤ 126 ∧ nx = (t - 63) % 63)
/-- the document's pool -/
structure Rp (w : World) (R : Nat) (f : Nat → Bool) (nx : Nat) : Prop where
  bs : Bools w R 64 f
  told : ∃ t : Nat, w.cell? ⟨R, 128, none⟩ = some (.int .i64 t) ∧ Told t nx
theorem Rp.lt (h : Rp w C f nx) : C < w.heap.size := h.bs.lt
theorem Rp.kept {T : Nat → Prop} (h : Rp w C f nx) (hk : Kept w w' T) (hC : ¬ T C) : Rp w' C f nx := by
  obtain ⟨t, h1, h2⟩ := h.told
  exact ⟨h.bs.kept hk hC, t, (hk.cell (p := ⟨C, 128, none⟩) h.lt hC).trans h1, h2⟩
theorem Rp.below (h : Rp w C f nx) (hb : Below w.heap.size w w') : Rp w' C f nx := h.kept (T := fun _ => False) (Kept.of_below hb (fun k hk h' => by omega)) (fun x => x)
theorem Rp.set (h : Rp w C f nx) (p : Nat) (hp : p < 63) (b : Bool) : Rp (w.setCell ⟨C, 64 + p, none⟩ (.bool b)) C (Pm.upd f p b) nx := by
  obtain ⟨t, h1, h2⟩ := h.told
  exact ⟨h.bs.set p hp b, t, (World.cell?_setCell_other w _ _ _ (fun h => by injection h with _ h2; omega)).trans h1, h2⟩
theorem Rp.setT (h : Rp w C f nx) (t y : Nat) (hy : Told t y) : Rp (w.setCell ⟨C, 128, none⟩ (.int .i64 t)) C f y := by
  obtain ⟨t', h1, h2⟩ := h.told
  exact ⟨h.bs.setOther 128 (by omega) _, t, World.cell?_setCell_same' w ⟨C, 128, none⟩ _ (by rw [h1]; rfl), hy⟩
end
end Go.Proofs.Ytdnhcpkpajbhoab
