/-
  The walk of frame.Get: it answers 'getRes'. Nothing that was there is turned.
-/
import Derived.Test.YtdcohbdndkphnabDoorFramePutWalks
import Derived.Test.YtdcohbdndkphnabDoorGetWalks
import Derived.Test.YtdcohbdndkphnabDoorCtrlGetTwo
namespace Go.Proofs.YtdcohbdndkphnabDoor
open Go.RowKit
set_option linter.unusedVariables false
set_option linter.unusedSimpArgs false

/-- what Get hands back -/
def frV (f : Xm.Fr) : Value := .agg #[.int .i64 f.sapi, .int .i64 f.tei, .bool f.c, .int .i64 f.k, .bool f.pf, .int .i64 f.ns, .int .i64 f.nr, .string f.info]
def fgetV (r : Xm.Fr × Int) : Value := .tuple #[frV r.1, .int .i64 r.2]

/-- a struct of eight cells that may be written -/
structure Eight (w : World) (B : Nat) : Prop where
  lt : B < w.heap.size
  c : ∀ j, j < 8 → ∃ v, w.cell? ⟨B, j, none⟩ = some v
  f : ∀ j, j < 8 → w.frozen? ⟨B, j, none⟩ = false
theorem Eight.later {w w' : World} {B : Nat} (h : Eight w B) (hb : Below w.heap.size w w') : Eight w' B :=
  ⟨Nat.lt_of_lt_of_le h.lt hb.size, fun j hj => by obtain ⟨v, hv⟩ := h.c j hj; exact ⟨v, (hb.cell (p := ⟨B, j, none⟩) h.lt).trans hv⟩, fun j hj => (hb.frozen (p := ⟨B, j, none⟩) h.lt).trans (h.f j hj)⟩
theorem eight_cases (j : Nat) (h : j < 8) : j = 0 ∨ j = 1 ∨ j = 2 ∨ j = 3 ∨ j = 4 ∨ j = 5 ∨ j = 6 ∨ j = 7 := by omega
theorem eight_new (w : World) (a b c d e f g h : Value) (t : TypeId) : Eight (w.alloc (.cells #[a, b, c, d, e, f, g, h] t)) w.heap.size := by
  refine ⟨by simp, fun j hj => ?_, fun j hj => ?_⟩
  · rcases eight_cases j hj with rfl | rfl | rfl | rfl | rfl | rfl | rfl | rfl
    · exact ⟨a, by simp⟩
    · exact ⟨b, by simp⟩
    · exact ⟨c, by simp⟩
    · exact ⟨d, by simp⟩
    · exact ⟨e, by simp⟩
    · exact ⟨f, by simp⟩
    · exact ⟨g, by simp⟩
    · exact ⟨h, by simp⟩
  · rcases eight_cases j hj with rfl | rfl | rfl | rfl | rfl | rfl | rfl | rfl <;> simp

/-- eight cells written -/
def set8 (w : World) (B : Nat) (a b c d e f g h : Value) : World :=
  (((((((w.setCell ⟨B, 0, none⟩ a).setCell ⟨B, 1, none⟩ b).setCell ⟨B, 2, none⟩ c).setCell ⟨B, 3, none⟩ d).setCell ⟨B, 4, none⟩ e).setCell ⟨B, 5, none⟩ f).setCell ⟨B, 6, none⟩ g).setCell ⟨B, 7, none⟩ h
theorem set8_size (w : World) (B : Nat) (a b c d e f g h : Value) : (set8 w B a b c d e f g h).heap.size = w.heap.size := by simp [set8]
theorem some_other {w : World} {B i j : Nat} {v : Value} (h : i ≠ j) (hj : ∃ u, w.cell? ⟨B, j, none⟩ = some u) : ∃ u, (w.setCell ⟨B, i, none⟩ v).cell? ⟨B, j, none⟩ = some u := by
  rw [set_other h]; exact hj
/-- which cells a struct of eight is written with -/
structure Is8 (w : World) (B : Nat) (a b c d e f g h : Value) : Prop where
  c0 : w.cell? ⟨B, 0, none⟩ = some a
  c1 : w.cell? ⟨B, 1, none⟩ = some b
  c2 : w.cell? ⟨B, 2, none⟩ = some c
  c3 : w.cell? ⟨B, 3, none⟩ = some d
  c4 : w.cell? ⟨B, 4, none⟩ = some e
  c5 : w.cell? ⟨B, 5, none⟩ = some f
  c6 : w.cell? ⟨B, 6, none⟩ = some g
  c7 : w.cell? ⟨B, 7, none⟩ = some h
theorem set8_is {w : World} {B : Nat} (h : Eight w B) (a b c d e f g h' : Value) : Is8 (set8 w B a b c d e f g h') B a b c d e f g h' := by
  unfold set8
  refine ⟨?_, ?_, ?_, ?_, ?_, ?_, ?_, ?_⟩
  · rw [set_other (by decide), set_other (by decide), set_other (by decide), set_other (by decide), set_other (by decide), set_other (by decide), set_other (by decide)]
    exact set_same (h.c 0 (by decide))
  · rw [set_other (by decide), set_other (by decide), set_other (by decide), set_other (by decide), set_other (by decide), set_other (by decide)]
    exact set_same (some_other (by decide) (h.c 1 (by decide)))
  · rw [set_other (by decide), set_other (by decide), set_other (by decide), set_other (by decide), set_other (by decide)]
    exact set_same (some_other (by decide) (some_other (by decide) (h.c 2 (by decide))))
  · rw [set_other (by decide), set_other (by decide), set_other (by decide), set_other (by decide)]
    exact set_same (some_other (by decide) (some_other (by decide) (some_other (by decide) (h.c 3 (by decide)))))
  · rw [set_other (by decide), set_other (by decide), set_other (by decide)]
    exact set_same (some_other (by decide) (some_other (by decide) (some_other (by decide) (some_other (by decide) (h.c 4 (by decide))))))
  · rw [set_other (by decide), set_other (by decide)]
    exact set_same (some_other (by decide) (some_other (by decide) (some_other (by decide) (some_other (by decide) (some_other (by decide) (h.c 5 (by decide)))))))
  · rw [set_other (by decide)]
    exact set_same (some_other (by decide) (some_other (by decide) (some_other (by decide) (some_other (by decide) (some_other (by decide) (some_other (by decide) (h.c 6 (by decide))))))))
  · exact set_same (some_other (by decide) (some_other (by decide) (some_other (by decide) (some_other (by decide) (some_other (by decide) (some_other (by decide) (some_other (by decide) (h.c 7 (by decide)))))))))
theorem set8_below {w w1 : World} (hq : Below w.heap.size w w1) (a b c d e f g h : Value) : Below w.heap.size w (set8 w1 w.heap.size a b c d e f g h) := by
  unfold set8
  exact (((((((hq.setCell (p := ⟨w.heap.size, 0, none⟩) (Nat.le_refl _) _).setCell (p := ⟨w.heap.size, 1, none⟩) (Nat.le_refl _) _).setCell (p := ⟨w.heap.size, 2, none⟩) (Nat.le_refl _) _).setCell (p := ⟨w.heap.size, 3, none⟩) (Nat.le_refl _) _).setCell (p := ⟨w.heap.size, 4, none⟩) (Nat.le_refl _) _).setCell (p := ⟨w.heap.size, 5, none⟩) (Nat.le_refl _) _).setCell (p := ⟨w.heap.size, 6, none⟩) (Nat.le_refl _) _).setCell (p := ⟨w.heap.size, 7, none⟩) (Nat.le_refl _) _

set_option maxHeartbeats 1000000 in
theorem fget_sum (s : ByteArray) (net : Bool) (w : World) (hs : s.size ≤ 140737488351232) (hk : (checkRes s).2 ≠ 0) :
    Calls Tryd.prog 9 #[.string s, .bool net] w fun e w' => e = .returned (fgetV (Xm.zero, 6)) ∧ Below w.heap.size w w' := by
  have hC := check_any s (w.alloc (.cells #[.int .i64 0, .int .i64 0, .bool false, .int .i64 0, .bool false, .int .i64 0, .int .i64 0, .string ByteArray.empty] 28)) hs
  have hq0 : Below w.heap.size w (w.alloc (.cells #[.int .i64 0, .int .i64 0, .bool false, .int .i64 0, .bool false, .int .i64 0, .int .i64 0, .string ByteArray.empty] 28)) := (Below.refl _ _).alloc (Nat.le_refl _) _
  have hE0 := eight_new w (.int .i64 0) (.int .i64 0) (.bool false) (.int .i64 0) (.bool false) (.int .i64 0) (.int .i64 0) (.string ByteArray.empty) 28
  have tk : ((checkRes s).2 != 0) = true := by simpa using hk
  clear hk
  go_enter Tryd.func9, Tryd.ntmps9
  go_wp2_with fail
  refine hC.mono ?_
  rintro e w1 ⟨rfl, hb1⟩
  clear hC
  have hq1 := hq0.trans (hb1.mono hq0.size)
  have hE := hE0.later hb1
  have HE : Hid (Eight w1 w.heap.size) := hE
  clear hb1 hq0 hE0
  have hlt := hE.lt
  obtain ⟨v0, c0⟩ := hE.c 0 (by decide)
  obtain ⟨v1, c1⟩ := hE.c 1 (by decide)
  obtain ⟨v2, c2⟩ := hE.c 2 (by decide)
  obtain ⟨v3, c3⟩ := hE.c 3 (by decide)
  obtain ⟨v4, c4⟩ := hE.c 4 (by decide)
  obtain ⟨v5, c5⟩ := hE.c 5 (by decide)
  obtain ⟨v6, c6⟩ := hE.c 6 (by decide)
  obtain ⟨v7, c7⟩ := hE.c 7 (by decide)
  have f0 := hE.f 0 (by decide)
  have f1 := hE.f 1 (by decide)
  have f2 := hE.f 2 (by decide)
  have f3 := hE.f 3 (by decide)
  have f4 := hE.f 4 (by decide)
  have f5 := hE.f 5 (by decide)
  have f6 := hE.f 6 (by decide)
  have f7 := hE.f 7 (by decide)
  clear hE
  go_wp2
  obtain ⟨z0, z1, z2, z3, z4, z5, z6, z7⟩ := set8_is HE.out (.int .i64 0) (.int .i64 0) (.bool false) (.int .i64 0) (.bool false) (.int .i64 0) (.int .i64 0) (.string ⟨#[]⟩)
  unfold set8 at z0 z1 z2 z3 z4 z5 z6 z7
  have he : ByteArray.empty = ⟨#[]⟩ := rfl
  exact bodyPost_ret (v := fgetV (Xm.zero, 6)) (by simp [results, Tryd.results9, go_sem, fgetV, frV, Xm.zero, he, z0, z1, z2, z3, z4, z5, z6, z7]) rfl ⟨rfl, set8_below hq1 _ _ _ _ _ _ _ _⟩
end Go.Proofs.YtdcohbdndkphnabDoor
