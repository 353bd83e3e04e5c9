/-
  The walk of the law AddrGets: it returns true.
-/
import Derived.Test.YtgkegjhnhchomaaRefGetWalks
import Derived.Test.YtgkegjhnhchomaaRefMakeWalks
namespace Go.Proofs.Ytgkegjhnhchomaa
open Go.RowKit
set_option linter.unusedVariables false
set_option linter.unusedSimpArgs false

theorem get_one : Am.getRes ⟨#[2, 129]⟩ = ((0, 64, true), 0) := by decide

set_option maxHeartbeats 400000 in
theorem walk_AddrGets (s : ByteArray) (w : World) (hs : s.size ≤ 140737488351232) :
    Calls Try.prog 5 #[.string s] w fun e w' => e = .returned (.bool true) ∧ Below w.heap.size w w' := by
  go_enter Try.func5, Try.ntmps5
  go_wp2_with fail
  refine (get_any s _ (by omega)).mono ?_
  rintro e w1 ⟨rfl, hb1⟩
  generalize hR : Am.getRes s = R
  obtain ⟨⟨a, b, c⟩, f⟩ := R
  have HR : Hid (Am.getRes s = ((a, b, c), f)) := hR
  clear hR
  have hs1 := hb1.size
  go_wp2_with fail
  refine (ref_get_any s _ (by omega)).mono ?_
  rintro e w2 ⟨rfl, hb2⟩
  rw [HR.out]
  have hs2 := hb2.size
  have q2 : Below w.heap.size w w2 := (hb1.alloc hb1.size _).trans (hb2.mono (by simp; omega))
  have k0 : w2.cell? ⟨w1.heap.size, 0, none⟩ = some (.int .i64 a) := (hb2.cell (p := ⟨w1.heap.size, 0, none⟩) (by simp)).trans (by simp)
  have k1 : w2.cell? ⟨w1.heap.size, 1, none⟩ = some (.int .i64 b) := (hb2.cell (p := ⟨w1.heap.size, 1, none⟩) (by simp)).trans (by simp)
  have k2 : w2.cell? ⟨w1.heap.size, 2, none⟩ = some (.bool c) := (hb2.cell (p := ⟨w1.heap.size, 2, none⟩) (by simp)).trans (by simp)
  have hz : w1.heap.size < w2.heap.size := by simp at hs2; omega
  clear HR
  go_wp2_with fail
  refine (get_any ⟨#[2, 129]⟩ _ (by decide)).mono ?_
  rintro e w3 ⟨rfl, hb3⟩
  rw [get_one]
  have hs3 := hb3.size
  have q3 : Below w.heap.size w w3 := (q2.alloc q2.size _).trans (hb3.mono (by have := q2.size; simp; omega))
  have h23 : Below w2.heap.size w2 w3 := ((Below.refl w2.heap.size w2).alloc (Nat.le_refl _) _).trans (hb3.mono (by simp))
  have j0 : w3.cell? ⟨w1.heap.size, 0, none⟩ = some (.int .i64 a) := (h23.cell (p := ⟨w1.heap.size, 0, none⟩) hz).trans k0
  have j1 : w3.cell? ⟨w1.heap.size, 1, none⟩ = some (.int .i64 b) := (h23.cell (p := ⟨w1.heap.size, 1, none⟩) hz).trans k1
  have j2 : w3.cell? ⟨w1.heap.size, 2, none⟩ = some (.bool c) := (h23.cell (p := ⟨w1.heap.size, 2, none⟩) hz).trans k2
  have i0 : w3.cell? ⟨w2.heap.size, 0, none⟩ = some (.int .i64 a) := (hb3.cell (p := ⟨w2.heap.size, 0, none⟩) (by simp)).trans (by simp)
  have i1 : w3.cell? ⟨w2.heap.size, 1, none⟩ = some (.int .i64 b) := (hb3.cell (p := ⟨w2.heap.size, 1, none⟩) (by simp)).trans (by simp)
  have i2 : w3.cell? ⟨w2.heap.size, 2, none⟩ = some (.bool c) := (hb3.cell (p := ⟨w2.heap.size, 2, none⟩) (by simp)).trans (by simp)
  have ef : (f == f) = true := by simp
  clear k0 k1 k2 hb2 hb3 h23
  have z1 : w1.heap.size < w3.heap.size := by simp at hs3; omega
  have z2 : w2.heap.size < w3.heap.size := by simp at hs3; omega
  clear hs1 hs2 hs3
  go_wp2_with fail
  refine (same_any a b c _).mono ?_
  rintro e w4 ⟨rfl, hb4⟩
  go_wp2
  go_ret
  exact ⟨by simp, (q3.alloc q3.size _).trans (hb4.mono (by have := q3.size; simp; omega))⟩
end Go.Proofs.Ytgkegjhnhchomaa
