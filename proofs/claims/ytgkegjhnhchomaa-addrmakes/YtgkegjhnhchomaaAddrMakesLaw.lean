/-
  The walk of the law AddrMakes: it returns true.
-/
import Derived.Test.YtgkegjhnhchomaaAddrWakes
import Derived.Test.YtgkegjhnhchomaaRefMakeWalks
import Derived.Deep.RegionWith
import Derived.Deep.RegionHeld3
namespace Go.Proofs.Ytgkegjhnhchomaa
open Go.RowKit
set_option linter.unusedVariables false
set_option linter.unusedSimpArgs false

/-- three addresses lie where they were put -/
def MkS (B0 B1 B2 : Nat) (a b : Int) (c m : Bool) (wz : World) : Prop := wz.cell? ⟨B0, 0, none⟩ = some (.int .i64 a) ∧ wz.cell? ⟨B0, 1, none⟩ = some (.int .i64 b) ∧ wz.cell? ⟨B0, 2, none⟩ = some (.bool c) ∧ wz.cell? ⟨B1, 0, none⟩ = some (.int .i64 a) ∧ wz.cell? ⟨B1, 1, none⟩ = some (.int .i64 b) ∧ wz.cell? ⟨B1, 2, none⟩ = some (.bool m) ∧ wz.cell? ⟨B2, 0, none⟩ = some (.int .i64 a) ∧ wz.cell? ⟨B2, 1, none⟩ = some (.int .i64 b) ∧ wz.cell? ⟨B2, 2, none⟩ = some (.bool c)
structure Mk (w0 : World) (B0 B1 B2 : Nat) (a b : Int) (c m : Bool) (w : World) : Prop where
  lt0 : B0 < w.heap.size
  lt1 : B1 < w.heap.size
  lt2 : B2 < w.heap.size
  cells : MkS B0 B1 B2 a b c m w
  bel : Below w0.heap.size w0 w
theorem Mk.later {w0 w w' : World} {B0 B1 B2 : Nat} {a b : Int} {c m : Bool} (h : Mk w0 B0 B1 B2 a b c m w) (hb : Below w.heap.size w w') : Mk w0 B0 B1 B2 a b c m w' := by
  obtain ⟨l0, l1, l2, ⟨p0, p1, p2, q0, q1, q2, r0, r1, r2⟩, hw⟩ := h
  exact ⟨Nat.lt_of_lt_of_le l0 hb.size, Nat.lt_of_lt_of_le l1 hb.size, Nat.lt_of_lt_of_le l2 hb.size,
    ⟨(hb.cell (p := ⟨B0, 0, none⟩) l0).trans p0, (hb.cell (p := ⟨B0, 1, none⟩) l0).trans p1, (hb.cell (p := ⟨B0, 2, none⟩) l0).trans p2,
     (hb.cell (p := ⟨B1, 0, none⟩) l1).trans q0, (hb.cell (p := ⟨B1, 1, none⟩) l1).trans q1, (hb.cell (p := ⟨B1, 2, none⟩) l1).trans q2,
     (hb.cell (p := ⟨B2, 0, none⟩) l2).trans r0, (hb.cell (p := ⟨B2, 1, none⟩) l2).trans r1, (hb.cell (p := ⟨B2, 2, none⟩) l2).trans r2⟩, hw.trans (hb.mono hw.size)⟩
theorem wakes_mk {w0 : World} {B0 B1 B2 : Nat} {a b : Int} {c m : Bool} {w : World} (h : Mk w0 B0 B1 B2 a b c m w) :
    Calls Try.prog 9 #[] w fun e w' => e = .returned (.bool true) ∧ Mk w0 B0 B1 B2 a b c m w' := by
  refine (wakes_any w).mono ?_
  rintro e w' ⟨rfl, hb⟩
  exact ⟨rfl, h.later hb⟩
theorem make_mk {w0 : World} {B0 B1 B2 : Nat} {a b : Int} {c m : Bool} (x y : Int) (u v : Bool) {mm : Bool} (hmm : mm = (u == v)) {w : World} (h : Mk w0 B0 B1 B2 a b c m w) :
    Calls Try.prog 18 #[.int .i64 x, .int .i64 y, .bool u, .bool v] w fun e w' => e = .returned (.agg #[.int .i64 x, .int .i64 y, .bool mm]) ∧ Mk w0 B0 B1 B2 a b c m w' := by
  subst hmm
  refine (ref_make_any x y u v w).mono ?_
  rintro e w' ⟨rfl, hb⟩
  exact ⟨rfl, h.later hb⟩
theorem same_mk {w0 : World} {B0 B1 B2 : Nat} {a b : Int} {c m : Bool} (x y : Int) (u : Bool) {w : World} (h : Mk w0 B0 B1 B2 a b c m w) :
    Calls Try.prog 16 #[.agg #[.int .i64 x, .int .i64 y, .bool u], .agg #[.int .i64 x, .int .i64 y, .bool u]] w fun e w' => e = .returned (.bool true) ∧ Mk w0 B0 B1 B2 a b c m w' := by
  refine (same_any x y u w).mono ?_
  rintro e w' ⟨rfl, hb⟩
  exact ⟨rfl, h.later hb⟩
theorem command_mk {w0 : World} {B0 B1 B2 : Nat} {a b : Int} {c m : Bool} (x y : Int) (u v : Bool) {w : World} (h : Mk w0 B0 B1 B2 a b c m w) :
    Calls Try.prog 19 #[.agg #[.int .i64 x, .int .i64 y, .bool u], .bool v] w fun e w' => e = .returned (.bool (u == v)) ∧ Mk w0 B0 B1 B2 a b c m w' := by
  refine (command_any x y u v w).mono ?_
  rintro e w' ⟨rfl, hb⟩
  exact ⟨rfl, h.later hb⟩
theorem rcommand_mk {w0 : World} {B0 B1 B2 : Nat} {a b : Int} {c m : Bool} (x y : Int) (u v : Bool) {w : World} (h : Mk w0 B0 B1 B2 a b c m w) :
    Calls Try.prog 20 #[.agg #[.int .i64 x, .int .i64 y, .bool u], .bool v] w fun e w' => e = .returned (.bool (u == v)) ∧ Mk w0 B0 B1 B2 a b c m w' := by
  refine (ref_command_any x y u v w).mono ?_
  rintro e w' ⟨rfl, hb⟩
  exact ⟨rfl, h.later hb⟩
set_option maxHeartbeats 4000000 in
theorem walk_AddrMakes (a b : Int) (c k n : Bool) (w : World) (ha : -9223372036854775808 ≤ a ∧ a ≤ 9223372036854775807) (hb : -9223372036854775808 ≤ b ∧ b ≤ 9223372036854775807) :
    Calls Try.prog 6 #[.agg #[.int .i64 a, .int .i64 b, .bool c], .bool k, .bool n] w fun e w' => e = .returned (.bool true) ∧ Below w.heap.size w w' := by
  go_enter Try.func6, Try.ntmps6
  go_wp2_with fail
  refine (make_any a b k n _).mono ?_
  rintro e w1 ⟨rfl, hb1⟩
  have hs1 := hb1.size
  have hq1 : Below w.heap.size w w1 := ((Below.refl w.heap.size w).alloc (Nat.le_refl _) _).trans (hb1.mono (by simp))
  have k0 : w1.cell? ⟨w.heap.size, 0, none⟩ = some (.int .i64 a) := (hb1.cell (p := ⟨w.heap.size, 0, none⟩) (by simp)).trans (by simp)
  have k1 : w1.cell? ⟨w.heap.size, 1, none⟩ = some (.int .i64 b) := (hb1.cell (p := ⟨w.heap.size, 1, none⟩) (by simp)).trans (by simp)
  have k2 : w1.cell? ⟨w.heap.size, 2, none⟩ = some (.bool c) := (hb1.cell (p := ⟨w.heap.size, 2, none⟩) (by simp)).trans (by simp)
  have hz : w.heap.size < w1.heap.size := by simp at hs1; omega
  clear hb1 hs1
  obtain ⟨m, hm⟩ : ∃ m, m = (k == n) := ⟨_, rfl⟩
  have HM : Hid (m = (k == n)) := hm
  rw [← hm]
  clear hm
  go_wp2
  have e1 : (w1.alloc (.cells #[.int .i64 a, .int .i64 b, .bool m] 35)).heap.size = w1.heap.size + 1 := by simp
  have hM : Mk w w.heap.size w1.heap.size (w1.heap.size + 1) a b c m ((w1.alloc (.cells #[.int .i64 a, .int .i64 b, .bool m] 35)).alloc (.cells #[.int .i64 a, .int .i64 b, .bool c] 35)) := by
    have g0 : Mk w w.heap.size w.heap.size w.heap.size a b c c w1 := ⟨hz, hz, hz, ⟨k0, k1, k2, k0, k1, k2, k0, k1, k2⟩, hq1⟩
    have g1 := g0.later ((Below.refl w1.heap.size w1).alloc (Nat.le_refl _) (.cells #[.int .i64 a, .int .i64 b, .bool m] 35))
    have g2 := g1.later ((Below.refl _ (w1.alloc (.cells #[.int .i64 a, .int .i64 b, .bool m] 35))).alloc (Nat.le_refl _) (.cells #[.int .i64 a, .int .i64 b, .bool c] 35))
    have d1 := ((Below.refl _ (w1.alloc (.cells #[.int .i64 a, .int .i64 b, .bool m] 35))).alloc (Nat.le_refl _) (.cells #[.int .i64 a, .int .i64 b, .bool c] 35))
    obtain ⟨f0, f1, f2, _⟩ := g2.cells
    refine ⟨g2.lt0, by simp; omega, by simp, ⟨f0, f1, f2, ?_, ?_, ?_, by rw [← e1]; simp, by rw [← e1]; simp, by rw [← e1]; simp⟩, g2.bel⟩
    · exact (d1.cell (p := ⟨w1.heap.size, 0, none⟩) (by simp)).trans (by simp)
    · exact (d1.cell (p := ⟨w1.heap.size, 1, none⟩) (by simp)).trans (by simp)
    · exact (d1.cell (p := ⟨w1.heap.size, 2, none⟩) (by simp)).trans (by simp)
  generalize ((w1.alloc (.cells #[.int .i64 a, .int .i64 b, .bool m] 35)).alloc (.cells #[.int .i64 a, .int .i64 b, .bool c] 35)) = W at hM ⊢
  have hMd : Mk w w.heap.size w1.heap.size (w1.heap.size + 1) a b c m W.drew := hM.later (Below.refl _ _).drew
  obtain ⟨p0, p1, p2, q0, q1, q2, r0, r1, r2⟩ := hM.cells
  clear k0 k1 k2 hz e1
  go_region_held3 (fun wz => wz.cell? ⟨w.heap.size, 0, none⟩ = some (.int .i64 a) ∧ wz.cell? ⟨w.heap.size, 1, none⟩ = some (.int .i64 b) ∧ wz.cell? ⟨w.heap.size, 2, none⟩ = some (.bool c) ∧ wz.cell? ⟨w1.heap.size, 0, none⟩ = some (.int .i64 a) ∧ wz.cell? ⟨w1.heap.size, 1, none⟩ = some (.int .i64 b) ∧ wz.cell? ⟨w1.heap.size, 2, none⟩ = some (.bool m) ∧ wz.cell? ⟨w1.heap.size + 1, 0, none⟩ = some (.int .i64 a) ∧ wz.cell? ⟨w1.heap.size + 1, 1, none⟩ = some (.int .i64 b) ∧ wz.cell? ⟨w1.heap.size + 1, 2, none⟩ = some (.bool c)) (go_keep) (first | (go_at_call 9; refine (wakes_mk  ‹_›).mono ?_; rintro e w9 ⟨rfl, hM9⟩; obtain ⟨p0, p1, p2, q0, q1, q2, r0, r1, r2⟩ := hM9.cells) | (go_at_call 18; refine (make_mk _ _ _ _ HM.out ‹_›).mono ?_; rintro e w9 ⟨rfl, hM9⟩; obtain ⟨p0, p1, p2, q0, q1, q2, r0, r1, r2⟩ := hM9.cells) | (go_at_call 16; refine (same_mk _ _ _ ‹_›).mono ?_; rintro e w9 ⟨rfl, hM9⟩; obtain ⟨p0, p1, p2, q0, q1, q2, r0, r1, r2⟩ := hM9.cells) | (go_at_call 19; refine (command_mk _ _ _ _ ‹_›).mono ?_; rintro e w9 ⟨rfl, hM9⟩; obtain ⟨p0, p1, p2, q0, q1, q2, r0, r1, r2⟩ := hM9.cells) | (go_at_call 20; refine (rcommand_mk _ _ _ _ ‹_›).mono ?_; rintro e w9 ⟨rfl, hM9⟩; obtain ⟨p0, p1, p2, q0, q1, q2, r0, r1, r2⟩ := hM9.cells))
  all_goals
    go_wp2
    go_ret
    exact ⟨rfl, hM9.bel⟩
end Go.Proofs.Ytgkegjhnhchomaa
