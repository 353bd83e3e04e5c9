/-
  The walks of an entity's New, and of the methods of a nil entity.
-/
import Derived.Test.YtidemohpngkedabGreatDoorEntFrame
namespace Go.Proofs.YtidemohpngkedabGreatDoor
open Go.RowKit
set_option linter.unusedVariables false
set_option maxRecDepth 100000
set_option linter.unusedSimpArgs false

theorem emk (W : World) : (Instr.makeMap 75 none).run Tryz.prog W = .ok (.map (some W.heap.size)) (W.alloc (.map #[] 0)) := by
  first | kernel_rfl | rfl | simp [Instr.makeMap]

/-- an entity as it is laid -/
def entO (D : Nat) (n : Int) (M : Nat) : Obj := .cells #[.int .i64 1, .int .i64 (-1), .pointer (some ⟨D, 0, none⟩), .int .i64 n, .int .i64 0, .bool false, .slice none 0 0, .map (some M), .slice none 0 0] 78
theorem ent_made {w wM : World} {D M : Nat} {k n : Int} (k0 : -9223372036854775808 ≤ k) (k1 : k ≤ 9223372036854775807) (hD : w.heap.size ≤ D) (hF : Fl wM D none (Wm.new k 256)) (hT : TmIs wM M false false) (hM : w.heap.size ≤ M) (hne : M ≠ D) (hb : Below w.heap.size w wM) :
    ∃ lab, Ent wM.heap.size (wM.alloc (entO D n M)) lab (Em.new k n) ∧ Below w.heap.size w (wM.alloc (entO D n M)) ∧ ∀ k, k < w.heap.size → lab k = 0 := by
  have hDl := hF.lt
  have hMl := hT.lt
  have hs := hb.size
  have hba : Below wM.heap.size wM (wM.alloc (entO D n M)) := (Below.refl _ _).alloc (Nat.le_refl _) _
  refine ⟨fun j => if j = wM.heap.size then 1 else if j = D then 2 else if j = M then 3 else 0, ⟨⟨⟨?_, ?_, ?_, ⟨n, ?_, rfl⟩, ?_, ?_, ?_⟩, ?_, ⟨D, none, ?_, hF.below hba, ?_, fun B hB => by cases hB⟩, ⟨M, ?_, hT.of_block (hba.block M hMl), ?_⟩, ⟨none, 0, none, ?_, ⟨Nat.le_refl _, Nat.zero_le _, Or.inl ⟨rfl, rfl, rfl⟩⟩, fun B hB => by cases hB⟩, ⟨none, 0, ?_, World.ownsRow_nil _ _ _ _, fun B hB => by cases hB⟩⟩, rfl, ?_, Em.new_ok k n k0 k1, Em.new_tm k n⟩, hba.mono (by omega) |> fun h => hb.trans h, ?_⟩
  · simp [entO]
  · simp [entO, Em.new]
  · simp [entO, Em.new]
  · simp [entO]
  · simp [entO, Em.new]
  · simp [entO, Em.new]
  · intro j hj
    rcases (show j = 0 ∨ j = 1 ∨ j = 2 ∨ j = 3 ∨ j = 4 ∨ j = 5 ∨ j = 6 ∨ j = 7 ∨ j = 8 by omega) with rfl | rfl | rfl | rfl | rfl | rfl | rfl | rfl | rfl <;> simp [entO]
  · show (if wM.heap.size = wM.heap.size then 1 else _) = 1
    rw [if_pos rfl]
  · simp [entO]
  · show (if D = wM.heap.size then 1 else if D = D then 2 else _) = 2
    rw [if_neg (by omega), if_pos rfl]
  · simp [entO]
  · show (if M = wM.heap.size then 1 else if M = D then 2 else if M = M then 3 else 0) = 3
    rw [if_neg (by omega), if_neg hne, if_pos rfl]
  · simp [entO, Em.new]
  · simp [entO, Em.new]
  · intro j hj
    show (if j = wM.heap.size then 1 else if j = D then 2 else if j = M then 3 else 0) ≠ 5
    split
    · decide
    · split
      · decide
      · split <;> decide
  · intro j hj
    show (if j = wM.heap.size then 1 else if j = D then 2 else if j = M then 3 else 0) = 0
    rw [if_neg (by omega), if_neg (by omega), if_neg (by omega)]

set_option maxHeartbeats 2000000 in
theorem enew_any (k n : Int) (w : World) (k0 : -9223372036854775808 ≤ k) (k1 : k ≤ 9223372036854775807) :
    Calls Tryz.prog 9 #[.agg #[.int .i64 k, .int .i64 n]] w fun r w' => ∃ C lab, r = .returned (.pointer (some ⟨C, 0, none⟩)) ∧ w.heap.size ≤ C ∧ Ent C w' lab (Em.new k n) ∧ Below w.heap.size w w' ∧ ∀ k, k < w.heap.size → lab k = 0 := by
  have hmk := emk
  have HN : Hid (∀ W : World, W.cell? ⟨w.heap.size, 1, none⟩ = some (.int .i64 n) → w.heap.size < W.heap.size → Calls Tryz.prog 25 #[.int .i64 k, .int .i64 256] W fun r w' => ∃ D, r = .returned (.pointer (some ⟨D, 0, none⟩)) ∧ W.heap.size ≤ D ∧ Fl w' D none (Wm.new k 256) ∧ Below W.heap.size W w' ∧ w'.cell? ⟨w.heap.size, 1, none⟩ = some (.int .i64 n) ∧ w.heap.size < w'.heap.size) := by
    intro W hc hlt
    refine (fnew_any k 256 W).mono ?_
    rintro r w' ⟨D, rfl, hD, hF, hb⟩
    exact ⟨D, rfl, hD, hF, hb, (hb.cell (p := ⟨w.heap.size, 1, none⟩) hlt).trans hc, Nat.lt_of_lt_of_le hlt hb.size⟩
  go_enter Tryz.func9, Tryz.ntmps9
  go_wp2_with fail
  go_region_with (go_at_call 25; refine (HN.out _ (by simp) (by first | (simp; done) | (simp; omega))).mono ?_; rintro r w1 ⟨D, rfl, hD, hF, hb, q1, q2⟩)
  all_goals
    first
      | (have hb' : Below w.heap.size w w1 := (((Below.refl w.heap.size w).alloc (Nat.le_refl _) _).drew).trans (hb.mono (by simp))
         have hz : (w1.alloc (.map #[] 0)).heap.size = w1.heap.size + 1 := by simp
         obtain ⟨lab, h1, h2, h3⟩ := ent_made (n := n) k0 k1 (by simp at hD; omega) (hF.below ((Below.refl _ _).alloc (Nat.le_refl _) _)) (tmIs_made w1) (by omega) (by have := hF.lt; omega) (hb'.alloc (by omega) (.map #[] 0))
         rw [hz] at h1
         have HH : Hid (Ent (w1.heap.size + 1) ((w1.alloc (.map #[] 0)).alloc (entO D n w1.heap.size)) lab (Em.new k n) ∧ Below w.heap.size w ((w1.alloc (.map #[] 0)).alloc (entO D n w1.heap.size)) ∧ ∀ k, k < w.heap.size → lab k = 0) := ⟨h1, h2, h3⟩
         have hw : w.heap.size ≤ w1.heap.size + 1 := by omega
         clear h1 h2 h3 hb hb' hF hD q1 q2 HN hmk
         go_wp2
         go_ret
         exact ⟨_, lab, rfl, hw, HH.out⟩)
      | (have hb' : Below w.heap.size w w1 := ((((Below.refl w.heap.size w).alloc (Nat.le_refl _) _).alloc (by simp) _).drew).trans (hb.mono (by first | (simp; done) | (simp; omega)))
         have hz : (w.alloc (.cells #[.int .i64 k, .int .i64 n] 26)).heap.size = w.heap.size + 1 := by simp
         have hT := tmIs_made (w.alloc (.cells #[.int .i64 k, .int .i64 n] 26))
         have hT2 := hT.of_block (w' := w1) (hb.block _ (by simp))
         rw [hz] at hT2
         obtain ⟨lab, h1, h2, h3⟩ := ent_made (n := n) k0 k1 (by simp at hD; omega) hF hT2 (by omega) (by simp at hD; omega) hb'
         have HH : Hid (Ent w1.heap.size (w1.alloc (entO D n (w.heap.size + 1))) lab (Em.new k n) ∧ Below w.heap.size w (w1.alloc (entO D n (w.heap.size + 1))) ∧ ∀ k, k < w.heap.size → lab k = 0) := ⟨h1, h2, h3⟩
         have hw : w.heap.size ≤ w1.heap.size := by omega
         clear h1 h2 h3 hb hb' hF hD q1 q2 HN hmk hT hT2
         go_wp2
         go_ret
         exact ⟨_, lab, rfl, hw, HH.out⟩)
end Go.Proofs.YtidemohpngkedabGreatDoor
