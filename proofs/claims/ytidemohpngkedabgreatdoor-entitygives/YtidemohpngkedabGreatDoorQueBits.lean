/-
  Small laws of a queue: the one that New makes, what a drawn order leaves of it.
-/
import Derived.Test.YtidemohpngkedabGreatDoorQueRow
namespace Go.Proofs.YtidemohpngkedabGreatDoor
open Go.RowKit
set_option linter.unusedVariables false
set_option linter.unusedSimpArgs false

theorem new_qu (w : World) (T : TypeId) (mo : Int) : Qu (w.alloc (.cells #[.int .i64 mo, .slice none 0 0, .int .i64 0] T)) w.heap.size none mo [] 0 :=
  ⟨by simp, by simp, ⟨none, 0, by simp, ⟨Nat.le_refl _, Nat.zero_le _, Or.inl ⟨rfl, rfl, rfl⟩⟩⟩, by simp, by simp, by simp, by simp, (fun e => by cases e), Nat.le_refl _, Nat.zero_le _, fun x h => by simp at h⟩

theorem Mvq.drew {w : World} {C sn : Nat} {G : Option Nat} {mo : Int} {L : List ByteArray} {w1 : World} (h : Mvq w w1 C G mo L sn) : Mvq w w1.drew C G mo L sn := h.then (Below.refl _ _).drew
theorem qdrewN_blw {B : Nat} {a b : World} (h : Below B a b) : ∀ n, Below B a (b.drewN n)
  | 0 => h
  | n + 1 => (qdrewN_blw h n).drew
end Go.Proofs.YtidemohpngkedabGreatDoor
