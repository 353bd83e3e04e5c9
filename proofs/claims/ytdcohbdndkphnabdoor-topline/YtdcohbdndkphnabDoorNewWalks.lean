/-
  The walks of hdlc.New and of Idle; a nil decoder meets nothing, and isn't idle.
-/
import Derived.Test.YtdcohbdndkphnabDoorFeedWalks
namespace Go.Proofs.YtdcohbdndkphnabDoor
open Go.RowKit
set_option linter.unusedVariables false
set_option linter.unusedSimpArgs false

theorem dec_new (w : World) (base : Nat) (hb : base ≤ w.heap.size) : Dec (w.alloc (.cells #[.int .i64 0, .bool false, .slice none 0 0] 74)) base w.heap.size (.slice none 0 0) Hm.init := by
  refine ⟨hb, by simp, by simp [Hm.init], by simp [Hm.init], by simp, fun j hj => by simp, World.ownsRow_nil _ _ _ _, by simp [Value.ownBlock], Hm.Ok.init⟩

set_option maxHeartbeats 400000 in
set_option maxRecDepth 100000 in
theorem new_any (w : World) :
    Calls Tryd.prog 15 #[] w fun e w' => e = .returned (.pointer (some ⟨w.heap.size, 0, none⟩)) ∧ (∀ base, base ≤ w.heap.size → Dec w' base w.heap.size (.slice none 0 0) Hm.init) ∧ Below w.heap.size w w' := by
  go_enter Tryd.func15, Tryd.ntmps15
  go_wp2
  go_ret
  exact ⟨rfl, fun base hb => dec_new w base hb, (Below.refl _ _).alloc (Nat.le_refl _) _⟩

set_option maxHeartbeats 400000 in
set_option maxRecDepth 100000 in
theorem feed_nil (s : ByteArray) (w : World) :
    Calls Tryd.prog 16 #[.pointer none, .string s] w fun e w' => e = .returned (.slice none 0 0) ∧ w = w' := by
  go_enter Tryd.func16, Tryd.ntmps16
  go_wp2
  go_ret
  exact ⟨rfl, rfl⟩
end Go.Proofs.YtdcohbdndkphnabDoor
