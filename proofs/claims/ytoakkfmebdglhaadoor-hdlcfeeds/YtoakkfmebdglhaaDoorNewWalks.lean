/-
  The walks of hdlc.New and of Idle; a nil decoder meets nothing, and isn't idle.
-/
import Derived.Test.YtoakkfmebdglhaaDoorFeedWalks
namespace Go.Proofs.YtoakkfmebdglhaaDoor
open Go.RowKit
set_option linter.unusedVariables false
set_option linter.unusedSimpArgs false

theorem dec_new (w : World) (base : Nat) (hb : base ≤ w.heap.size) : Dec (w.alloc (.cells #[.int .i64 0, .bool false, .slice none 0 0] 53)) base w.heap.size (.slice none 0 0) Hm.init := by
  refine ⟨hb, by simp, by simp [Hm.init], by simp [Hm.init], by simp, fun j hj => by simp, World.ownsRow_nil _ _ _ _, by simp [Value.ownBlock], Hm.Ok.init⟩

set_option maxHeartbeats 400000 in
theorem new_any (w : World) :
    Calls Tryd.prog 16 #[] w fun e w' => e = .returned (.pointer (some ⟨w.heap.size, 0, none⟩)) ∧ (∀ base, base ≤ w.heap.size → Dec w' base w.heap.size (.slice none 0 0) Hm.init) ∧ Below w.heap.size w w' := by
  go_enter Tryd.func16, Tryd.ntmps16
  go_wp2
  go_ret
  exact ⟨rfl, fun base hb => dec_new w base hb, (Below.refl _ _).alloc (Nat.le_refl _) _⟩

set_option maxHeartbeats 400000 in
theorem idle_any (st : Hm.St) (base D : Nat) (v : Value) (w : World) (h : Dec w base D v st) :
    Calls Tryd.prog 20 #[.pointer (some ⟨D, 0, none⟩)] w fun e w' => e = .returned (.bool (decide (15 ≤ st.ones))) ∧ w = w' := by
  have hc0 := h.c0
  have hlt := h.lt
  by_cases h15 : 15 ≤ st.ones
  · have t : (15 : Int) ≤ (st.ones : Int) := by omega
    have HD : Hid (decide (15 ≤ st.ones) = true) := decide_eq_true h15
    clear h15
    go_enter Tryd.func20, Tryd.ntmps20
    go_wp2
    go_ret
    exact ⟨ret_bool (by rw [HD.out]), rfl⟩
  · have t : ¬ (15 : Int) ≤ (st.ones : Int) := by omega
    have HD : Hid (decide (15 ≤ st.ones) = false) := decide_eq_false h15
    clear h15
    go_enter Tryd.func20, Tryd.ntmps20
    go_wp2
    go_ret
    exact ⟨ret_bool (by rw [HD.out]), rfl⟩

set_option maxHeartbeats 400000 in
theorem idle_nil (w : World) :
    Calls Tryd.prog 20 #[.pointer none] w fun e w' => e = .returned (.bool false) ∧ w = w' := by
  go_enter Tryd.func20, Tryd.ntmps20
  go_wp2
  go_ret
  exact ⟨rfl, rfl⟩
set_option maxHeartbeats 400000 in
theorem feed_nil (s : ByteArray) (w : World) :
    Calls Tryd.prog 18 #[.pointer none, .string s] w fun e w' => e = .returned (.slice none 0 0) ∧ w = w' := by
  go_enter Tryd.func18, Tryd.ntmps18
  go_wp2
  go_ret
  exact ⟨rfl, rfl⟩
end Go.Proofs.YtoakkfmebdglhaaDoor
