/-
  The walks of a decoder's methods zero and one: what is met by a bit, in a row of its own; nothing but the decoder is turned.
-/
import Derived.Test.YtdcohbdndkphnabDoorEndedWalks
namespace Go.Proofs.YtdcohbdndkphnabDoor
open Go.RowKit
set_option linter.unusedVariables false
set_option linter.unusedSimpArgs false

theorem Kept.behind {w w1 w2 : World} {T : Nat → Prop} (k : Kept w w1 T) (hb : Below w1.heap.size w1 w2) : Kept w w2 T :=
  k.trans (T' := fun _ => False) (Kept.of_below hb (fun k hk h' => by omega)) (fun _ _ h => h.elim)
/-- a row that is not the decoder's -/
theorem Moved.keeps {w w' : World} {base D : Nat} {v : Value} {st : Hm.St} (h : Moved w w' base D v st) {B : Nat} {e : TypeId} {size : Nat} {x : Value} {n : Nat} {xs : List Value} (hx : w.ownsRow B e size x n xs)
    (hD : D < B) (hv : ∀ k, v.ownBlock = some k → k < B) : w'.ownsRow B e size x n xs := by
  obtain ⟨v', _, hk, _⟩ := h
  refine hk.owns hx (fun k hxk ht => ?_)
  have hB := (hx.lt k hxk).1
  rcases ht with rfl | ht
  · omega
  · have := hv k ht; omega
theorem Moved.fields {w w' : World} {base D : Nat} {v : Value} {st : Hm.St} (h : Moved w w' base D v st) : D < w'.heap.size ∧ w'.cell? ⟨D, 0, none⟩ = some (.int .i64 (st.ones : Int)) ∧ w'.cell? ⟨D, 1, none⟩ = some (.bool st.inn) := by
  obtain ⟨v', hd, _, _⟩ := h
  exact ⟨hd.lt, hd.c0, hd.c1⟩

theorem Moved.size {w w' : World} {base D : Nat} {v : Value} {st : Hm.St} (h : Moved w w' base D v st) : w.heap.size ≤ w'.heap.size := by
  obtain ⟨v', _, hk, _⟩ := h
  exact hk.size
theorem Moved.alloc {w w' : World} {base D : Nat} {v : Value} {st : Hm.St} (h : Moved w w' base D v st) (o : Obj) : Moved w (w'.alloc o) base D v st := by
  obtain ⟨v', hd, hk, hf⟩ := h
  exact ⟨v', hd.kept (T := fun _ => False) ((Kept.refl _ _).alloc o) (fun x => x) (fun _ _ x => x), hk.alloc o, hf⟩

/-- what is met, in a row of its own, and the decoder's new state -/
def Met (w w' : World) (base D : Nat) (v : Value) (r : Hm.St × List Hm.Ev) (x : Value) : Prop :=
  Moved w w' base D v r.1 ∧ w'.ownsRow w.heap.size 53 2 x r.2.length (evCells r.2) ∧ (r.2 = [] → x = .slice none 0 0)

theorem Met.none {w w' : World} {base D : Nat} {v : Value} {st : Hm.St} (h : Moved w w' base D v st) : Met w w' base D v (st, []) (.slice none 0 0) :=
  ⟨h, World.ownsRow_nil _ _ _ _, fun _ => rfl⟩

set_option maxHeartbeats 400000 in
set_option maxRecDepth 100000 in
theorem zero_any (st : Hm.St) (base D : Nat) (v : Value) (w : World) (h : Dec w base D v st) (hbase : base ≤ w.heap.size) (ho : st.ones ≤ 1000000000000) :
    Calls Tryd.prog 31 #[.pointer (some ⟨D, 0, none⟩)] w fun e w' => ∃ x, e = .returned x ∧ Met w w' base D v (Hm.zeroS st) x := by
  have hc0 := h.c0
  have hf0 := h.f 0 (by decide)
  have hlt := h.lt
  have h1 := h.set0 0
  have k1 : Kept w (w.setCell ⟨D, 0, none⟩ (.int .i64 ((0 : Nat) : Int))) (touch D v) := (Kept.refl w _).setCell (p := ⟨D, 0, none⟩) (fun _ => Or.inl rfl) _
  have hsz : (w.setCell ⟨D, 0, none⟩ (.int .i64 ((0 : Nat) : Int))).heap.size = w.heap.size := by simp [World.setCell]
  by_cases h6 : st.ones = 6
  · have HZ : Hid (Hm.zeroS st = (⟨0, true, []⟩, Hm.endedE st.cont)) := by show _ = _; unfold Hm.zeroS; rw [if_pos h6]
    rw [h6] at hc0
    have he := ended_any _ base D v _ h1
    go_enter Tryd.func31, Tryd.ntmps31
    go_wp2_with (go_at_call 44; refine he.mono ?_; rintro e w' ⟨x, rfl, hr, hnil, hb⟩)
    have hd2 := h1.below hb (Nat.le_refl _)
    go_wp2_with (go_at_call 45; refine (turn_any true _ base D v _ hd2).mono ?_; rintro e w2 ⟨rfl, hmv⟩)
    go_ret
    rw [HZ.out]
    have hr2 : w'.ownsRow w.heap.size 53 2 x (Hm.endedE st.cont).length (evCells (Hm.endedE st.cont)) := by rw [hsz] at hr; exact hr
    exact ⟨_, rfl, Moved.trans (k1.behind hb) (fun k hk => Or.inl hk) hmv, hmv.keeps hr2 h.lt (fun k hk => (h.own.lt k hk).2), hnil⟩
  · by_cases h5 : st.ones = 5
    · have HZ : Hid (Hm.zeroS st = (⟨0, st.inn, st.cont⟩, [])) := by show _ = _; unfold Hm.zeroS; rw [if_neg h6, if_pos h5]
      rw [h5] at hc0
      go_enter Tryd.func31, Tryd.ntmps31
      go_wp2
      go_ret
      rw [HZ.out]
      exact ⟨_, rfl, Met.none (h.set0_moved 0)⟩
    · have HZ : Hid (Hm.zeroS st = (Hm.takeS ⟨0, st.inn, st.cont⟩ 48, [])) := by show _ = _; unfold Hm.zeroS; rw [if_neg h6, if_neg h5]
      have t6 : ((st.ones : Int) == 6) = false := by simp; omega
      have t5 : ((st.ones : Int) == 5) = false := by simp; omega
      have ht := take_any 48 (Or.inl rfl) _ base D v _ h1 (by rw [hsz]; exact hbase)
      clear h6 h5
      go_enter Tryd.func31, Tryd.ntmps31
      go_wp2_with (go_at_call 46; refine ht.mono ?_; rintro e w' ⟨rfl, hmv⟩)
      go_ret
      rw [HZ.out]
      exact ⟨_, rfl, Met.none (Moved.trans k1 (fun k hk => Or.inl hk) hmv)⟩

set_option maxHeartbeats 400000 in
set_option maxRecDepth 100000 in
theorem one_any (st : Hm.St) (base D : Nat) (v : Value) (w : World) (h : Dec w base D v st) (hbase : base ≤ w.heap.size) (ho : st.ones ≤ 1000000000000) :
    Calls Tryd.prog 32 #[.pointer (some ⟨D, 0, none⟩)] w fun e w' => ∃ x, e = .returned x ∧ Met w w' base D v (Hm.oneS st) x := by
  have hc0 := h.c0
  have hc1 := h.c1
  have hf0 := h.f 0 (by decide)
  have hlt := h.lt
  have h1 := h.set0 (st.ones + 1)
  have k1 : Kept w (w.setCell ⟨D, 0, none⟩ (.int .i64 ((st.ones + 1 : Nat) : Int))) (touch D v) := (Kept.refl w _).setCell (p := ⟨D, 0, none⟩) (fun _ => Or.inl rfl) _
  have hsz : (w.setCell ⟨D, 0, none⟩ (.int .i64 ((st.ones + 1 : Nat) : Int))).heap.size = w.heap.size := by simp [World.setCell]
  have hM := h.set0_moved (st.ones + 1)
  rw [show ((st.ones + 1 : Nat) : Int) = (st.ones : Int) + 1 from by omega] at h1 k1 hsz hM
  have ho0 : (0 : Int) ≤ (st.ones : Int) := by omega
  have ho1 : (st.ones : Int) ≤ 1000000000000 := by omega
  by_cases h5 : st.ones + 1 ≤ 5
  · have HZ : Hid (Hm.oneS st = (Hm.takeS ⟨st.ones + 1, st.inn, st.cont⟩ 49, [])) := by show _ = _; unfold Hm.oneS; rw [if_pos h5]
    have t5 : (st.ones : Int) + 1 ≤ 5 := by omega
    have t6 : (st.ones : Int) + 1 ≤ 6 := by omega
    have ht := take_any 49 (Or.inr rfl) _ base D v _ h1 (by rw [hsz]; exact hbase)
    clear h5
    go_enter Tryd.func32, Tryd.ntmps32
    go_wp2_with fail
    refine ht.mono ?_
    rintro e w' ⟨rfl, hmv⟩
    obtain ⟨kl, q0, q1⟩ := hmv.fields
    rw [Hm.take_ones] at q0
    simp only [Int.natCast_add, Int.cast_ofNat_Int] at q0
    go_wp2
    go_ret
    rw [HZ.out]
    exact ⟨_, rfl, Met.none (Moved.trans k1 (fun k hk => Or.inl hk) hmv)⟩
  · have t5 : ¬ (st.ones : Int) + 1 ≤ 5 := by omega
    by_cases h6 : st.ones + 1 ≤ 6
    · have HZ : Hid (Hm.oneS st = (⟨st.ones + 1, st.inn, st.cont⟩, [])) := by show _ = _; unfold Hm.oneS; rw [if_neg h5, if_pos (Or.inl h6)]
      have t6 : (st.ones : Int) + 1 ≤ 6 := by omega
      clear h5 h6
      go_enter Tryd.func32, Tryd.ntmps32
      go_wp2
      go_ret
      rw [HZ.out]
      exact ⟨_, rfl, Met.none hM⟩
    · have t6 : ¬ (st.ones : Int) + 1 ≤ 6 := by omega
      cases hin : st.inn with
      | false =>
        have HZ : Hid (Hm.oneS st = (⟨st.ones + 1, st.inn, st.cont⟩, [])) := by show _ = _; unfold Hm.oneS; rw [if_neg h5, if_pos (Or.inr hin)]
        rw [hin] at hc1
        clear h5 h6
        go_enter Tryd.func32, Tryd.ntmps32
        go_wp2
        go_ret
        rw [HZ.out]
        exact ⟨_, rfl, Met.none hM⟩
      | true =>
        have HZ : Hid (Hm.oneS st = (⟨st.ones + 1, false, []⟩, [(1, ByteArray.empty)])) := by show _ = _; unfold Hm.oneS; rw [if_neg h5, if_neg (fun hx => by rcases hx with hx | hx; exact h6 hx; rw [hin] at hx; cases hx)]
        rw [hin] at hc1
        clear h5 h6
        have ht := turn_any false _ base D v _ h1
        go_enter Tryd.func32, Tryd.ntmps32
        go_wp2_with fail
        refine ht.mono ?_
        rintro e w' ⟨rfl, hmv⟩
        go_wp2
        go_ret
        rw [HZ.out]
        have M := Moved.trans k1 (fun k hk => Or.inl hk) hmv
        exact ⟨_, rfl, M.alloc _, ev_one _ _ _ _ M.size, fun hx => by cases hx⟩
end Go.Proofs.YtdcohbdndkphnabDoor
