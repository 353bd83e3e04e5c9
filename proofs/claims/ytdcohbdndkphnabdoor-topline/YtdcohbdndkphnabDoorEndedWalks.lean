/-
  The walk of a decoder's method ended: what is met at a flag, in a row of its own; nothing that was there is turned.
-/
import Derived.Test.YtdcohbdndkphnabDoorDecWalks
import Derived.Test.YtdcohbdndkphnabDoorOctetsWalks
namespace Go.Proofs.YtdcohbdndkphnabDoor
open Go.RowKit
set_option linter.unusedVariables false
set_option linter.unusedSimpArgs false

def evCells (l : List Hm.Ev) : List Value := l.flatMap fun e => [.int .i64 e.1, .string e.2]
theorem evCells_length (l : List Hm.Ev) : (evCells l).length = l.length * 2 := by
  induction l with
  | nil => rfl
  | cons a l ih => simp only [evCells, List.flatMap_cons, List.length_append, List.length_cons, List.length_nil] at *; omega
theorem evCells_append (a b : List Hm.Ev) : evCells (a ++ b) = evCells a ++ evCells b := by simp [evCells]

/-- the row cut at its front -/
theorem own_cut {w : World} {base g n cap : Nat} {xs : List Int} (h : w.ownsRow base 5 1 (.slice (some ⟨g, 0, none⟩) n cap) n (xs.map (Value.int .u8))) (m : Nat) (hm : m ≤ n) :
    w.ownsRow base 5 1 (.slice (some ⟨g, 0, none⟩) m cap) m ((xs.take m).map (Value.int .u8)) := by
  have hl : xs.length = n := by have := h.1; simpa using this
  rcases h.2 with ⟨h', _⟩ | ⟨g', cap', cur, h', hb, hg, hnc, hcm, hcs, htake⟩
  · simp at h'
  · simp only [Value.slice.injEq, Option.some.injEq, Addr.mk.injEq, and_true, true_and] at h'
    obtain ⟨rfl, rfl⟩ := h'
    refine ⟨by simp; omega, .inr ⟨g, cap, cur, rfl, hb, hg, by omega, hcm, hcs, ?_⟩⟩
    rw [List.map_take, ← htake, List.take_take]
    congr 1
    omega

/-- one event, in a new block -/
theorem ev_one (w : World) (k : Int) (s : ByteArray) (base : Nat) (hb : base ≤ w.heap.size) : (w.alloc (.cells #[.int .i64 k, .string s] 53)).ownsRow base 53 2 (.slice (some ⟨w.heap.size, 0, none⟩) 1 1) 1 (evCells [(k, s)]) :=
  World.ownsRow_lit w #[.int .i64 k, .string s] 1 hb (by decide) rfl

set_option maxHeartbeats 400000 in
set_option maxRecDepth 100000 in
theorem ended_none (st : Hm.St) (base D : Nat) (v : Value) (w : World) (h : Dec w base D v st) (hl : st.cont.length ≤ 6) :
    Calls Tryd.prog 44 #[.pointer (some ⟨D, 0, none⟩)] w fun e w' => e = .returned (.slice none 0 0) ∧ w = w' := by
  have hc2 := h.c2
  have hlt := h.lt
  obtain ⟨x, cap, hv⟩ : ∃ x cap, v = .slice x st.cont.length cap := by
    rcases h.own.2 with ⟨rfl, h0⟩ | ⟨g, cap, cur, rfl, _⟩
    · exact ⟨none, 0, by rw [h0]⟩
    · exact ⟨_, cap, rfl⟩
  subst hv
  have hl' : (st.cont.length : Int) ≤ 6 := by omega
  go_enter Tryd.func44, Tryd.ntmps44
  go_wp2
  go_ret
  exact ⟨rfl, rfl⟩

set_option maxHeartbeats 400000 in
set_option maxRecDepth 100000 in
theorem ended_some (st : Hm.St) (base D : Nat) (v : Value) (w : World) (h : Dec w base D v st) (hl : ¬ st.cont.length ≤ 6) :
    Calls Tryd.prog 44 #[.pointer (some ⟨D, 0, none⟩)] w fun e w' => ∃ v', e = .returned v' ∧ w'.ownsRow w.heap.size 53 2 v' (Hm.endedE st.cont).length (evCells (Hm.endedE st.cont)) ∧ (Hm.endedE st.cont = [] → v' = .slice none 0 0) ∧ Below w.heap.size w w' := by
  have hc2 := h.c2
  have hlt := h.lt
  have hlen := h.ok.len
  obtain ⟨g, cap, hv, hcap, hcm⟩ : ∃ g cap, v = .slice (some ⟨g, 0, none⟩) st.cont.length cap ∧ st.cont.length ≤ cap ∧ cap ≤ maxLen := by
    rcases h.own.2 with ⟨rfl, h0⟩ | ⟨g, cap, cur, rfl, _, _, h1, h2, _⟩
    · omega
    · exact ⟨g, cap, rfl, h1, h2⟩
  subst hv
  unfold maxLen at hcm
  obtain ⟨n, hn⟩ : ∃ n, st.cont.length = n + 6 := ⟨st.cont.length - 6, by omega⟩
  have HN : Hid (st.cont.length = n + 6) := hn
  have hcut := own_cut h.own n (by omega)
  rw [hn] at hc2 hcap
  have hcv := conv_own hcut.drew
  have hz : (strOfNums (st.cont.take n)).size = n := by rw [strOfNums_size, List.length_take]; omega
  have HE : Hid (Hm.endedE st.cont = if 2128 < n ∨ n % 8 ≠ 0 then [(2, ByteArray.empty)] else [(0, strOfNums (Bm.octs (st.cont.take n)))]) := by
    show Hm.endedE st.cont = _
    unfold Hm.endedE
    rw [if_neg (by omega), hn, Nat.add_sub_cancel]
  have hgood : Bm.goodN (Bm.nums (strOfNums (st.cont.take n))) = true := by
    have hb : Hm.bit (st.cont.take n) := fun x hx => h.ok.bits x (List.mem_of_mem_take hx)
    rw [Bm.nums_str _ (fun x hx => by rcases hb x hx with h | h <;> omega), Bm.goodN, List.all_eq_true]
    intro x hx
    exact (Bm.isB_iff x).2 (hb x hx)
  have hnums : Bm.nums (strOfNums (st.cont.take n)) = st.cont.take n := Bm.nums_str _ (fun x hx => by rcases h.ok.bits x (List.mem_of_mem_take hx) with h | h <;> omega)
  have HO : Hid (octRes (strOfNums (st.cont.take n)) = if n % 8 ≠ 0 then (ByteArray.empty, 3) else (strOfNums (Bm.octs (st.cont.take n)), 0)) := by
    show octRes _ = _
    rw [octRes, if_neg (by rw [hgood]; decide), hz, hnums]
  have hnc : st.cont.length = n + 6 := hn
  have hn1 : ¬ n + 6 ≤ 6 := by omega
  clear hnums hgood hn hl hnc
  have hl' : ¬ (n : Int) + 6 ≤ 6 := by omega
  have hnb : n ≤ 2129 := by have := HN.out; omega
  clear hlen
  by_cases hbig : 2128 < n
  · have R := ev_one w.drew 2 ByteArray.empty w.heap.size (Nat.le_refl _)
    have HE2 : Hm.endedE st.cont = [(2, ByteArray.empty)] := by rw [HE.out, if_pos (Or.inl hbig)]
    rw [HE2]
    have hbig' : (2128 : Int) < (n : Int) := by omega
    clear HE2
    go_enter Tryd.func44, Tryd.ntmps44
    go_wp2
    go_region
    go_wp2
    go_ret
    exact ⟨_, rfl, R, (fun hx => by cases hx), ((Below.refl _ _).drew).alloc (Nat.le_refl _) _⟩
  · have hbig' : ¬ (2128 : Int) < (n : Int) := by omega
    by_cases h8 : n % 8 = 0
    · have HE2 : Hid (Hm.endedE st.cont = [(0, strOfNums (Bm.octs (st.cont.take n)))]) := by show _ = _; rw [HE.out, if_neg (by omega)]
      have HO2 : octRes (strOfNums (st.cont.take n)) = (strOfNums (Bm.octs (st.cont.take n)), 0) := by rw [HO.out, if_neg (by omega)]
      have hoc := octets_any (strOfNums (st.cont.take n)) w.drew (by rw [hz]; omega)
      rw [HO2] at hoc
      clear HO2 h8
      go_enter Tryd.func44, Tryd.ntmps44
      go_wp2
      go_region
      go_wp2_with (go_at_call 51; refine hoc.mono ?_; rintro e w' ⟨rfl, hb2⟩)
      go_ret
      rw [HE2.out]
      exact ⟨_, rfl, ev_one _ _ _ _ hb2.size, (fun hx => by cases hx), ((Below.refl w.heap.size w).drew.trans hb2).alloc hb2.size _⟩
    · have HE2 : Hid (Hm.endedE st.cont = [(2, ByteArray.empty)]) := by show _ = _; rw [HE.out, if_pos (Or.inr h8)]
      have HO2 : octRes (strOfNums (st.cont.take n)) = (ByteArray.empty, 3) := by rw [HO.out, if_pos h8]
      have hoc := octets_any (strOfNums (st.cont.take n)) w.drew (by rw [hz]; omega)
      rw [HO2] at hoc
      clear HO2 h8
      go_enter Tryd.func44, Tryd.ntmps44
      go_wp2
      go_region
      go_wp2_with (go_at_call 51; refine hoc.mono ?_; rintro e w' ⟨rfl, hb2⟩)
      go_ret
      rw [HE2.out]
      exact ⟨_, rfl, ev_one _ _ _ _ hb2.size, (fun hx => by cases hx), ((Below.refl w.heap.size w).drew.trans hb2).alloc hb2.size _⟩

theorem ended_any (st : Hm.St) (base D : Nat) (v : Value) (w : World) (h : Dec w base D v st) :
    Calls Tryd.prog 44 #[.pointer (some ⟨D, 0, none⟩)] w fun e w' => ∃ v', e = .returned v' ∧ w'.ownsRow w.heap.size 53 2 v' (Hm.endedE st.cont).length (evCells (Hm.endedE st.cont)) ∧ (Hm.endedE st.cont = [] → v' = .slice none 0 0) ∧ Below w.heap.size w w' := by
  by_cases hl : st.cont.length ≤ 6
  · refine (ended_none st base D v w h hl).mono ?_
    rintro e w' ⟨rfl, rfl⟩
    have : Hm.endedE st.cont = [] := by unfold Hm.endedE; rw [if_pos hl]
    rw [this]
    exact ⟨_, rfl, World.ownsRow_nil _ _ _ _, fun _ => rfl, Below.refl _ _⟩
  · exact ended_some st base D v w h hl
end Go.Proofs.YtdcohbdndkphnabDoor
