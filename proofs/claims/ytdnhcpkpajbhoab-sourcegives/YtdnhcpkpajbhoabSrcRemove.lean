/-
  The walk of a source's remove.
-/
import Derived.Test.YtdnhcpkpajbhoabSrcSmall
namespace Go.Proofs.Ytdnhcpkpajbhoab
open Go.RowKit
set_option linter.unusedVariables false
set_option linter.unusedSimpArgs false
set_option maxRecDepth 100000

theorem freeE_len (s : Zm.St) (t : Int) : (Zm.freeE s t).length ≤ 1 := by
  unfold Zm.freeE
  split <;> simp
theorem sremove_any (C P M : Nat) (s : Zm.St) (t : Int) (w : World) (h : Sr w C P M s) (ht : In64 t) :
    Calls Try.prog 37 #[.pointer (some ⟨C, 0, none⟩), .int .i64 t] w fun r w' => ∃ v, r = .returned v ∧ Out w.heap.size w' v (Zm.removeE s t) ∧ Mvs w w' C P M (Zm.remove s t) := by
  go_enter Try.func37, Try.ntmps37
  go_wp2_with fail
  refine (send_any 6 0 t w).mono ?_
  rintro r w1 ⟨rfl, hb⟩
  obtain ⟨W, hW⟩ : ∃ W, W = (w1.alloc (.cells #[.int .i64 0, .int .i64 6, .int .i64 0, .int .i64 t, .int .i64 0] 53)).alloc (.cells #[.int .i64 0, .int .i64 6, .int .i64 0, .int .i64 t, .int .i64 0, .int .i64 0, .int .i64 6, .int .i64 0, .int .i64 t, .int .i64 0] 53) := ⟨_, rfl⟩
  have hb1 : Below w1.heap.size w1 (w1.alloc (.cells #[.int .i64 0, .int .i64 6, .int .i64 0, .int .i64 t, .int .i64 0] 53)) := (Below.refl _ _).alloc (Nat.le_refl _) _
  have hbW : Below w1.heap.size w1 W := by rw [hW]; exact hb1.alloc (by simp) _
  have c1 := (h.below hb).c1
  have hlt := (h.below hb).lt
  have hsz := hb.size
  have hWs : W.heap.size = w1.heap.size + 2 := by rw [hW]; simp
  have HO : Hid (Out w.heap.size W (.slice (some ⟨w1.heap.size + 1, 0, none⟩) 2 2) [Zm.say 6 0 t, Zm.say 6 0 t]) := by
    have h' := out_made (b := w.heap.size) (w1.alloc (.cells #[.int .i64 0, .int .i64 6, .int .i64 0, .int .i64 t, .int .i64 0] 53)) [Zm.say 6 0 t, Zm.say 6 0 t] (by simp; omega) rfl (by simp)
    rw [World.size_alloc] at h'
    show Out _ W _ _
    rw [hW]
    exact h'
  have hSW : Sr W C P M s := (h.below hb).below hbW
  have HMW : Hid (Mvs w W C P M s) := h.same (hb.trans (hbW.mono hb.size))
  have hlook := hSW.ch.look ht
  have HL : Hid (Low w C P M) := h.low
  have HT : Hid (In64 t) := ht
  clear hb hb1 hbW h ht
  cases hu : Zm.under s t with
  | true =>
    have HE : Hid (Zm.removeE s t = ([Zm.say 6 0 t, Zm.say 6 0 t] ++ [Zm.tell 4 t]) ++ Zm.freeE s t) := by
      show _ = _
      unfold Zm.removeE
      rw [hu, if_pos rfl]
    have HF : Hid (Zm.freeE (Zm.drop s t) t = Zm.freeE s t) := by
      show _ = _
      unfold Zm.freeE
      rw [Zm.drop_f]
    obtain ⟨p, hp, ep, ep2, hap⟩ := Zm.under_yes hu
    have hc : chkV s t = .agg #[.int .i64 t, .int .i64 (s.a p), .int .i64 (s.n p)] := by unfold chkV; rw [hu, if_pos rfl, ep2]; rfl
    rw [hc, hu, hW] at hlook
    generalize (s.a p : Int) = aa at hlook
    generalize (s.n p : Int) = nn at hlook
    clear hc ep ep2 hap hp
    obtain ⟨W2, hW2⟩ : ∃ W2, W2 = W.alloc (.cells #[.int .i64 t, .int .i64 aa, .int .i64 nn] 44) := ⟨_, rfl⟩
    have hb2 : Below W.heap.size W W2 := by rw [hW2]; exact (Below.refl _ _).alloc (Nat.le_refl _) _
    have hS2 := hSW.below hb2
    obtain ⟨w3, hdrop, hc3, hk3⟩ := hS2.ch.drop HT.out 0
    have hM3 : Mvs W2 w3 C P M (Zm.drop s t) := hS2.checks hc3 hk3 (Zm.drop_f s t) (Zm.drop_nx s t) (Zm.drop_ok hS2.ok t)
    have HM3 : Hid (Mvs w w3 C P M (Zm.drop s t)) := Mvs.on (HMW.out.then hb2).2 hM3
    have hO3 := (HO.out.bel hb2).mvs hM3 HL.out.2.1 HL.out.2.2
    have hsz3 : w1.heap.size ≤ w3.heap.size := by have := hM3.2.size; have := hb2.size; omega
    have kc := hS2.c1
    rw [hW2, hW] at hdrop kc
    obtain ⟨W4, hW4⟩ : ∃ W4, W4 = w3.alloc (.cells #[.int .i64 4, .int .i64 0, .int .i64 0, .int .i64 0, .int .i64 t] 53) := ⟨_, rfl⟩
    have hb4 : Below w3.heap.size w3 W4 := by rw [hW4]; exact (Below.refl _ _).alloc (Nat.le_refl _) _
    have hT4 : Out w.heap.size W4 (.slice (some ⟨w3.heap.size, 0, none⟩) 1 1) [Zm.tell 4 t] := by rw [hW4]; exact out_made w3 [Zm.tell 4 t] (by omega) rfl (by simp)
    have HM4 : Hid (Mvs w W4 C P M (Zm.drop s t)) := HM3.out.then hb4
    have HO4 : Hid (Out w.heap.size W4 (.slice (some ⟨w1.heap.size + 1, 0, none⟩) 2 2) [Zm.say 6 0 t, Zm.say 6 0 t]) := hO3.bel hb4
    have HT4 : Hid (Out w.heap.size W4 (.slice (some ⟨w3.heap.size, 0, none⟩) 1 1) [Zm.tell 4 t]) := hT4
    have HD : Hid (Zm.under (Zm.drop s t) t = false) := Zm.drop_under s t
    clear hT4 hb4 hO3 hM3 hc3 hk3 hS2 hb2 hW2 hSW hW hWs
    go_wp2_with (at_builtin; rw [← hW4]; refine wpl_append rfl _ _ rfl rfl rfl HM4.out HL.out HO4.out HT4.out (by simp) (by simp) ?_)
    intro v5 w5 hO5 hM5 hs5 hat5
    have HO5 : Hid (Out w.heap.size w5 v5 ([Zm.say 6 0 t, Zm.say 6 0 t] ++ [Zm.tell 4 t])) := hO5
    have HM5 : Hid (Mvs w w5 C P M (Zm.drop s t)) := hM5
    have HFr := sfree_any C P M (Zm.drop s t) t w5 hM5.1 HD.out
    clear hO5 hM5 hs5 hat5 hW4 HM4 HO4 HT4 hlook hdrop kc
    go_wp2_with fail
    refine HFr.mono ?_
    rintro r w6 ⟨v6, rfl, ho6, hm6⟩
    have hz6 : w.heap.size ≤ w5.heap.size := HM5.out.2.size
    rw [HF.out] at ho6
    have HM6 : Hid (Mvs w w6 C P M (Zm.remove s t)) := Mvs.on HM5.out.2 hm6
    have HO6 : Hid (Out w.heap.size w6 v5 ([Zm.say 6 0 t, Zm.say 6 0 t] ++ [Zm.tell 4 t])) := HO5.out.mvs hm6 HL.out.2.1 HL.out.2.2
    have HU6 : Hid (Out w.heap.size w6 v6 (Zm.freeE s t)) := ho6.up hz6
    clear ho6 hm6 HFr hz6
    go_wp2_with (at_builtin; refine wpl_append rfl _ _ rfl rfl rfl HM6.out HL.out HO6.out HU6.out (by simp) (by have := freeE_len s t; omega) ?_)
    intro v7 w7 hO7 hM7 hs7 hat7
    have HO7 : Hid (Out w.heap.size w7 v7 (([Zm.say 6 0 t, Zm.say 6 0 t] ++ [Zm.tell 4 t]) ++ Zm.freeE s t)) := hO7
    have HM7 : Hid (Mvs w w7 C P M (Zm.remove s t)) := hM7
    clear hO7 hM7 hs7 hat7
    go_wp2
    go_ret
    exact ⟨_, rfl, by rw [HE.out]; exact HO7.out, HM7.out⟩
  | false =>
    have HE : Hid (Zm.removeE s t = [Zm.say 6 0 t, Zm.say 6 0 t] ++ Zm.freeE s t) := by
      show _ = _
      unfold Zm.removeE
      rw [hu, if_neg (by decide), List.append_nil]
    have HD : Hid (Zm.drop s t = s) := by
      show _ = _
      unfold Zm.drop
      rw [hu, if_neg (by decide)]
    have hc : chkV s t = .agg #[.int .i64 0, .int .i64 0, .int .i64 0] := by unfold chkV; rw [hu, if_neg (by decide)]; rfl
    rw [hc, hu, hW] at hlook
    obtain ⟨W2, hW2⟩ : ∃ W2, W2 = W.alloc (.cells #[.int .i64 0, .int .i64 0, .int .i64 0] 44) := ⟨_, rfl⟩
    have hb2 : Below W.heap.size W W2 := by rw [hW2]; exact (Below.refl _ _).alloc (Nat.le_refl _) _
    have hM2 := HMW.out.then hb2
    have HM2 : Hid (Mvs w W2 C P M s) := hM2
    have hO2 := HO.out.bel hb2
    have HO2 : Hid (Out w.heap.size W2 (.slice (some ⟨w1.heap.size + 1, 0, none⟩) 2 2) [Zm.say 6 0 t, Zm.say 6 0 t]) := hO2
    have HFr := sfree_any C P M s t W2 hM2.1 hu
    have hz6 : w.heap.size ≤ W2.heap.size := hM2.2.size
    rw [hW2, hW] at HFr
    rw [hW2, hW] at HO2 HM2 hz6
    clear hM2 hO2 hb2 hW2 hSW hW hWs hc hu
    go_wp2_with fail
    refine HFr.mono ?_
    rintro r w6 ⟨v6, rfl, ho6, hm6⟩
    have HM6 : Hid (Mvs w w6 C P M (Zm.remove s t)) := by unfold Zm.remove; rw [HD.out]; exact Mvs.on HM2.out.2 hm6
    have HO6 : Hid (Out w.heap.size w6 (.slice (some ⟨w1.heap.size + 1, 0, none⟩) 2 2) [Zm.say 6 0 t, Zm.say 6 0 t]) := HO2.out.mvs hm6 HL.out.2.1 HL.out.2.2
    have HU6 : Hid (Out w.heap.size w6 v6 (Zm.freeE s t)) := ho6.up hz6
    clear ho6 hm6 HFr hz6 hlook HM2 HO2
    go_wp2_with (at_builtin; refine wpl_append rfl _ _ rfl rfl rfl HM6.out HL.out HO6.out HU6.out (by simp) (by have := freeE_len s t; omega) ?_)
    intro v7 w7 hO7 hM7 hs7 hat7
    have HO7 : Hid (Out w.heap.size w7 v7 ([Zm.say 6 0 t, Zm.say 6 0 t] ++ Zm.freeE s t)) := hO7
    have HM7 : Hid (Mvs w w7 C P M (Zm.remove s t)) := hM7
    clear hO7 hM7 hs7 hat7
    go_wp2
    go_ret
    exact ⟨_, rfl, by rw [HE.out]; exact HO7.out, HM7.out⟩
end Go.Proofs.Ytdnhcpkpajbhoab
