/-
  The walks of a source's Timeout, answer, verify.
-/
import Derived.Test.YtdnhcpkpajbhoabSrcOps
namespace Go.Proofs.Ytdnhcpkpajbhoab
open Go.RowKit
set_option linter.unusedVariables false
set_option linter.unusedSimpArgs false
set_option maxRecDepth 100000

theorem nn_zero {n : Nat} (h : n = 0) : ((n : Int) == 0) = true := by subst h; rfl
theorem stimeout_any (C P M : Nat) (s : Zm.St) (t : Int) (w : World) (h : Sr w C P M s) (ht : In64 t) :
    Calls Try.prog 18 #[.pointer (some ⟨C, 0, none⟩), .int .i64 t] w fun r w' => ∃ v, r = .returned v ∧ Out w.heap.size w' v (Zm.timeout s t).2 ∧ Mvs w w' C P M (Zm.timeout s t).1 := by
  have HM := smade_any C P M s w h
  have c1 := h.c1
  have hlt := h.lt
  have hlook := h.ch.look ht
  have hb1 : ∀ o, Below w.heap.size w (w.alloc o) := fun o => (Below.refl _ _).alloc (Nat.le_refl _) o
  cases hu : Zm.under s t with
  | false =>
    rw [hu, chk_no hu] at hlook
    have HN : Hid (Zm.timeout s t = (s, [])) := by show _ = _; unfold Zm.timeout; rw [hu, if_neg (by decide)]
    have HS : Hid (∀ w', Below w.heap.size w w' → Mvs w w' C P M s) := fun w' hb => h.same hb
    clear h hu ht
    go_enter Try.func18, Try.ntmps18
    go_wp2_with fail
    refine HM.mono ?_
    rintro r w1 ⟨rfl, rfl⟩
    clear HM
    have HB := (show Hid _ from hb1)
    clear hb1
    go_wp2
    go_ret
    rw [HN.out]
    exact ⟨_, rfl, out_nil _ _, HS.out _ (HB.out _)⟩
  | true =>
    obtain ⟨p, hp, hpe, hat, hap, hcv⟩ := chk_yes hu
    rw [hu, hcv] at hlook
    have hf := (h.ok.in' p hap).2
    have ha2 := h.ok.a2 p
    have hn1 := h.ok.n1 p
    by_cases hask : s.n p = 0 ∧ s.a p < 2
    · have HN : Hid (Zm.timeout s t = (Zm.setC s p 2 0, Zm.askE t)) := by
        show _ = _
        unfold Zm.timeout Zm.ask
        rw [hu, if_pos rfl, hat, if_pos hask, show s.a p + 1 = 2 by omega]
      have HS : Hid (∀ w1, Below w.heap.size w w1 → Calls Try.prog 33 #[.pointer (some ⟨C, 0, none⟩), .int .i64 t, .int .i64 2] w1 fun r w' => ∃ v, r = .returned v ∧ Out w.heap.size w' v (Zm.askE t) ∧ Mvs w w' C P M (Zm.setC s p 2 0)) := fun w1 hb => by
        rw [hpe]
        refine (sask_any C P M p 2 s w1 (h.below hb) hp hf (by decide) (by decide)).mono ?_
        rintro r w' ⟨v, h1, h2, h3⟩
        exact ⟨v, h1, h2.up hb.size, Mvs.ahead hb h3⟩
      have e1 : s.a p = 1 := by omega
      rw [hask.1, e1] at hlook
      have hlook' : (Instr.lookup 67 (.map (some M)) (.int .i64 t) true).run Try.prog w = .ok (.tuple #[.agg #[.int .i64 t, .int .i64 1, .int .i64 0], .bool true]) w := hlook
      clear h hu hask e1 hap ha2 hn1 hcv hlook hf hp hat hpe ht
      go_enter Try.func18, Try.ntmps18
      go_wp2_with fail
      refine HM.mono ?_
      rintro r w1 ⟨rfl, rfl⟩
      clear HM
      go_wp2_with fail
      refine (HS.out _ (hb1 _)).mono ?_
      rintro r w2 ⟨v, rfl, ho, hm⟩
      have HO : Hid (Out w.heap.size w2 v (Zm.askE t)) := ho
      have HM2 : Hid (Mvs w w2 C P M (Zm.setC s p 2 0)) := hm
      clear ho hm HS hlook' hb1
      go_wp2
      go_ret
      rw [HN.out]
      exact ⟨_, rfl, HO.out, HM2.out⟩
    · obtain ⟨W2, hW2⟩ : ∃ W2, W2 = w.alloc (.cells #[.int .i64 t, .int .i64 (s.a p), .int .i64 (s.n p)] 44) := ⟨_, rfl⟩
      have hb2 : Below w.heap.size w W2 := by rw [hW2]; exact hb1 _
      have hS2 := h.below hb2
      obtain ⟨w3, hdrop, hc3, hk3⟩ := hS2.ch.drop ht 0
      have hM3 : Mvs W2 w3 C P M (Zm.drop s t) := hS2.checks hc3 hk3 (Zm.drop_f s t) (Zm.drop_nx s t) (Zm.drop_ok hS2.ok t)
      have HM3 : Hid (Mvs w w3 C P M (Zm.drop s t)) := Mvs.ahead hb2 hM3
      have hwW : w.heap.size < W2.heap.size := by rw [hW2]; simp
      have hnM : w.heap.size ≠ M := by have := h.ch.lt; omega
      have kn : w3.cell? ⟨w.heap.size, 2, none⟩ = some (.int .i64 (s.n p)) := by
        rw [hk3.cell (p := ⟨w.heap.size, 2, none⟩) hwW (fun e => hnM e), hW2]; simp
      have hl3 : w.heap.size < w3.heap.size := Nat.lt_of_lt_of_le hwW hk3.size
      rw [hW2] at hdrop
      have HD : Hid (Zm.under (Zm.drop s t) t = false) := Zm.drop_under s t
      rcases Nat.lt_or_ge 0 (s.n p) with hn | hn
      · have e1 : s.n p = 1 := by omega
        have HN : Hid (Zm.timeout s t = (Zm.drop s t, [])) := by
          show _ = _
          unfold Zm.timeout
          rw [hu, if_pos rfl, hat, if_neg hask, if_pos hn]
        rw [e1] at hlook hdrop kn
        rw [show ((1 : Nat) : Int) = 1 from rfl] at hlook hdrop kn
        generalize (s.a p : Int) = aa at hlook hdrop
        clear h hu hask e1 hap ha2 hn1 hcv hf hp hat hpe ht hM3 hc3 hk3 hS2 hb2 hW2 hwW hnM hn hb1
        go_enter Try.func18, Try.ntmps18
        go_wp2_with fail
        refine HM.mono ?_
        rintro r w1 ⟨rfl, rfl⟩
        clear HM
        go_wp2
        go_ret
        rw [HN.out]
        exact ⟨_, rfl, out_nil _ _, HM3.out⟩
      · have e1 : s.n p = 0 := by omega
        have e2 : s.a p = 2 := by
          rcases Nat.lt_or_ge (s.a p) 2 with h' | h'
          · exact absurd ⟨e1, h'⟩ hask
          · omega
        have HN : Hid (Zm.timeout s t = (Zm.free (Zm.drop s t) t, Zm.freeE s t)) := by
          show _ = _
          unfold Zm.timeout
          rw [hu, if_pos rfl, hat, if_neg hask, if_neg (by omega)]
        have HF : Hid (Zm.freeE (Zm.drop s t) t = Zm.freeE s t) := by
          show _ = _
          unfold Zm.freeE
          rw [Zm.drop_f]
        rw [e1, e2] at hlook hdrop
        rw [e1] at kn
        rw [show ((0 : Nat) : Int) = 0 from rfl] at hlook hdrop kn
        rw [show ((2 : Nat) : Int) = 2 from rfl] at hlook hdrop
        have HFr := sfree_any C P M (Zm.drop s t) t w3 hM3.1 HD.out
        have hz3 := HM3.out.2.size
        clear h hu hask e1 e2 hap ha2 hn1 hcv hf hp hat hpe ht hM3 hc3 hk3 hS2 hb2 hW2 hwW hnM hn hb1
        go_enter Try.func18, Try.ntmps18
        go_wp2_with fail
        refine HM.mono ?_
        rintro r w1 ⟨rfl, rfl⟩
        clear HM
        go_wp2_with fail
        refine HFr.mono ?_
        rintro r w6 ⟨v6, rfl, ho6, hm6⟩
        rw [HF.out] at ho6
        have HO : Hid (Out w.heap.size w6 v6 (Zm.freeE s t)) := ho6.up hz3
        have HM6 : Hid (Mvs w w6 C P M (Zm.free (Zm.drop s t) t)) := Mvs.on HM3.out.2 hm6
        clear ho6 hm6 HFr hlook hdrop kn
        go_wp2
        go_ret
        rw [HN.out]
        exact ⟨_, rfl, HO.out, HM6.out⟩
theorem stray_out (b : Nat) (w : World) (t : Int) (hb : b ≤ w.heap.size) : Out b (w.alloc (.cells #[.int .i64 0, .int .i64 6, .int .i64 0, .int .i64 t, .int .i64 0] 53)) (.slice (some ⟨w.heap.size, 0, none⟩) 1 1) [Zm.say 6 0 t] :=
  out_made w [Zm.say 6 0 t] hb rfl (by simp)
theorem sverify_any (C P M : Nat) (s : Zm.St) (t : Int) (w : World) (h : Sr w C P M s) :
    Calls Try.prog 42 #[.pointer (some ⟨C, 0, none⟩), .int .i64 t] w fun r w' => ∃ v, r = .returned v ∧ Out w.heap.size w' v (Zm.verify s t).2 ∧ Mvs w w' C P M (Zm.verify s t).1 := by
  have HI := isFree_any C P M s t w h
  cases hi : Zm.isFree s t with
  | true =>
    rw [hi] at HI
    have HN : Hid (Zm.verify s t = (s, [Zm.say 6 0 t])) := by show _ = _; unfold Zm.verify; rw [hi, if_pos rfl]
    have HS : Hid (∀ w', Below w.heap.size w w' → Mvs w w' C P M s) := fun w' hb => h.same hb
    clear h hi
    go_enter Try.func42, Try.ntmps42
    go_wp2_with fail
    refine HI.mono ?_
    rintro r w1 ⟨rfl, rfl⟩
    clear HI
    go_wp2_with fail
    refine (send_any 6 0 t w).mono ?_
    rintro r w1 ⟨rfl, hb⟩
    have HB : Hid (Below w.heap.size w w1) := hb
    clear hb
    go_wp2
    go_ret
    rw [HN.out]
    exact ⟨_, rfl, stray_out _ w1 t HB.out.size, HS.out _ (HB.out.alloc HB.out.size _)⟩
  | false =>
    rw [hi] at HI
    have HN : Hid (Zm.verify s t = Zm.check s t) := by show _ = _; unfold Zm.verify; rw [hi, if_neg (by decide)]
    have HC := scheck_any C P M s t w h
    generalize Zm.checkN s t = e at HC
    clear h hi
    go_enter Try.func42, Try.ntmps42
    go_wp2_with fail
    refine HI.mono ?_
    rintro r w1 ⟨rfl, rfl⟩
    clear HI
    go_wp2_with fail
    refine HC.mono ?_
    rintro r w1 ⟨v, rfl, ho, hm⟩
    have HO : Hid (Out w.heap.size w1 v (Zm.check s t).2) := ho
    have HM : Hid (Mvs w w1 C P M (Zm.check s t).1) := hm
    clear ho hm HC
    go_wp2
    go_ret
    rw [HN.out]
    exact ⟨_, rfl, HO.out, HM.out⟩
theorem sanswer_any (C P M : Nat) (s : Zm.St) (t : Int) (w : World) (h : Sr w C P M s) (ht : In64 t) :
    Calls Try.prog 41 #[.pointer (some ⟨C, 0, none⟩), .int .i64 t] w fun r w' => ∃ v, r = .returned v ∧ Out w.heap.size w' v (Zm.answer s t).2 ∧ Mvs w w' C P M (Zm.answer s t).1 := by
  have c1 := h.c1
  have hlt := h.lt
  have hlook := h.ch.look ht
  have hb1 : ∀ o, Below w.heap.size w (w.alloc o) := fun o => (Below.refl _ _).alloc (Nat.le_refl _) o
  cases hu : Zm.under s t with
  | false =>
    rw [hu, chk_no hu] at hlook
    have HI : Hid (∀ w1, Below w.heap.size w w1 → Calls Try.prog 61 #[.pointer (some ⟨C, 0, none⟩), .int .i64 t] w1 fun r w' => r = .returned (.bool (Zm.isFree s t)) ∧ w1 = w') := fun w1 hb => isFree_any C P M s t w1 (h.below hb)
    have HS : Hid (∀ w', Below w.heap.size w w' → Mvs w w' C P M s) := fun w' hb => h.same hb
    have HN : Hid (Zm.answer s t = (s, if Zm.isFree s t then [Zm.say 6 0 t] else [])) := by show _ = _; unfold Zm.answer; rw [hu, if_neg (by decide)]
    clear h hu ht
    generalize Zm.isFree s t = b at HI HN
    cases b with
    | false =>
      go_enter Try.func41, Try.ntmps41
      go_wp2_with fail
      refine (HI.out _ (hb1 _)).mono ?_
      rintro r w1 ⟨rfl, rfl⟩
      have HB := (show Hid _ from hb1)
      clear HI hb1
      go_wp2
      go_ret
      rw [HN.out]
      exact ⟨_, rfl, out_nil _ _, HS.out _ (HB.out _)⟩
    | true =>
      go_enter Try.func41, Try.ntmps41
      go_wp2_with fail
      refine (HI.out _ (hb1 _)).mono ?_
      rintro r w1 ⟨rfl, rfl⟩
      have HB := (show Hid _ from hb1)
      clear HI hb1
      go_wp2_with fail
      refine (send_any 6 0 t _).mono ?_
      rintro r w2 ⟨rfl, hb⟩
      have HB2 : Hid (Below w.heap.size w w2) := (HB.out _).trans (hb.mono (HB.out _).size)
      clear hb HB
      go_wp2
      go_ret
      rw [HN.out, if_pos trivial]
      exact ⟨_, rfl, stray_out _ w2 t HB2.out.size, HS.out _ (HB2.out.alloc HB2.out.size _)⟩
  | true =>
    obtain ⟨p, hp, hpe, hat, hap, hcv⟩ := chk_yes hu
    rw [hu, hcv] at hlook
    have hf := (h.ok.in' p hap).2
    have ha2 := h.ok.a2 p
    have hn1 := h.ok.n1 p
    rcases Nat.lt_or_ge 0 (s.n p) with hn | hn
    · have e1 : s.n p = 1 := by omega
      have HN : Hid (Zm.answer s t = (Zm.remove s t, Zm.removeE s t)) := by
        show _ = _
        unfold Zm.answer
        rw [hu, if_pos rfl, hat, if_pos hn]
      have HR : Hid (∀ w1, Below w.heap.size w w1 → Calls Try.prog 37 #[.pointer (some ⟨C, 0, none⟩), .int .i64 t] w1 fun r w' => ∃ v, r = .returned v ∧ Out w.heap.size w' v (Zm.removeE s t) ∧ Mvs w w' C P M (Zm.remove s t)) := fun w1 hb => by
        refine (sremove_any C P M s t w1 (h.below hb) ht).mono ?_
        rintro r w' ⟨v, h1, h2, h3⟩
        exact ⟨v, h1, h2.up hb.size, Mvs.ahead hb h3⟩
      rw [e1] at hlook
      rw [show ((1 : Nat) : Int) = 1 from rfl] at hlook
      generalize (s.a p : Int) = aa at hlook
      clear h hu e1 hap ha2 hn1 hcv hf hp hat hpe ht hn
      go_enter Try.func41, Try.ntmps41
      go_wp2_with fail
      refine (HR.out _ (hb1 _)).mono ?_
      rintro r w2 ⟨v, rfl, ho, hm⟩
      have HO : Hid (Out w.heap.size w2 v (Zm.removeE s t)) := ho
      have HM2 : Hid (Mvs w w2 C P M (Zm.remove s t)) := hm
      clear ho hm HR hlook hb1
      go_wp2
      go_ret
      rw [HN.out]
      exact ⟨_, rfl, HO.out, HM2.out⟩
    · have e1 : s.n p = 0 := by omega
      have HN : Hid (Zm.answer s t = (Zm.setC s p (s.a p) 1, [])) := by
        show _ = _
        unfold Zm.answer
        rw [hu, if_pos rfl, hat, if_neg (by omega)]
      have hbW : Below w.heap.size w ((w.alloc (.cells #[.int .i64 t, .int .i64 (s.a p), .int .i64 1] 44)).drew) := (hb1 _).drew
      have hSW := h.below hbW
      obtain ⟨w3, hst, hc3, hk3⟩ := hSW.ch.store hp hap (n := 1)
      have HM3 : Hid (Mvs w w3 C P M (Zm.setC s p (s.a p) 1)) := Mvs.ahead hbW (hSW.checks hc3 hk3 rfl rfl (Zm.setC_ok h.ok hp (fun _ => hf) ha2 (by decide) (fun e => by omega)))
      rw [← hpe] at hst
      unfold chV at hst
      rw [show ((1 : Nat) : Int) = 1 from rfl] at hst
      rw [e1] at hlook
      rw [show ((0 : Nat) : Int) = 0 from rfl] at hlook
      generalize (s.a p : Int) = aa at hlook hst
      clear h hu e1 ha2 hn1 hcv hf hp hat hpe ht hn hc3 hk3 hSW hbW hb1
      go_enter Try.func41, Try.ntmps41
      go_wp2_with fail
      go_region
      all_goals
        go_wp2
        go_ret
        rw [HN.out]
        exact ⟨_, rfl, out_nil _ _, HM3.out⟩
end Go.Proofs.Ytdnhcpkpajbhoab
