/-
  The walks of a user's assigned.
-/
import Derived.Test.YtdnhcpkpajbhoaaUsrOps
import Derived.Deep.RegionWith
namespace Go.Proofs.Ytdnhcpkpajbhoaa
open Go.RowKit
set_option linter.unusedVariables false
set_option linter.unusedSimpArgs false
set_option maxRecDepth 100000

theorem kind_is_au (t : Int) : (Am.kind t == 2) = decide (64 ≤ t ∧ t ≤ 126) := by
  have e : Am.kind t = if 0 ≤ t ∧ t ≤ 63 then 1 else if 64 ≤ t ∧ t ≤ 126 then 2 else if t = 127 then 3 else 0 := rfl
  rw [e]
  split
  · rw [decide_eq_false (by omega)]; rfl
  · split
    · rename_i h; rw [decide_eq_true h]; rfl
    · rename_i h
      rw [decide_eq_false h]
      split <;> rfl
section
variable {w : World} {C D : Nat} {G : Option Nat} {s : Um.St}
set_option maxHeartbeats 4000000 in
theorem uassigned_any (ty ri ai : Int) (h : Us w C D G s) :
    Calls Try.prog 38 #[.pointer (some ⟨C, 0, none⟩), .agg #[.int .i64 ty, .int .i64 ri, .int .i64 ai]] w fun r w' => ∃ v, r = .returned v ∧ UOut w.heap.size w' v (Um.assigned s ri ai).2 ∧ Mvu w w' C D G (Um.assigned s ri ai).1 := by
  obtain ⟨W, hW⟩ : ∃ W, W = w.alloc (.cells #[.int .i64 ty, .int .i64 ri, .int .i64 ai] 51) := ⟨_, rfl⟩
  have hbW : Below w.heap.size w W := by rw [hW]; exact (Below.refl _ _).alloc (Nat.le_refl _) _
  have m1 : W.cell? ⟨w.heap.size, 1, none⟩ = some (.int .i64 ri) := by rw [hW]; simp
  have m2 : W.cell? ⟨w.heap.size, 2, none⟩ = some (.int .i64 ai) := by rw [hW]; simp
  have hlW : w.heap.size < W.heap.size := by rw [hW]; simp
  have hW0 := h.below hbW
  have c2 := hW0.c2
  have c3 := hW0.c3
  have c4 := hW0.c4
  have hlt := hW0.lt
  have HBW : Hid (Below w.heap.size w W) := hbW
  have HH : Hid (∀ w1, Below W.heap.size W w1 → Calls Try.prog 32 #[.pointer (some ⟨C, 0, none⟩)] w1 fun r w' => r = .returned (.bool (decide (s.tei ≠ -1))) ∧ w' = w1) := fun w1 hb => (uholds_any (hW0.below hb)).mono fun r w' h => ⟨h.1, h.2.symm⟩
  have HL : Hid (∀ w1, Below W.heap.size W w1 → Calls Try.prog 36 #[.pointer (some ⟨C, 0, none⟩)] w1 fun r w' => ∃ v, r = .returned v ∧ UOut w.heap.size w' v (Um.loseE s) ∧ Mvu w w' C D G (Um.idle s)) := fun w1 hb =>
    (ulose_any (hW0.below hb)).mono fun r w' ⟨v, h1, h2, h3⟩ => ⟨v, h1, h2.up (Nat.le_trans hbW.size hb.size), Mvu.ahead (hbW.trans (hb.mono hbW.size)) h3⟩
  have HS : Hid (∀ w1, Below W.heap.size W w1 → Mvu w w1 C D G s) := fun w1 hb => h.same (hbW.trans (hb.mono hbW.size))
  have hf := hW0.fz
  have HQ : Hid (∀ w1, Below W.heap.size W w1 → Um.Ok (Um.has s ai false 0 0) → Mvu w ((((w1.setCell ⟨C, 2, none⟩ (.int .i64 ai)).setCell ⟨C, 3, none⟩ (.bool false)).setCell ⟨C, 4, none⟩ (.int .i64 0)).setCell ⟨C, 5, none⟩ (.int .i64 0)) C D G (Um.has s ai false 0 0)) := fun w1 hb hk =>
    Mvu.ahead (hbW.trans (hb.mono hbW.size)) ((hW0.below hb).set hk)
  have HU : Hid (Us W C D G s) := hW0
  have hnC : ¬ w.heap.size = C := by have := h.lt; omega
  have HK : Hid (∀ w1, Calls Try.prog 50 #[.int .i64 ai] w1 fun r w' => r = .returned (.int .i64 (Am.kind ai)) ∧ w' = w1) := fun w1 => (kind_any ai w1).mono fun r w' h => ⟨h.1, h.2.symm⟩
  have hk := kind_is_au ai
  clear hbW hW0
  have HG : Hid (Um.assigned s ri ai = if Um.mine s ri ai then (Um.has s ai false 0 0, [Um.tell 5 0, Um.tell 1 ai]) else if Um.gone s ai then (Um.idle s, Um.loseE s) else (s, [])) := rfl
  have HMi : Hid (Um.mine s ri ai = (s.asks && (decide (ri = s.ri) && decide (64 ≤ ai ∧ ai ≤ 126)))) := rfl
  have HGo : Hid (Um.gone s ai = (decide (s.tei ≠ -1) && decide (ai = s.tei))) := rfl
  have HOk : Hid (Um.mine s ri ai = true → Um.Ok (Um.has s ai false 0 0)) := by
    intro hm
    have := Um.assigned_ok h.ok ri ai
    unfold Um.assigned at this
    rw [if_pos hm] at this
    exact this
  clear h
  cases ha : s.asks with
  | false =>
    have hmi : Um.mine s ri ai = false := by rw [HMi.out, ha]; rfl
    rw [ha] at c3
    clear ha HQ hf HK hk HU
    by_cases ht : s.tei = -1
    · have HN : Hid (Um.assigned s ri ai = (s, [])) := by
        show _ = _
        rw [HG.out, hmi, if_neg (by decide), HGo.out]
        rw [show decide (s.tei ≠ -1) = false from by simp [ht]]
        rfl
      rw [show decide (s.tei ≠ -1) = false from by simp [ht]] at HH
      clear ht HGo HMi HG hmi HOk
      generalize s.tei = tt at *
      go_enter Try.func38, Try.ntmps38
      go_wp2_with fail
      rw [← hW]
      clear hW
      go_quiet (fail)
      all_goals
        go_wp2_with fail
        go_quiet (first | (go_at_call 32; refine quiet_more (HH.out _ ?_); exact udrewN_blw (Below.refl _ _) _))
        all_goals
          go_wp2
          go_ret
          rw [HN.out]
          exact ⟨_, rfl, uout_nil _ _, HS.out _ (by first | exact udrewN_blw (Below.refl _ _) _ | exact udrewN_blw (udrewN_blw (Below.refl _ _) _) _)⟩
    · by_cases he : ai ≠ s.tei
      · have HN : Hid (Um.assigned s ri ai = (s, [])) := by
          show _ = _
          rw [HG.out, hmi, if_neg (by decide), HGo.out, decide_eq_false he, Bool.and_false]
          rfl
        rw [show decide (s.tei ≠ -1) = true from by simp [ht]] at HH
        have hee : (ai == s.tei) = false := by simp; exact he
        clear ht HGo HMi HG hmi HOk he
        generalize s.tei = tt at *
        go_enter Try.func38, Try.ntmps38
        go_wp2_with fail
        rw [← hW]
        clear hW
        go_quiet (fail)
        all_goals
          go_wp2_with fail
          go_quiet (first | (go_at_call 32; refine quiet_more (HH.out _ ?_); exact udrewN_blw (Below.refl _ _) _))
          all_goals
            go_wp2
            go_ret
            rw [HN.out]
            exact ⟨_, rfl, uout_nil _ _, HS.out _ (by first | exact udrewN_blw (Below.refl _ _) _ | exact udrewN_blw (udrewN_blw (Below.refl _ _) _) _)⟩
      · replace he : ai = s.tei := Decidable.of_not_not he
        have HN : Hid (Um.assigned s ri ai = (Um.idle s, Um.loseE s)) := by
          show _ = _
          rw [HG.out, hmi, if_neg (by decide), HGo.out, decide_eq_true he]
          rw [show decide (s.tei ≠ -1) = true from by simp [ht]]
          rfl
        rw [show decide (s.tei ≠ -1) = true from by simp [ht]] at HH
        have hee : (ai == s.tei) = true := by simp; exact he
        clear ht HGo HMi HG hmi HOk he
        generalize s.tei = tt at *
        go_enter Try.func38, Try.ntmps38
        go_wp2_with fail
        rw [← hW]
        clear hW
        go_quiet (fail)
        all_goals
          go_wp2_with fail
          go_quiet (first | (go_at_call 32; refine quiet_more (HH.out _ ?_); exact udrewN_blw (Below.refl _ _) _))
          all_goals
            go_wp2_with fail
            refine (HL.out _ (by first | exact udrewN_blw (Below.refl _ _) _ | exact udrewN_blw (udrewN_blw (Below.refl _ _) _) _)).mono ?_
            rintro r w5 ⟨v, rfl, ho, hm⟩
            have HO : Hid (UOut w.heap.size w5 v (Um.loseE s)) := ho
            have HM5 : Hid (Mvu w w5 C D G (Um.idle s)) := hm
            clear ho hm
            go_wp2
            go_ret
            rw [HN.out]
            exact ⟨_, rfl, HO.out, HM5.out⟩
  | true =>
    rw [ha] at c3
    by_cases hr : ri = s.ri
    · by_cases hau : 64 ≤ ai ∧ ai ≤ 126
      · have hmi : Um.mine s ri ai = true := by rw [HMi.out, ha, decide_eq_true hr, decide_eq_true hau]; rfl
        have HN : Hid (Um.assigned s ri ai = (Um.has s ai false 0 0, [Um.tell 5 0, Um.tell 1 ai])) := by
          show _ = _
          rw [HG.out, hmi, if_pos rfl]
        rw [decide_eq_true hau] at hk
        have hok := HOk.out hmi
        have hrr : (s.ri == s.ri) = true := by simp
        subst hr
        have f2 := hf 2 (by decide)
        have f3 := hf 3 (by decide)
        have f4 := hf 4 (by decide)
        have f5 := hf 5 (by decide)
        have c5 := HU.out.c5
        have HW2 : Hid (∀ w1, Below W.heap.size W w1 → Mvu w ((((w1.setCell ⟨C, 2, none⟩ (.int .i64 ai)).setCell ⟨C, 3, none⟩ (.bool false)).setCell ⟨C, 4, none⟩ (.int .i64 0)).setCell ⟨C, 5, none⟩ (.int .i64 0)) C D G (Um.has s ai false 0 0)) := fun w1 hb => HQ.out w1 hb hok
        generalize s.ri = rr at *
        generalize s.tei = tt at *
        generalize s.tries = qq at *
        generalize Am.kind ai = ki at *
        clear ha hau HMi HGo HG hmi HOk hok HQ HH HL HS hf HU
        go_enter Try.func38, Try.ntmps38
        go_wp2_with fail
        rw [← hW]
        clear hW
        go_quiet (first | (go_at_call 50; refine Calls.quiet_of_same (HK.out _)))
        all_goals
          go_wp2
          go_ret
          rw [HN.out]
          refine ⟨_, rfl, ?_, (HW2.out _ (udrewN_blw (Below.refl _ _) nq)).then ((Below.refl _ _).alloc (Nat.le_refl _) _)⟩
          have hO := uout_made (b := w.heap.size) (((((W.drewN nq).setCell ⟨C, 2, none⟩ (.int .i64 ai)).setCell ⟨C, 3, none⟩ (.bool false)).setCell ⟨C, 4, none⟩ (.int .i64 0)).setCell ⟨C, 5, none⟩ (.int .i64 0)) [Um.tell 5 0, Um.tell 1 ai] (HW2.out _ (udrewN_blw (Below.refl _ _) nq)).2.size rfl (by simp)
          rw [show (((((W.drewN nq).setCell ⟨C, 2, none⟩ (.int .i64 ai)).setCell ⟨C, 3, none⟩ (.bool false)).setCell ⟨C, 4, none⟩ (.int .i64 0)).setCell ⟨C, 5, none⟩ (.int .i64 0)).heap.size = W.heap.size from by simp] at hO
          exact hO
      · have hmi : Um.mine s ri ai = false := by rw [HMi.out, ha, decide_eq_true hr, decide_eq_false hau]; rfl
        rw [decide_eq_false hau] at hk
        have hrr : (s.ri == s.ri) = true := by simp
        subst hr
        generalize Am.kind ai = ki at *
        clear ha hau HQ hf HU
        by_cases ht : s.tei = -1
        · have HN : Hid (Um.assigned s s.ri ai = (s, [])) := by
            show _ = _
            rw [HG.out, hmi, if_neg (by decide), HGo.out]
            rw [show decide (s.tei ≠ -1) = false from by simp [ht]]
            rfl
          rw [show decide (s.tei ≠ -1) = false from by simp [ht]] at HH
          clear ht HGo HMi HG hmi HOk
          generalize s.tei = tt at *
          go_enter Try.func38, Try.ntmps38
          go_wp2_with fail
          rw [← hW]
          clear hW
          go_quiet (first | (go_at_call 50; refine Calls.quiet_of_same (HK.out _)))
          all_goals
            go_wp2_with fail
            go_quiet (first | (go_at_call 32; refine quiet_more (HH.out _ ?_); exact udrewN_blw (Below.refl _ _) _))
            all_goals
              go_wp2
              go_ret
              rw [HN.out]
              exact ⟨_, rfl, uout_nil _ _, HS.out _ (by first | exact udrewN_blw (Below.refl _ _) _ | exact udrewN_blw (udrewN_blw (Below.refl _ _) _) _)⟩
        · by_cases he : ai ≠ s.tei
          · have HN : Hid (Um.assigned s s.ri ai = (s, [])) := by
              show _ = _
              rw [HG.out, hmi, if_neg (by decide), HGo.out, decide_eq_false he, Bool.and_false]
              rfl
            rw [show decide (s.tei ≠ -1) = true from by simp [ht]] at HH
            have hee : (ai == s.tei) = false := by simp; exact he
            clear ht HGo HMi HG hmi HOk he
            generalize s.tei = tt at *
            go_enter Try.func38, Try.ntmps38
            go_wp2_with fail
            rw [← hW]
            clear hW
            go_quiet (first | (go_at_call 50; refine Calls.quiet_of_same (HK.out _)))
            all_goals
              go_wp2_with fail
              go_quiet (first | (go_at_call 32; refine quiet_more (HH.out _ ?_); exact udrewN_blw (Below.refl _ _) _))
              all_goals
                go_wp2
                go_ret
                rw [HN.out]
                exact ⟨_, rfl, uout_nil _ _, HS.out _ (by first | exact udrewN_blw (Below.refl _ _) _ | exact udrewN_blw (udrewN_blw (Below.refl _ _) _) _)⟩
          · replace he : ai = s.tei := Decidable.of_not_not he
            have HN : Hid (Um.assigned s s.ri ai = (Um.idle s, Um.loseE s)) := by
              show _ = _
              rw [HG.out, hmi, if_neg (by decide), HGo.out, decide_eq_true he]
              rw [show decide (s.tei ≠ -1) = true from by simp [ht]]
              rfl
            rw [show decide (s.tei ≠ -1) = true from by simp [ht]] at HH
            have hee : (ai == s.tei) = true := by simp; exact he
            clear ht HGo HMi HG hmi HOk he
            generalize s.tei = tt at *
            go_enter Try.func38, Try.ntmps38
            go_wp2_with fail
            rw [← hW]
            clear hW
            go_quiet (first | (go_at_call 50; refine Calls.quiet_of_same (HK.out _)))
            all_goals
              go_wp2_with fail
              go_quiet (first | (go_at_call 32; refine quiet_more (HH.out _ ?_); exact udrewN_blw (Below.refl _ _) _))
              all_goals
                go_wp2_with fail
                refine (HL.out _ (by first | exact udrewN_blw (Below.refl _ _) _ | exact udrewN_blw (udrewN_blw (Below.refl _ _) _) _)).mono ?_
                rintro r w5 ⟨v, rfl, ho, hm⟩
                have HO : Hid (UOut w.heap.size w5 v (Um.loseE s)) := ho
                have HM5 : Hid (Mvu w w5 C D G (Um.idle s)) := hm
                clear ho hm
                go_wp2
                go_ret
                rw [HN.out]
                exact ⟨_, rfl, HO.out, HM5.out⟩
    · have hmi : Um.mine s ri ai = false := by rw [HMi.out, ha, decide_eq_false hr]; rfl
      have hrr : (ri == s.ri) = false := by simp; exact hr
      clear ha hr HQ hf HK hk HU
      by_cases ht : s.tei = -1
      · have HN : Hid (Um.assigned s ri ai = (s, [])) := by
          show _ = _
          rw [HG.out, hmi, if_neg (by decide), HGo.out]
          rw [show decide (s.tei ≠ -1) = false from by simp [ht]]
          rfl
        rw [show decide (s.tei ≠ -1) = false from by simp [ht]] at HH
        clear ht HGo HMi HG hmi HOk
        generalize s.tei = tt at *
        go_enter Try.func38, Try.ntmps38
        go_wp2_with fail
        rw [← hW]
        clear hW
        go_quiet (fail)
        all_goals
          go_wp2_with fail
          go_quiet (first | (go_at_call 32; refine quiet_more (HH.out _ ?_); exact udrewN_blw (Below.refl _ _) _))
          all_goals
            go_wp2
            go_ret
            rw [HN.out]
            exact ⟨_, rfl, uout_nil _ _, HS.out _ (by first | exact udrewN_blw (Below.refl _ _) _ | exact udrewN_blw (udrewN_blw (Below.refl _ _) _) _)⟩
      · by_cases he : ai ≠ s.tei
        · have HN : Hid (Um.assigned s ri ai = (s, [])) := by
            show _ = _
            rw [HG.out, hmi, if_neg (by decide), HGo.out, decide_eq_false he, Bool.and_false]
            rfl
          rw [show decide (s.tei ≠ -1) = true from by simp [ht]] at HH
          have hee : (ai == s.tei) = false := by simp; exact he
          clear ht HGo HMi HG hmi HOk he
          generalize s.tei = tt at *
          go_enter Try.func38, Try.ntmps38
          go_wp2_with fail
          rw [← hW]
          clear hW
          go_quiet (fail)
          all_goals
            go_wp2_with fail
            go_quiet (first | (go_at_call 32; refine quiet_more (HH.out _ ?_); exact udrewN_blw (Below.refl _ _) _))
            all_goals
              go_wp2
              go_ret
              rw [HN.out]
              exact ⟨_, rfl, uout_nil _ _, HS.out _ (by first | exact udrewN_blw (Below.refl _ _) _ | exact udrewN_blw (udrewN_blw (Below.refl _ _) _) _)⟩
        · replace he : ai = s.tei := Decidable.of_not_not he
          have HN : Hid (Um.assigned s ri ai = (Um.idle s, Um.loseE s)) := by
            show _ = _
            rw [HG.out, hmi, if_neg (by decide), HGo.out, decide_eq_true he]
            rw [show decide (s.tei ≠ -1) = true from by simp [ht]]
            rfl
          rw [show decide (s.tei ≠ -1) = true from by simp [ht]] at HH
          have hee : (ai == s.tei) = true := by simp; exact he
          clear ht HGo HMi HG hmi HOk he
          generalize s.tei = tt at *
          go_enter Try.func38, Try.ntmps38
          go_wp2_with fail
          rw [← hW]
          clear hW
          go_quiet (fail)
          all_goals
            go_wp2_with fail
            go_quiet (first | (go_at_call 32; refine quiet_more (HH.out _ ?_); exact udrewN_blw (Below.refl _ _) _))
            all_goals
              go_wp2_with fail
              refine (HL.out _ (by first | exact udrewN_blw (Below.refl _ _) _ | exact udrewN_blw (udrewN_blw (Below.refl _ _) _) _)).mono ?_
              rintro r w5 ⟨v, rfl, ho, hm⟩
              have HO : Hid (UOut w.heap.size w5 v (Um.loseE s)) := ho
              have HM5 : Hid (Mvu w w5 C D G (Um.idle s)) := hm
              clear ho hm
              go_wp2
              go_ret
              rw [HN.out]
              exact ⟨_, rfl, HO.out, HM5.out⟩
end
end Go.Proofs.Ytdnhcpkpajbhoaa
