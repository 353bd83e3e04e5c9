/-
  The walks of a source's assign and Message, of New, and of a nil source.
-/
import Derived.Test.YtdnhcpkpajbhoabSrcDraw
import Derived.BigRegion
import Derived.Deep.DeepCutAuto
namespace Go.Proofs.Ytdnhcpkpajbhoab
open Go.RowKit
set_option linter.unusedVariables false
set_option linter.unusedSimpArgs false
set_option maxRecDepth 100000

theorem sassign_any (C P M : Nat) (s : Zm.St) (ty ri ai : Int) (w : World) (h : Sr w C P M s) :
    Calls Try.prog 40 #[.pointer (some ⟨C, 0, none⟩), .agg #[.int .i64 ty, .int .i64 ri, .int .i64 ai]] w fun r w' => ∃ v, r = .returned v ∧ Out w.heap.size w' v (Zm.assign s ri ai).2 ∧ Mvs w w' C P M (Zm.assign s ri ai).1 := by
  have HS : Hid (∀ w', Below w.heap.size w w' → Sr w' C P M s) := fun w' hb => h.below hb
  have hlt := h.lt
  have HL : Hid (Low w C P M) := h.low
  have HOK : Hid (Zm.Ok s) := h.ok
  obtain ⟨W, hW⟩ : ∃ W, W = w.alloc (.cells #[.int .i64 ty, .int .i64 ri, .int .i64 ai] 51) := ⟨_, rfl⟩
  have hbW : Below w.heap.size w W := by rw [hW]; exact (Below.refl _ _).alloc (Nat.le_refl _) _
  have hWs : W.heap.size = w.heap.size + 1 := by rw [hW]; simp
  have m0 : W.cell? ⟨w.heap.size, 1, none⟩ = some (.int .i64 ri) := by rw [hW]; simp
  have m1 : W.cell? ⟨w.heap.size, 2, none⟩ = some (.int .i64 ai) := by rw [hW]; simp
  have HBW : Hid (Below w.heap.size w W) := hbW
  clear h hbW
  by_cases hai : ai = 127
  · subst hai
    by_cases hA : Pm.asE s.f s.nx = 0
    · have HN : Hid (Zm.assign s ri 127 = (Zm.grant s, [Zm.say 2 ri (Pm.asT s.f s.nx), Zm.tell 1 (Pm.asT s.f s.nx)])) := by
        show _ = _
        unfold Zm.assign
        rw [if_neg (fun hx => hx rfl), if_pos hA]
      have HPA : Hid (∀ w1, Below w.heap.size w w1 → Calls Try.prog 60 #[.pointer (some ⟨P, 0, none⟩)] w1 fun e w' => e = .returned (.tuple #[.int .i64 (Pm.asT s.f s.nx), .int .i64 0]) ∧ Mvs w w' C P M (Zm.grant s) ∧ Kept w1 w' (fun k => k = P)) := fun w1 hb => by
        have hs1 := HS.out w1 hb
        have := passign_any P s.nx s.f w1 hs1.pl
        rw [hA] at this
        refine this.mono ?_
        rintro e w' ⟨he, hp, hk⟩
        exact ⟨he, Mvs.ahead hb (hs1.pool hp hk rfl rfl (Zm.grant_ok HOK.out)), hk⟩
      generalize Pm.asT s.f s.nx = t at HN HPA
      clear hA
      go_enter Try.func40, Try.ntmps40
      go_wp2_with fail
      rw [← hW]
      refine (send_any 3 ri 127 W).mono ?_
      rintro r w1 ⟨rfl, hb⟩
      have hb1 : Below w.heap.size w w1 := HBW.out.trans (hb.mono HBW.out.size)
      have n0 := (hb.cell (p := ⟨w.heap.size, 1, none⟩) (by show w.heap.size < W.heap.size; omega)).trans m0
      have n1 := (hb.cell (p := ⟨w.heap.size, 2, none⟩) (by show w.heap.size < W.heap.size; omega)).trans m1
      have hl1 : w.heap.size < w1.heap.size := by have := hb.size; omega
      have c0 := (HS.out w1 hb1).c0
      have hlt1 := (HS.out w1 hb1).lt
      have HB1 : Hid (Below w.heap.size w w1) := hb1
      clear hb hb1 m0 m1 hW
      go_wp2_with fail
      refine (HPA.out _ (HB1.out.alloc HB1.out.size _)).mono ?_
      rintro r w2 ⟨rfl, hm, hk⟩
      have hPn : ¬ w.heap.size = P := by have := HL.out.2.1; omega
      have n0' := hk.cell (p := ⟨w.heap.size, 1, none⟩) (by simp; omega) hPn
      have n0'' : w2.cell? ⟨w.heap.size, 1, none⟩ = some (.int .i64 ri) := by
        rw [n0']
        exact (Below.cell ((Below.refl w1.heap.size w1).alloc (Nat.le_refl _) _) (p := ⟨w.heap.size, 1, none⟩) hl1).trans n0
      have hl2 : w.heap.size < w2.heap.size := by have := hk.size; simp at this; omega
      have HM2 : Hid (Mvs w w2 C P M (Zm.grant s)) := hm
      clear hm hk n0' HPA n0 n1 hPn c0
      go_wp2_with fail
      refine (send_any 2 ri t w2).mono ?_
      rintro r w3 ⟨rfl, hb3⟩
      have HM3 : Hid (Mvs w w3 C P M (Zm.grant s)) := HM2.out.then hb3
      clear hb3 HM2
      go_wp2
      go_ret
      rw [HN.out]
      exact ⟨_, rfl, out_made w3 [Zm.say 2 ri t, Zm.tell 1 t] HM3.out.2.size rfl (by simp), HM3.out.then ((Below.refl _ _).alloc (Nat.le_refl _) _)⟩
    · have HN : Hid (Zm.assign s ri 127 = (Zm.audit s, Zm.say 3 ri 127 :: Zm.auditE s)) := by
        show _ = _
        unfold Zm.assign
        rw [if_neg (fun hx => hx rfl), if_neg hA]
      have hX : Pm.asE s.f s.nx = 10 ∧ Pm.asF s.f s.nx = s.f ∧ Pm.asX s.f s.nx = s.nx := by
        rcases Pm.as_ways s.f s.nx HOK.out.nx with ⟨_, _, e1, e2, e3⟩ | ⟨p, _, _, _, e, _⟩
        · exact ⟨e1, e2, e3⟩
        · exact absurd e hA
      have HPA : Hid (∀ w1, Below w.heap.size w w1 → Calls Try.prog 60 #[.pointer (some ⟨P, 0, none⟩)] w1 fun e w' => e = .returned (.tuple #[.int .i64 (Pm.asT s.f s.nx), .int .i64 10]) ∧ Mvs w w' C P M s ∧ Kept w1 w' (fun k => k = P)) := fun w1 hb => by
        have hs1 := HS.out w1 hb
        have := passign_any P s.nx s.f w1 hs1.pl
        rw [hX.1, hX.2.1, hX.2.2] at this
        refine this.mono ?_
        rintro e w' ⟨he, hp, hk⟩
        exact ⟨he, Mvs.ahead hb (hs1.pool hp hk rfl rfl HOK.out), hk⟩
      generalize Pm.asT s.f s.nx = t at HPA
      clear hA hX
      go_enter Try.func40, Try.ntmps40
      go_wp2_with fail
      rw [← hW]
      refine (send_any 3 ri 127 W).mono ?_
      rintro r w1 ⟨rfl, hb⟩
      have hb1 : Below w.heap.size w w1 := HBW.out.trans (hb.mono HBW.out.size)
      have n0 := (hb.cell (p := ⟨w.heap.size, 1, none⟩) (by show w.heap.size < W.heap.size; omega)).trans m0
      have n1 := (hb.cell (p := ⟨w.heap.size, 2, none⟩) (by show w.heap.size < W.heap.size; omega)).trans m1
      have hl1 : w.heap.size < w1.heap.size := by have := hb.size; omega
      have c0 := (HS.out w1 hb1).c0
      have hlt1 := (HS.out w1 hb1).lt
      have HB1 : Hid (Below w.heap.size w w1) := hb1
      clear hb hb1 m0 m1 hW
      obtain ⟨W2, hW2⟩ : ∃ W2, W2 = w1.alloc (.cells #[.int .i64 0, .int .i64 3, .int .i64 ri, .int .i64 127, .int .i64 0] 53) := ⟨_, rfl⟩
      have hbW2 : Below w1.heap.size w1 W2 := by rw [hW2]; exact (Below.refl _ _).alloc (Nat.le_refl _) _
      have hz2 : W2.heap.size = w1.heap.size + 1 := by rw [hW2]; simp
      have q : ∀ j u, #[Value.int .i64 0, .int .i64 3, .int .i64 ri, .int .i64 127, .int .i64 0][j]? = some u → W2.cell? ⟨w1.heap.size, j, none⟩ = some u := by
        intro j u hj
        rw [hW2]
        exact (cell_of_row _ w1.heap.size j _ _ _ (heap_alloc_new w1 _)).trans hj
      go_wp2_with fail
      rw [← hW2]
      refine (HPA.out W2 (HB1.out.trans (hbW2.mono HB1.out.size))).mono ?_
      rintro r w2 ⟨rfl, hm, hk⟩
      have hPn : ¬ w1.heap.size = P := by have := HL.out.2.1; omega
      have q' : ∀ j u, #[Value.int .i64 0, .int .i64 3, .int .i64 ri, .int .i64 127, .int .i64 0][j]? = some u → w2.cell? ⟨w1.heap.size, j, none⟩ = some u := fun j u hj => (hk.cell (p := ⟨w1.heap.size, j, none⟩) (by show w1.heap.size < W2.heap.size; omega) hPn).trans (q j u hj)
      have z0 := q' 0 _ rfl
      have z1 := q' 1 _ rfl
      have z2 := q' 2 _ rfl
      have z3 := q' 3 _ rfl
      have z4 := q' 4 _ rfl
      have hl2 : w1.heap.size < w2.heap.size := by have := hk.size; omega
      have HM2 : Hid (Mvs w w2 C P M s) := hm
      clear hm hk q q' n0 n1 hPn c0 hW2 hbW2 HPA hz2
      simp at z0 z1 z2 z3 z4
      have HZ : Hid (∀ w', Below w2.heap.size w2 w' → DrJ w C P M w1.heap.size s (Zm.say 3 ri 127) (undef, undef, undef) (Array.replicate 6 false) w') := fun w' hb => by
        have hc : ∀ j u, w2.cell? ⟨w1.heap.size, j, none⟩ = some u → w'.cell? ⟨w1.heap.size, j, none⟩ = some u := fun j u hu => (hb.cell (p := ⟨w1.heap.size, j, none⟩) hl2).trans hu
        refine ⟨?_, Nat.lt_of_lt_of_le hl2 hb.size, hc 0 _ z0, hc 1 _ z1, hc 2 _ z2, hc 3 _ z3, hc 4 _ z4, ?_, ?_, ?_, ?_, ?_⟩
        · rw [rep_getD']; exact HM2.out.then hb
        all_goals rw [rep_getD']
        · intro x; exact absurd x (by decide)
        · intro x; exact absurd x (by decide)
        · intro _ x; rw [rep_getD'] at x; exact absurd x (by decide)
        · intro _ x; rw [rep_getD'] at x; exact absurd x (by decide)
        · intro x; exact absurd x (by decide)
      have hwB : w.heap.size ≤ w1.heap.size := by omega
      clear z0 z1 z2 z3 z4 HM2
      go_upto_region 6 with fail
      refine region_grow (by kernel_rfl) 6 rfl drwD (drwV C (Zm.say 3 ri 127)) drwD_inj ?hd ?hlow (DrJ w C P M w1.heap.size s (Zm.say 3 ri 127)) (undef, undef, undef) ?h0 ?hstep ?hdone
      case hd => exact drwD_lt
      case hlow => kernel_rfl
      case h0 => exact HZ.out _ (Below.refl _ _).drew
      case hstep =>
        intro b l fa wz k hk0 hls hJ hr hK
        have s5 : fa.eval (.tmp 5) = .pointer (some ⟨w1.heap.size, 0, none⟩) := hK.rest 5 (by decide)
        have s0 : fa.eval (.tmp 0) = .pointer (some ⟨C, 0, none⟩) := hK.rest 0 (by decide)
        have got : ∀ j, j ∈ depsOf .any _ k → ∀ d, drwD j = some d → j < 6 → fa.eval (.tmp d) = drwV C (Zm.say 3 ri 127) b j := fun j hj d hd hj' => hK.got j d hj' (ready_deps hr j hj) hd
        match k, hk0, hr, got with
        | 0, _, hr, got => exact grow_val b b rfl (wanted_none rfl) (runz_ld rfl s5 hJ.c0 hJ.c1 hJ.c2 hJ.c3 hJ.c4) rfl (fun _ _ _ => rfl) (hJ.same (by decide) (by decide) (by decide) (fun x => absurd x (by decide)))
        | 1, _, hr, got =>
          obtain ⟨x1, x2⟩ := hJ.build hr
          exact grow_val b _ rfl (wanted_none rfl) (runz_bs rfl (got 0 (by decide) 28 rfl (by decide)) wz) rfl x1 x2
        | 2, _, hr, got => exact grow_val b b rfl (wanted_none rfl) (runw_move rfl s0 wz) rfl (fun _ _ _ => rfl) (hJ.same (by decide) (by decide) (by decide) (fun x => absurd x (by decide)))
        | 3, _, hr, got =>
          obtain ⟨x1, x2⟩ := hJ.audit (v := undef) HL.out hwB hr
          refine gr_call b rfl (wanted_none rfl) (runz_call rfl rfl (got 2 (by decide) 30 rfl (by decide)) wz) rfl ((saudit_any C P M s wz x1).mono ?_)
          rintro r w' ⟨v, rfl, h1, h2⟩
          exact ⟨(b.1, v, b.2.2), rfl, x2 v w' h1 h2⟩
        | 4, _, hr, got =>
          obtain ⟨v, w2', hrun, x1, x2⟩ := hJ.app HL.out (ready_deps hr 1 (by decide)) (ready_deps hr 3 (by decide)) hr
          exact grow_val b (b.1, b.2.1, v) rfl (wanted_none rfl) (runz_app rfl (got 1 (by decide) 29 rfl (by decide)) (got 3 (by decide) 31 rfl (by decide)) hrun) rfl x1 x2
        | 5, _, hr, got => exact grow_val b b rfl (wanted_none rfl) (runw_assign rfl (got 4 (by decide) 32 rfl (by decide)) wz) rfl (fun _ _ _ => rfl) (hJ.same (by decide) (by decide) (by decide) (fun _ => ready_deps hr 4 (by decide)))
        | j + 6, hlt, _, _ => exact absurd hlt (by omega)
      case hdone =>
        rintro ⟨v1, v2, v3⟩ l wd hall hJ
        have h3 := hJ.mv
        rw [hall 3 (by decide)] at h3
        have HMd : Hid (Mvs w wd C P M (Zm.audit s)) := h3
        have HOd : Hid (Out w.heap.size wd v3 ([Zm.say 3 ri 127] ++ Zm.auditE s)) := hJ.r3 (hall 4 (by decide))
        clear hall hJ h3 HZ
        simp only [putsOf, drwD, drwV, Act.put, List.setIfInBounds_toArray, List.set_cons_zero, List.set_cons_succ]
        go_wp2
        go_ret
        rw [HN.out]
        exact ⟨_, rfl, HOd.out, HMd.out⟩
  · have HN : Hid (Zm.assign s ri ai = (s, [Zm.say 3 ri ai])) := by
      show _ = _
      unfold Zm.assign
      rw [if_pos hai]
    have hne : (!(ai == 127)) = true := by simp; exact hai
    go_enter Try.func40, Try.ntmps40
    go_wp2_with fail
    rw [← hW]
    refine (send_any 3 ri ai W).mono ?_
    rintro r w1 ⟨rfl, hb⟩
    have hb1 : Below w.heap.size w w1 := HBW.out.trans (hb.mono HBW.out.size)
    have n1 := (hb.cell (p := ⟨w.heap.size, 2, none⟩) (by show w.heap.size < W.heap.size; omega)).trans m1
    have hl1 : w.heap.size < w1.heap.size := by have := hb.size; omega
    have HB1 : Hid (Below w.heap.size w w1) := hb1
    clear hb hb1 m0 m1 hW
    go_wp2
    go_ret
    rw [HN.out]
    have hb' := (HB1.out.alloc HB1.out.size (.cells #[.int .i64 0, .int .i64 3, .int .i64 ri, .int .i64 ai, .int .i64 0] 53))
    have ho := out_made (b := w.heap.size) (w1.alloc (.cells #[.int .i64 0, .int .i64 3, .int .i64 ri, .int .i64 ai, .int .i64 0] 53)) [Zm.say 3 ri ai] hb'.size rfl (by simp)
    rw [World.size_alloc] at ho
    have hb2 := hb'.alloc hb'.size (.cells #[.int .i64 0, .int .i64 3, .int .i64 ri, .int .i64 ai, .int .i64 0] 53)
    exact ⟨_, rfl, ho, HS.out _ hb2, Kept.of_below hb2 (fun k hk h' => by omega)⟩
end Go.Proofs.Ytdnhcpkpajbhoab
