/-
  The walks of a source's Check, Remove, Timeout, List, Audit, answer, verify.
-/
import Derived.Test.YtdnhcpkpajbhoabSrcRemove
import Derived.Test.YtdnhcpkpajbhoabPoolList
namespace Go.Proofs.Ytdnhcpkpajbhoab
open Go.RowKit
set_option linter.unusedVariables false
set_option linter.unusedSimpArgs false
set_option maxRecDepth 100000

theorem chk_yes {s : Zm.St} {t : Int} (hu : Zm.under s t = true) : ∃ p : Nat, p < 63 ∧ t = 64 + (p : Int) ∧ Pm.at' t = p ∧ 0 < s.a p ∧ chkV s t = .agg #[.int .i64 t, .int .i64 (s.a p), .int .i64 (s.n p)] := by
  obtain ⟨p, hp, ep, ep2, hap⟩ := Zm.under_yes hu
  exact ⟨p, hp, ep, ep2, hap, by unfold chkV; rw [hu, if_pos rfl, ep2]; rfl⟩
theorem chk_no {s : Zm.St} {t : Int} (hu : Zm.under s t = false) : chkV s t = .agg #[.int .i64 0, .int .i64 0, .int .i64 0] := by
  unfold chkV; rw [hu, if_neg (by decide)]; rfl

theorem scheck_any (C P M : Nat) (s : Zm.St) (t : Int) (w : World) (h : Sr w C P M s) :
    Calls Try.prog 15 #[.pointer (some ⟨C, 0, none⟩), .int .i64 t] w fun r w' => ∃ v, r = .returned (.tuple #[v, .int .i64 (Zm.checkN s t)]) ∧ Out w.heap.size w' v (Zm.check s t).2 ∧ Mvs w w' C P M (Zm.check s t).1 := by
  have HM := smade_any C P M s w h
  have c0 := h.c0
  have c1 := h.c1
  have hlt := h.lt
  have HH := phas_any P s.nx s.f t w h.pl
  cases hh : Pm.has s.f t with
  | false =>
    rw [hh] at HH
    have HN : Hid (Zm.checkN s t = 11) := by show _ = _; unfold Zm.checkN; rw [hh, if_neg (by decide)]
    have HC : Hid (Zm.check s t = (s, [])) := by show _ = _; unfold Zm.check; rw [HN.out, if_neg (by decide)]
    have HS : Hid (Mvs w w C P M s) := h.same (Below.refl _ _)
    clear h hh
    go_enter Try.func15, Try.ntmps15
    go_wp2_with fail
    refine HM.mono ?_
    rintro r w1 ⟨rfl, rfl⟩
    go_wp2_with fail
    refine HH.mono ?_
    rintro r w1 ⟨rfl, rfl⟩
    clear HH HM
    go_wp2
    go_ret2
    rw [HN.out, HC.out]
    exact ⟨_, rfl, out_nil _ _, HS.out⟩
  | true =>
    rw [hh] at HH
    obtain ⟨ha, hf, _⟩ := Pm.fr_ok hh
    obtain ⟨p, hp, rfl, hat⟩ := Pm.au_place ha
    rw [hat] at hf
    have hlook := h.ch.look (in_place p hp)
    cases hu : Zm.under s (64 + (p : Int)) with
    | true =>
      obtain ⟨q, hq, _, _, _, hcv⟩ := chk_yes hu
      rw [hu, hcv] at hlook
      generalize (s.a q : Int) = aa at hlook
      generalize (s.n q : Int) = nn at hlook
      have HN : Hid (Zm.checkN s (64 + (p : Int)) = 13) := by show _ = _; unfold Zm.checkN; rw [hh, hu, if_pos rfl, if_pos rfl]
      have HC : Hid (Zm.check s (64 + (p : Int)) = (s, [])) := by show _ = _; unfold Zm.check; rw [HN.out, if_neg (by decide)]
      have HS : Hid (∀ w', Below w.heap.size w w' → Mvs w w' C P M s) := fun w' hb => h.same hb
      obtain ⟨t, ht⟩ : ∃ t : Int, t = 64 + (p : Int) := ⟨_, rfl⟩
      rw [← ht] at HN HC HH hlook ⊢
      clear h hh hu hcv hf hat ha ht
      go_enter Try.func15, Try.ntmps15
      go_wp2_with fail
      refine HM.mono ?_
      rintro r w1 ⟨rfl, rfl⟩
      go_wp2_with fail
      refine HH.mono ?_
      rintro r w1 ⟨rfl, rfl⟩
      clear HH HM
      go_wp2
      go_ret2
      rw [HN.out, HC.out]
      exact ⟨_, rfl, out_nil _ _, HS.out _ ((Below.refl _ _).alloc (Nat.le_refl _) _)⟩
    | false =>
      rw [hu, chk_no hu] at hlook
      have HN : Hid (Zm.checkN s (64 + (p : Int)) = 0) := by show _ = _; unfold Zm.checkN; rw [hh, hu, if_pos rfl, if_neg (by decide)]
      have HC : Hid (Zm.check s (64 + (p : Int)) = (Zm.setC s p 1 0, Zm.askE (64 + (p : Int)))) := by show _ = _; unfold Zm.check Zm.ask; rw [HN.out, if_pos rfl, hat]
      have HS : Hid (∀ w1, Below w.heap.size w w1 → Calls Try.prog 33 #[.pointer (some ⟨C, 0, none⟩), .int .i64 (64 + (p : Int)), .int .i64 1] w1 fun r w' => ∃ v, r = .returned v ∧ Out w.heap.size w' v (Zm.askE (64 + (p : Int))) ∧ Mvs w w' C P M (Zm.setC s p 1 0)) := fun w1 hb => by
        refine (sask_any C P M p 1 s w1 (h.below hb) hp hf (by decide) (by decide)).mono ?_
        rintro r w' ⟨v, h1, h2, h3⟩
        exact ⟨v, h1, h2.up hb.size, Mvs.ahead hb h3⟩
      obtain ⟨t, ht⟩ : ∃ t : Int, t = 64 + (p : Int) := ⟨_, rfl⟩
      rw [← ht] at HN HC HH HS hlook ⊢
      clear h hh hu hf hat ha ht
      go_enter Try.func15, Try.ntmps15
      go_wp2_with fail
      refine HM.mono ?_
      rintro r w1 ⟨rfl, rfl⟩
      go_wp2_with fail
      refine HH.mono ?_
      rintro r w1 ⟨rfl, rfl⟩
      clear HH HM
      go_wp2_with fail
      refine (HS.out _ ((Below.refl _ _).alloc (Nat.le_refl _) _)).mono ?_
      rintro r w2 ⟨v, rfl, ho, hm⟩
      have HO : Hid (Out w.heap.size w2 v (Zm.askE t)) := ho
      have HM2 : Hid (Mvs w w2 C P M (Zm.setC s p 1 0)) := hm
      clear ho hm HS hlook
      go_wp2
      go_ret2
      rw [HN.out, HC.out]
      exact ⟨_, rfl, HO.out, HM2.out⟩
theorem srem_any (C P M : Nat) (s : Zm.St) (t : Int) (w : World) (h : Sr w C P M s) :
    Calls Try.prog 17 #[.pointer (some ⟨C, 0, none⟩), .int .i64 t] w fun r w' => ∃ v, r = .returned (.tuple #[v, .int .i64 (Zm.removeN t)]) ∧ Out w.heap.size w' v (Zm.removeOp s t).2 ∧ Mvs w w' C P M (Zm.removeOp s t).1 := by
  have HM := smade_any C P M s w h
  have HK := kind_any t w
  have hk := kind_au t
  generalize Am.kind t = k at HK hk
  cases hu : Pm.au t with
  | false =>
    rw [hu] at hk
    have HN : Hid (Zm.removeN t = 2 ∧ Zm.removeOp s t = (s, [])) := ⟨by unfold Zm.removeN; rw [hu, if_neg (by decide)], by unfold Zm.removeOp; rw [hu, if_neg (by decide)]⟩
    have HS : Hid (Mvs w w C P M s) := h.same (Below.refl _ _)
    clear h hu
    go_enter Try.func17, Try.ntmps17
    go_wp2_with fail
    refine HM.mono ?_
    rintro r w1 ⟨rfl, rfl⟩
    go_wp2_with fail
    refine HK.mono ?_
    rintro r w1 ⟨rfl, rfl⟩
    clear HK HM
    go_wp2
    go_ret2
    rw [HN.out.1, HN.out.2]
    exact ⟨_, rfl, out_nil _ _, HS.out⟩
  | true =>
    rw [hu] at hk
    have HN : Hid (Zm.removeN t = 0 ∧ Zm.removeOp s t = (Zm.remove s t, Zm.removeE s t)) := ⟨by unfold Zm.removeN; rw [hu, if_pos rfl], by unfold Zm.removeOp; rw [hu, if_pos rfl]⟩
    have HR := sremove_any C P M s t w h (by obtain ⟨p, hp, e, _⟩ := Pm.au_place hu; rw [e]; exact in_place p hp)
    clear h hu
    go_enter Try.func17, Try.ntmps17
    go_wp2_with fail
    refine HM.mono ?_
    rintro r w1 ⟨rfl, rfl⟩
    go_wp2_with fail
    refine HK.mono ?_
    rintro r w1 ⟨rfl, rfl⟩
    clear HK HM
    go_wp2_with fail
    refine HR.mono ?_
    rintro r w2 ⟨v, rfl, ho, hm⟩
    have HO : Hid (Out w.heap.size w2 v (Zm.removeE s t)) := ho
    have HM2 : Hid (Mvs w w2 C P M (Zm.remove s t)) := hm
    clear ho hm HR
    go_wp2
    go_ret2
    rw [HN.out.1, HN.out.2]
    exact ⟨_, rfl, HO.out, HM2.out⟩
theorem slist_any (C P M : Nat) (s : Zm.St) (w : World) (h : Sr w C P M s) :
    Calls Try.prog 11 #[.pointer (some ⟨C, 0, none⟩)] w fun r w' => ∃ a cap, r = .returned (.slice a (Pm.ct s.f 63) cap) ∧ Lst w w' a cap (Pm.ls s.f 63) := by
  have HM := smade_any C P M s w h
  have c0 := h.c0
  have hlt := h.lt
  have HL := plist_any P s.nx s.f w h.pl
  clear h
  go_enter Try.func11, Try.ntmps11
  go_wp2_with fail
  refine HM.mono ?_
  rintro r w1 ⟨rfl, rfl⟩
  go_wp2_with fail
  refine HL.mono ?_
  rintro r w1 ⟨a, cap, rfl, hl⟩
  have HQ : Hid (Lst w w1 a cap (Pm.ls s.f 63)) := hl
  clear HL HM hl
  go_wp2
  go_ret
  exact ⟨_, _, rfl, HQ.out⟩
end Go.Proofs.Ytdnhcpkpajbhoab
