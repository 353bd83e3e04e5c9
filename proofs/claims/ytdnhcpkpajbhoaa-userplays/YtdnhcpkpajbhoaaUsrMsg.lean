/-
  The walks of a user's Message.
-/
import Derived.Test.YtdnhcpkpajbhoaaUsrGot
import Derived.Deep.RegionWith
namespace Go.Proofs.Ytdnhcpkpajbhoaa
open Go.RowKit
set_option linter.unusedVariables false
set_option linter.unusedSimpArgs false
set_option maxRecDepth 100000

section
variable {w : World} {C D : Nat} {G : Option Nat} {s : Um.St}
set_option maxHeartbeats 4000000 in
theorem umessage_any (ty ri ai : Int) (h : Us w C D G s) :
    Calls Try.prog 20 #[.pointer (some ⟨C, 0, none⟩), .agg #[.int .i64 ty, .int .i64 ri, .int .i64 ai]] w fun r w' => ∃ v, r = .returned v ∧ UOut w.heap.size w' v (Um.message s ty ri ai).2 ∧ Mvu w w' C D G (Um.message s ty ri ai).1 := by
  have HS : Hid (∀ w', Below w.heap.size w w' → Us w' C D G s) := fun w' hb => h.below hb
  obtain ⟨W, hW⟩ : ∃ W, W = w.alloc (.cells #[.int .i64 ty, .int .i64 ri, .int .i64 ai] 51) := ⟨_, rfl⟩
  have hbW : Below w.heap.size w W := by rw [hW]; exact (Below.refl _ _).alloc (Nat.le_refl _) _
  have hWs : W.heap.size = w.heap.size + 1 := by rw [hW]; simp
  have m0 : W.cell? ⟨w.heap.size, 0, none⟩ = some (.int .i64 ty) := by rw [hW]; simp
  have m1 : W.cell? ⟨w.heap.size, 1, none⟩ = some (.int .i64 ri) := by rw [hW]; simp
  have m2 : W.cell? ⟨w.heap.size, 2, none⟩ = some (.int .i64 ai) := by rw [hW]; simp
  have HBW : Hid (Below w.heap.size w W) := hbW
  have HM := umade_any (h.below hbW)
  have HG := ugood_any ty ri ai W
  clear h hbW
  cases hg : Um.good ty ri ai with
  | false =>
    rw [hg] at HG
    have HN : Hid (Um.message s ty ri ai = (s, [])) := by show _ = _; unfold Um.message; rw [hg, if_neg (by decide)]
    clear hg
    go_enter Try.func20, Try.ntmps20
    go_wp2_with fail
    rw [← hW]
    refine HM.mono ?_
    rintro r w1 ⟨rfl, rfl⟩
    clear HM
    go_wp2_with fail
    rw [← hW]
    refine HG.mono ?_
    rintro r w1 ⟨rfl, hb⟩
    have HB1 : Hid (Below w.heap.size w w1) := HBW.out.trans (hb.mono HBW.out.size)
    clear hb HG m0 m1 m2 hW
    go_wp2
    go_ret
    rw [HN.out]
    exact ⟨_, rfl, uout_nil _ _, HS.out _ HB1.out, Kept.of_below HB1.out (fun k hk h' => by omega)⟩
  | true =>
    rw [hg] at HG
    have HN : Hid (Um.message s ty ri ai = if ty = 2 then Um.assigned s ri ai else if ty = 4 then Um.check s ai else if ty = 6 then Um.remove s ai else (s, [])) := by show _ = _; unfold Um.message; rw [hg, if_pos rfl]
    clear hg
    go_enter Try.func20, Try.ntmps20
    go_wp2_with fail
    rw [← hW]
    refine HM.mono ?_
    rintro r w1 ⟨rfl, rfl⟩
    clear HM
    go_wp2_with fail
    rw [← hW]
    refine HG.mono ?_
    rintro r w1 ⟨rfl, hb⟩
    have HB1 : Hid (Below w.heap.size w w1) := HBW.out.trans (hb.mono HBW.out.size)
    have hlB : w.heap.size < W.heap.size := by omega
    have n0 := (hb.cell (p := ⟨w.heap.size, 0, none⟩) hlB).trans m0
    have n1 := (hb.cell (p := ⟨w.heap.size, 1, none⟩) hlB).trans m1
    have n2 := (hb.cell (p := ⟨w.heap.size, 2, none⟩) hlB).trans m2
    have hl1 : w.heap.size < w1.heap.size := by have := hb.size; omega
    have hS1 := HS.out w1 HB1.out
    clear hb HG m0 m1 m2 hW hlB hWs
    by_cases h2 : ty = 2
    · subst h2
      have HC := uassigned_any 2 ri ai hS1
      have HN2 : Hid (Um.message s 2 ri ai = Um.assigned s ri ai) := HN.out
      clear hS1
      go_wp2_with fail
      refine HC.mono ?_
      rintro r w2 ⟨v, rfl, ho, hm⟩
      have HO : Hid (UOut w.heap.size w2 v (Um.assigned s ri ai).2) := ho.up HB1.out.size
      have HM : Hid (Mvu w w2 C D G (Um.assigned s ri ai).1) := Mvu.ahead HB1.out hm
      clear ho hm HC n0 n1 n2
      go_wp2
      go_ret
      rw [HN2.out]
      exact ⟨_, rfl, HO.out, HM.out⟩
    · by_cases h4 : ty = 4
      · subst h4
        have HC := umeant_any ai hS1
        have HN2 : Hid (Um.message s 4 ri ai = if Um.meant s ai then (Um.on s, [Um.say 5 (Um.nx s) s.tei]) else (s, [])) := HN.out
        cases hme : Um.meant s ai with
        | false =>
          rw [hme] at HC HN2
          clear hS1 hme
          go_wp2_with fail
          refine HC.mono ?_
          rintro r w2 ⟨rfl, rfl⟩
          clear HC n0 n1 n2
          go_wp2
          go_ret
          rw [HN2.out]
          exact ⟨_, rfl, uout_nil _ _, HS.out _ HB1.out, Kept.of_below HB1.out (fun k hk h' => by omega)⟩
        | true =>
          rw [hme] at HC HN2
          have c1 := hS1.c1
          have c2 := hS1.c2
          have hlt := hS1.lt
          unfold nextV at c1
          have HNx : Hid (∀ w', Below w1.heap.size w1 w' → Calls Try.prog 23 #[.pointer (dp s.nil D)] w' fun e w'' => e = .returned (.int .i64 (Um.nx s)) ∧ w''.cell? ⟨C, 2, none⟩ = some (.int .i64 s.tei) ∧ C < w''.heap.size ∧ w.heap.size ≤ w''.heap.size ∧ Hid (Mvu w w'' C D G (Um.on s))) := fun w' hb => by
            refine (unext_any (hS1.below hb)).mono ?_
            rintro r w5 ⟨rfl, hm⟩
            have hm2 : Mvu w w5 C D G (Um.on s) := Mvu.ahead (HB1.out.trans (hb.mono HB1.out.size)) hm
            exact ⟨rfl, by rw [hm.1.c2, Um.on_tei], hm.1.lt, hm2.2.size, hm2⟩
          generalize dp s.nil D = p at c1 HNx
          generalize Um.nx s = n at HNx HN2
          generalize s.tei = t at c2 HNx HN2
          clear hme h2 hS1 HN
          go_wp2_with fail
          refine HC.mono ?_
          rintro r w2 ⟨rfl, rfl⟩
          clear HC n0 n1 n2
          go_wp2_with fail
          go_region_with (first
            | (go_at_call 23; refine (HNx.out _ ?_).mono ?_; exact (Below.refl _ _).drew; rintro r w5 ⟨rfl, k2, kl, kz, HM5⟩)
            | (go_at_call 34; refine (usend_any 5 n t _).mono ?_; rintro r w6 ⟨rfl, hb6⟩))
          all_goals
            go_wp2
            go_ret
            rw [HN2.out, if_pos trivial]
            exact ⟨_, rfl, uout_made w6 [Um.say 5 n t] (Nat.le_trans kz hb6.size) rfl (by simp), (HM5.out.then hb6).then ((Below.refl _ _).alloc (Nat.le_refl _) _)⟩
      · by_cases h6 : ty = 6
        · subst h6
          have HC := umeant_any ai hS1
          have HN2 : Hid (Um.message s 6 ri ai = if Um.meant s ai then (Um.idle s, Um.loseE s) else (s, [])) := HN.out
          cases hme : Um.meant s ai with
          | false =>
            rw [hme] at HC HN2
            clear hS1 hme
            go_wp2_with fail
            refine HC.mono ?_
            rintro r w2 ⟨rfl, rfl⟩
            clear HC n0 n1 n2
            go_wp2
            go_ret
            rw [HN2.out]
            exact ⟨_, rfl, uout_nil _ _, HS.out _ HB1.out, Kept.of_below HB1.out (fun k hk h' => by omega)⟩
          | true =>
            rw [hme] at HC HN2
            have HL := ulose_any hS1
            clear hS1 hme
            go_wp2_with fail
            refine HC.mono ?_
            rintro r w2 ⟨rfl, rfl⟩
            clear HC n0 n1 n2
            go_wp2_with fail
            refine HL.mono ?_
            rintro r w2 ⟨v, rfl, ho, hm⟩
            have HO : Hid (UOut w.heap.size w2 v (Um.loseE s)) := ho.up HB1.out.size
            have HM : Hid (Mvu w w2 C D G (Um.idle s)) := Mvu.ahead HB1.out hm
            clear ho hm HL
            go_wp2
            go_ret
            rw [HN2.out]
            exact ⟨_, rfl, HO.out, HM.out⟩
        · have HN2 : Hid (Um.message s ty ri ai = (s, [])) := by show _ = _; rw [HN.out, if_neg h2, if_neg h4, if_neg h6]
          have b2 : (ty == 2) = false := by simp; exact h2
          have b4 : (ty == 4) = false := by simp; exact h4
          have b6 : (ty == 6) = false := by simp; exact h6
          clear h2 h4 h6 hS1
          go_wp2
          go_ret
          rw [HN2.out]
          exact ⟨_, rfl, uout_nil _ _, HS.out _ HB1.out, Kept.of_below HB1.out (fun k hk h' => by omega)⟩
end
end Go.Proofs.Ytdnhcpkpajbhoaa
