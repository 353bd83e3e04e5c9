/-
  The walk of a source's Audit.
-/
import Derived.Test.YtdnhcpkpajbhoabSrcTurns
namespace Go.Proofs.Ytdnhcpkpajbhoab
open Go.RowKit
set_option linter.unusedVariables false
set_option linter.unusedSimpArgs false
set_option maxRecDepth 100000

/-- an audit so far -/
structure AudAt (w wr : World) (C P M : Nat) (s : Zm.St) (a : Option Addr) (cap : Nat) (G : Option Nat) (L : List Int) (v : Value) (i : Nat) : Prop where
  mv : Mvs w wr C P M (Zm.audL s (L.take i))
  out : Out w.heap.size wr v (Zm.say 4 0 127 :: (L.take i).map (Zm.tell 3))
  row : IRow wr a cap G L
  low : ∀ B, G = some B → w.heap.size ≤ B
  ne : ∀ B, G = some B → v.ownBlock ≠ some B
theorem take_succ_at (L : List Int) (i : Nat) (hi : i < L.length) : L.take (i + 1) = L.take i ++ [L.getD i 0] := by
  rw [List.take_add_one, List.getElem?_eq_getElem hi]
  simp [List.getD, List.getElem?_eq_getElem hi]
theorem AudAt.step {w wr w2 W w4 : World} {C P M : Nat} {s : Zm.St} {a : Option Addr} {cap : Nat} {G : Option Nat} {L : List Int} {v v' : Value} {i : Nat} (h : AudAt w wr C P M s a cap G L v i) (hl : Low w C P M) (hi : i < L.length) {p : Nat} (hp : L.getD i 0 = 64 + (p : Int))
    (h2 : Mvs wr w2 C P M (Zm.setC (Zm.audL s (L.take i)) p 1 0)) (hW : Below w2.heap.size w2 W) (ho : Out w.heap.size w4 v' ((Zm.say 4 0 127 :: (L.take i).map (Zm.tell 3)) ++ [Zm.tell 3 (64 + (p : Int))])) (hm : Mvs w w4 C P M (Zm.setC (Zm.audL s (L.take i)) p 1 0)) (hg : W.grownBy w4 v.ownBlock) (hat : v'.ownBlock = v.ownBlock ∨ v'.ownBlock = some W.heap.size) : AudAt w w4 C P M s a cap G L v' (i + 1) := by
  have e := take_succ_at L i hi
  rw [hp] at e
  obtain ⟨l1, l2, l3⟩ := hl
  have r2 : IRow w2 a cap G L := h.row.kept h2.2 (fun B hB hx => by have := h.low B hB; omega)
  have rW := r2.below hW
  refine ⟨by rw [e, ← Zm.audL_step]; exact hm, by rw [e, List.map_append]; exact ho, rW.kept (Kept.of_grown (T := fun k => v.ownBlock = some k) hg (fun k x => x)) (fun B hB hx => h.ne B hB hx), h.low, fun B hB hx => ?_⟩
  rcases hat with h' | h'
  · exact h.ne B hB (h'.symm.trans hx)
  · have h1 : B = W.heap.size := Option.some.inj (hx.symm.trans h')
    have := rW.lt hB
    omega

set_option maxHeartbeats 2000000 in
theorem saudit_any (C P M : Nat) (s : Zm.St) (w : World) (h : Sr w C P M s) :
    Calls Try.prog 16 #[.pointer (some ⟨C, 0, none⟩)] w fun r w' => ∃ v, r = .returned v ∧ Out w.heap.size w' v (Zm.auditE s) ∧ Mvs w w' C P M (Zm.audit s) := by
  have HM := smade_any C P M s w h
  have HL : Hid (Low w C P M) := h.low
  have HOK : Hid (Zm.Ok s) := h.ok
  have HS : Hid (∀ w', Below w.heap.size w w' → Sr w' C P M s) := fun w' hb => h.below hb
  clear h
  go_enter Try.func16, Try.ntmps16
  go_wp2_with fail
  refine HM.mono ?_
  rintro r w1 ⟨rfl, rfl⟩
  clear HM
  go_wp2_with fail
  refine (send_any 4 0 127 w).mono ?_
  rintro r w1 ⟨rfl, hb⟩
  obtain ⟨W, hW⟩ : ∃ W, W = w1.alloc (.cells #[.int .i64 0, .int .i64 4, .int .i64 0, .int .i64 127, .int .i64 0] 53) := ⟨_, rfl⟩
  have hbW : Below w1.heap.size w1 W := by rw [hW]; exact (Below.refl _ _).alloc (Nat.le_refl _) _
  have hbw : Below w.heap.size w W := hb.trans (hbW.mono hb.size)
  have hO : Out w.heap.size W (.slice (some ⟨w1.heap.size, 0, none⟩) 1 1) [Zm.say 4 0 127] := by rw [hW]; exact out_made w1 [Zm.say 4 0 127] hb.size rfl (by simp)
  have hS := HS.out W hbw
  have hPL := plist_any P s.nx s.f W hS.pl
  have c0 := (HS.out w1 hb).c0
  have hlt := (HS.out w1 hb).lt
  have hsz1 := hb.size
  have HB : Hid (Below w.heap.size w W) := hbw
  have HO : Hid (Out w.heap.size W (.slice (some ⟨w1.heap.size, 0, none⟩) 1 1) [Zm.say 4 0 127]) := hO
  have hWs : W.heap.size = w1.heap.size + 1 := by rw [hW]; simp
  have HWs := (show Hid _ from hWs)
  clear hb hbW hbw hO hS hWs
  go_wp2_with fail
  rw [← hW]
  refine hPL.mono ?_
  rintro r w3 ⟨a, cap, rfl, hls⟩
  obtain ⟨G, hrow, hGb⟩ := hls.row
  have HA : Hid (AudAt w w3 C P M s a cap G (Pm.ls s.f 63) (.slice (some ⟨w1.heap.size, 0, none⟩) 1 1) 0) := by
    have hsz := HB.out.size
    have := HWs.out
    refine ⟨?_, HO.out.bel hls.bel, hrow, fun B hB => by have := hGb B hB; omega, fun B hB hx => ?_⟩
    · rw [List.take_zero, Zm.audL_nil]
      have hb3 : Below w.heap.size w w3 := HB.out.trans (hls.bel.mono hsz)
      exact ⟨HS.out _ hb3, Kept.of_below hb3 (fun k hk h' => by omega)⟩
    · have h1 : w1.heap.size = B := by simpa [Value.ownBlock] using hx
      have := hGb B hB
      omega
  have hrl : Hid ((Pm.ls s.f 63).length = Pm.ct s.f 63 ∧ Pm.ct s.f 63 ≤ 63 ∧ ∀ t ∈ Pm.ls s.f 63, ∃ p : Nat, p < 63 ∧ s.f p = true ∧ t = 64 + (p : Int)) := ⟨rfl, Pm.ct_le _ _, fun t ht => (Zm.ls_mem s.f 63 t).1 ht⟩
  have HE : Hid (Zm.auditE s = Zm.say 4 0 127 :: (Pm.ls s.f 63).map (Zm.tell 3) ∧ Zm.audL s (Pm.ls s.f 63) = Zm.audit s) := ⟨rfl, Zm.audL_all s⟩
  generalize Pm.ct s.f 63 = n at hrl ⊢
  generalize Pm.ls s.f 63 = L at HA hrl HE
  have hn63 : n ≤ 63 := hrl.out.2.1
  clear hls hrow hGb HB HO HS hPL HWs c0 hW
  go_wp2
  go_loopw [3, 17] (fun vs c wr => ∃ (i : Nat) (v : Value), v = vs ∧ i ≤ n ∧ c = .int .i64 i ∧ Hid (AudAt w wr C P M s a cap G L v i)) (fun _ c _ => n - (intOf c).toNat)
  case atStart => exact ⟨0, _, rfl, Nat.zero_le _, rfl, HA⟩
  case round =>
    obtain ⟨i, v, rfl, hin, rfl, HR⟩ := hrel
    clear HA
    by_cases hlt2 : i < n
    · obtain ⟨p, hp, hf, he⟩ := hrl.out.2.2 (L.getD i 0) (by rw [List.getD, List.getElem?_eq_getElem (by rw [hrl.out.1]; exact hlt2)]; exact List.getElem_mem _)
      have hx := HR.out.row.nth i (by rw [hrl.out.1]; exact hlt2)
      have hcp := HR.out.row.le
      rw [hrl.out.1] at hcp
      obtain ⟨g, rfl, rfl, hgl, hc, _⟩ := hx
      have HP : Hid (L.getD i 0 = 64 + (p : Int)) := he
      rw [he] at hc
      have HAw := await_any C P M p 1 (Zm.audL s (L.take i)) wr HR.out.mv.1 hp hf (by decide) (by decide)
      rw [show ((1 : Nat) : Int) = 1 from rfl] at HAw
      clear he
      obtain ⟨t, ht⟩ : ∃ t : Int, t = 64 + (p : Int) := ⟨_, rfl⟩
      rw [← ht] at HAw hc HP
      have HT : Hid (t = 64 + (p : Int)) := ht
      clear ht
      have hlr : C < wr.heap.size := HR.out.mv.1.lt
      go_wp2_with fail
      refine HAw.mono ?_
      rintro r w2 ⟨rfl, hm2⟩
      have HM2 : Hid (Mvs wr w2 C P M (Zm.setC (Zm.audL s (L.take i)) p 1 0)) := hm2
      clear HAw hm2 hc
      obtain ⟨W2, hW2⟩ : ∃ W2, W2 = w2.alloc (.cells #[.int .i64 3, .int .i64 0, .int .i64 0, .int .i64 0, .int .i64 t] 53) := ⟨_, rfl⟩
      have HBW : Hid (Below w2.heap.size w2 W2) := by show Below _ _ _; rw [hW2]; exact (Below.refl _ _).alloc (Nat.le_refl _) _
      have HMW : Hid (Mvs w W2 C P M (Zm.setC (Zm.audL s (L.take i)) p 1 0)) := (Mvs.on HR.out.mv.2 HM2.out).then HBW.out
      have HO1 : Hid (Out w.heap.size W2 v (Zm.say 4 0 127 :: (L.take i).map (Zm.tell 3))) := (HR.out.out.mvs HM2.out HL.out.2.1 HL.out.2.2).bel HBW.out
      have HO2 : Hid (Out w.heap.size W2 (.slice (some ⟨w2.heap.size, 0, none⟩) 1 1) [Zm.tell 3 t]) := by
        show Out _ _ _ _
        rw [hW2]
        exact out_made w2 [Zm.tell 3 t] (Mvs.on HR.out.mv.2 HM2.out).2.size rfl (by simp)
      have HN : Hid ((Zm.say 4 0 127 :: (L.take i).map (Zm.tell 3)).length ≤ 100000) := by
        show _ ≤ _
        simp
        omega
      go_wp2_with (at_builtin; rw [← hW2]; refine wpl_append rfl _ _ rfl rfl rfl HMW.out HL.out HO1.out HO2.out HN.out (by simp) ?_)
      intro v4 w4 hO4 hM4 hg4 hat4
      have HQ : Hid (AudAt w w4 C P M s (some ⟨g, 0, none⟩) cap (some g) L v4 (i + 1)) := HR.out.step HL.out (by rw [hrl.out.1]; exact hlt2) (HP.out.trans HT.out) HM2.out HBW.out (by rw [← HT.out, List.cons_append, List.map_take]; exact hO4) hM4 (by rw [hW2]; exact hg4) (by rw [hW2]; simpa using hat4)
      clear hO4 hM4 hg4 hat4 HMW HO1 HO2 HBW HM2 HR hW2
      go_wp2
      go_roundw
      case rel => exact ⟨i + 1, v4, rfl, by omega, by go_num, HQ⟩
      case measure => simp [intOf]; omega
    · have hie : i = n := by omega
      subst hie
      clear hlt2
      go_wp2
      go_ret
      have h1 := HR.out.mv
      have h2 := HR.out.out
      rw [List.take_of_length_le (by rw [hrl.out.1]; exact Nat.le_refl _)] at h1 h2
      exact ⟨_, rfl, by rw [HE.out.1]; exact h2, by rw [← HE.out.2]; exact h1⟩
end Go.Proofs.Ytdnhcpkpajbhoab
