/-
  The walk of a queue's Push, where it lies inside a flow.
-/
import Derived.Test.YtdfoicngcahajaaDoorQoWalks
import Derived.BigQuiet
namespace Go.Proofs.YtdfoicngcahajaaDoor
open Go.RowKit
set_option linter.unusedVariables false
set_option maxRecDepth 100000
set_option linter.unusedSimpArgs false

theorem takes_o (C : Nat) (mo : Int) (w : World) (k : Nat) (hc : w.cell? ⟨C, 7, none⟩ = some (.int .i64 mo)) (hlt : C < w.heap.size) :
    Calls Tryd.prog 80 #[.pointer (some ⟨C, 7, none⟩)] (w.drewN k) fun e w' => e = .returned (.int .i64 (Qm.takes mo : Nat)) ∧ w' = w.drewN k :=
  otakes_any C mo (w.drewN k) (((qdrewN_blw (Below.refl w.heap.size w) k).cell (p := ⟨C, 7, none⟩) hlt).trans hc) (Nat.lt_of_lt_of_le hlt (qdrewN_blw (Below.refl w.heap.size w) k).size)

set_option maxHeartbeats 1000000 in
theorem opush_any (C sn : Nat) (G : Option Nat) (mo : Int) (L : List ByteArray) (s : ByteArray) (w : World) (h : Qo w C G mo L sn) (hs : s.size ≤ 9223372036854775807) :
    Calls Tryd.prog 70 #[.pointer (some ⟨C, 7, none⟩), .string s] w fun e w' => e = .returned (.int .i64 (Qm.pushN mo L s)) ∧ Mvo w w' C G mo (Qm.pushL mo L s) sn := by
  obtain ⟨a, cap, h1, h2⟩ := h.c1
  have hc0 := h.c0
  have hf1 := h.f1
  have hlt := h.lt
  have hle := h.le
  have hts := Qm.takes_le mo
  have HQ : Hid (Qo w C G mo L sn) := h
  have HLT : Hid (C < w.heap.size) := hlt
  have HS : Hid (SRow w a cap G L) := h2
  clear h h2
  by_cases h260 : 260 < s.size
  · have HA : Hid (Qm.pushN mo L s = 5 ∧ Qm.pushL mo L s = L) := ⟨by unfold Qm.pushN; rw [if_pos h260], by unfold Qm.pushL; rw [if_pos h260]⟩
    clear h1 hc0 hf1
    go_enter Tryd.func70, Tryd.ntmps70
    go_wp2
    go_ret
    exact ⟨by rw [HA.out.1]; rfl, by rw [HA.out.2]; exact HQ.out.same (Below.refl _ _)⟩
  · have h260' : s.size ≤ 260 := by omega
    by_cases hfull : Qm.takes mo ≤ L.length
    · have HA : Hid (Qm.pushN mo L s = 10 ∧ Qm.pushL mo L s = L) := ⟨by unfold Qm.pushN; rw [if_neg h260, if_pos hfull], by unfold Qm.pushL; rw [if_neg h260, if_pos hfull]⟩
      clear h260 hf1
      obtain ⟨n, hn⟩ : ∃ n : Nat, n = L.length := ⟨_, rfl⟩
      rw [← hn] at h1 hle hfull
      clear hn
      go_enter Tryd.func70, Tryd.ntmps70
      go_wp2_with fail
      go_quiet ((go_at_call 80; exact Calls.quiet_of_same (takes_o C mo _ _ hc0 hlt)))
      generalize Qm.takes mo = tk at hfull hts ⊢
      go_wp2
      go_ret
      exact ⟨by rw [HA.out.1]; rfl, by rw [HA.out.2]; exact HQ.out.same (qdrewN_blw (Below.refl _ _) _)⟩
    · have HA : Hid (Qm.pushN mo L s = 0 ∧ Qm.pushL mo L s = L ++ [s]) := ⟨by unfold Qm.pushN; rw [if_neg h260, if_neg hfull], by unfold Qm.pushL; rw [if_neg h260, if_neg hfull]⟩
      have hfull' : L.length < Qm.takes mo := by omega
      clear h260 hfull
      go_enter Tryd.func70, Tryd.ntmps70
      go_wp2_with fail
      go_quiet ((go_at_call 80; exact Calls.quiet_of_same (takes_o C mo _ _ hc0 hlt)))
      have HT : Hid (L.length < Qm.takes mo) := hfull'
      generalize Qm.takes mo = tk at hfull' hts ⊢
      obtain ⟨W0, hW0⟩ : ∃ W0, W0 = w.drewN nq := ⟨_, rfl⟩
      have hb0 : Below w.heap.size w W0 := by rw [hW0]; exact qdrewN_blw (Below.refl _ _) nq
      rw [← hW0]
      obtain ⟨W1, hW1⟩ : ∃ W1, W1 = W0.alloc (.cells #[.string s] 9) := ⟨_, rfl⟩
      have hb1 : Below W0.heap.size W0 W1 := by rw [hW1]; exact (Below.refl _ _).alloc (Nat.le_refl _) _
      have hb2 : Below w.heap.size w W1 := hb0.trans (hb1.mono hb0.size)
      have Q1 : Qo W1 C G mo L sn := HQ.out.below hb2
      have HQ1 : Hid (Qo W1 C G mo L sn) := Q1
      have HB : Hid (Below w.heap.size w W1) := hb2
      have hS1 : Hid (SRow W1 a cap G L) := HS.out.kept (T := fun _ => False) (Kept.of_below hb2 (fun k hk h' => by omega)) (fun _ _ x => x)
      have hnc : Hid (W1.cell? ⟨W0.heap.size, 0, none⟩ = some (.string s)) := by rw [hW1]; show _ = _; simp
      have y1 : W0.cell? ⟨C, 8, none⟩ = some (.slice a L.length cap) := (hb0.cell (p := ⟨C, 8, none⟩) hlt).trans h1
      have ylt : C < W0.heap.size := Nat.lt_of_lt_of_le hlt hb0.size
      clear hW0 h1 hc0 hf1 HS hb0 hb1 hb2 Q1 hlt
      go_wp2_with (at_builtin; rw [← hW1]; refine append_srow rfl _ _ rfl a cap G L s W0.heap.size 1 rfl hS1.out rfl hnc.out (by omega) ?_)
      intro a' cap' G' w' hS' hK' hG'
      have hne : ¬ (G = some C) := HQ1.out.ne
      have hz : W1.heap.size = W0.heap.size + 1 := by rw [hW1]; simp
      rw [← hW1] at hK'
      rw [← hz] at hG'
      have v1 : w'.cell? ⟨C, 8, none⟩ = some (.slice a L.length cap) := by
        refine (hK'.cell (p := ⟨C, 8, none⟩) HQ1.out.lt hne).trans ?_
        rw [hW1]; exact (((Below.refl _ _).alloc (Nat.le_refl _) _).cell (p := ⟨C, 8, none⟩) ylt).trans y1
      have vf : w'.frozen? ⟨C, 8, none⟩ = false := (hK'.frozen (p := ⟨C, 8, none⟩) HQ1.out.lt hne).trans HQ1.out.f1
      have vlt : C < w'.heap.size := Nat.lt_of_lt_of_le HQ1.out.lt hK'.size
      have HM : Hid (Mvo w (w'.setCell ⟨C, 8, none⟩ (.slice a' (L.length + 1) cap')) C G mo (L ++ [s]) sn) := by
        have := HQ1.out.setRow (L' := L ++ [s]) hK' hS' hG' (by have := HQ1.out.sn; simp; omega) (by have := HT.out; simp; omega) (fun x hx => by
          simp at hx
          rcases hx with hx | rfl
          · exact HQ1.out.size x hx
          · exact h260')
        have e : (L ++ [s]).length = L.length + 1 := by simp
        rw [e] at this
        exact Mvo.ahead HLT.out HB.out this
      clear hK' hS' hG' hne hz HQ1 hS1 hnc y1 ylt hW1
      go_wp2
      go_ret
      exact ⟨by rw [HA.out.1]; rfl, by rw [HA.out.2]; exact HM.out⟩

end Go.Proofs.YtdfoicngcahajaaDoor
