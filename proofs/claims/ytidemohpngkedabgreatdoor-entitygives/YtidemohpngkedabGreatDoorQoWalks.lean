/-
  The walks of a queue's small methods, where it lies inside a flow: takes, hasSent, Sent, Left, Back, Clear, Take.
  The walk of a queue's Push, where it lies inside a flow.
  The walk of a queue's Done, where it lies inside a flow.
-/
import Derived.Test.YtidemohpngkedabGreatDoorQoRow
import Derived.Test.YtidemohpngkedabGreatDoorQueBits
import Derived.BigQuiet
import Derived.Lib.SliceRun
import Derived.BigRegion
namespace Go.Proofs.YtidemohpngkedabGreatDoor
open Go.RowKit
set_option linter.unusedVariables false
set_option maxRecDepth 100000
set_option linter.unusedSimpArgs false

theorem Mvo.drew {w : World} {C sn : Nat} {G : Option Nat} {mo : Int} {L : List ByteArray} {w1 : World} (h : Mvo w w1 C G mo L sn) : Mvo w w1.drew C G mo L sn := h.then (Below.refl _ _).drew

set_option maxHeartbeats 400000 in
theorem otakes_any (C : Nat) (mo : Int) (w : World) (hc : w.cell? ⟨C, 7, none⟩ = some (.int .i64 mo)) (hlt : C < w.heap.size) :
    Calls Tryz.prog 160 #[.pointer (some ⟨C, 7, none⟩)] w fun e w' => e = .returned (.int .i64 (Qm.takes mo : Nat)) ∧ w' = w := by
  have HT := Qm.takes_eq mo
  rcases (show mo < 1 ∨ (1 ≤ mo ∧ mo ≤ 256) ∨ 256 < mo by omega) with h | ⟨h, h'⟩ | h
  · have HX : Hid (((Qm.takes mo : Nat) : Int) = 1) := by show _ = _; omega
    clear HT
    go_enter Tryz.func160, Tryz.ntmps160
    go_wp2
    go_ret
    exact ⟨by rw [HX.out]; rfl, rfl⟩
  · have HX : Hid (((Qm.takes mo : Nat) : Int) = mo) := by show _ = _; omega
    clear HT
    go_enter Tryz.func160, Tryz.ntmps160
    go_wp2
    go_ret
    exact ⟨by rw [HX.out]; rfl, rfl⟩
  · have HX : Hid (((Qm.takes mo : Nat) : Int) = 256) := by show _ = _; omega
    have h' : 1 ≤ mo := by omega
    clear HT
    go_enter Tryz.func160, Tryz.ntmps160
    go_wp2
    go_ret
    exact ⟨by rw [HX.out]; rfl, rfl⟩

set_option maxHeartbeats 400000 in
theorem ohasSent_any (C : Nat) (n : Int) (sn : Nat) (w : World) (hc : w.cell? ⟨C, 9, none⟩ = some (.int .i64 sn)) (hlt : C < w.heap.size) :
    Calls Tryz.prog 171 #[.pointer (some ⟨C, 7, none⟩), .int .i64 n] w fun e w' => e = .returned (.bool (Qm.okN sn n)) ∧ w = w' := by
  by_cases h1 : n < 0
  · have HT : Hid (Qm.okN sn n = false) := by unfold Qm.okN; exact decide_eq_false (by omega)
    go_enter Tryz.func171, Tryz.ntmps171
    go_wp2
    go_ret
    exact ⟨by rw [HT.out]; rfl, rfl⟩
  · have HT : Hid (Qm.okN sn n = decide (n ≤ (sn : Int))) := by unfold Qm.okN; exact decide_eq_decide.2 (by omega)
    have h1' : 0 ≤ n := by omega
    clear h1
    go_enter Tryz.func171, Tryz.ntmps171
    go_wp2
    go_ret
    exact ⟨by rw [HT.out]; rfl, rfl⟩

set_option maxHeartbeats 400000 in
theorem osent_any (C : Nat) (sn : Nat) (w : World) (hc : w.cell? ⟨C, 9, none⟩ = some (.int .i64 sn)) (hlt : C < w.heap.size) :
    Calls Tryz.prog 101 #[.pointer (some ⟨C, 7, none⟩)] w fun e w' => e = .returned (.int .i64 sn) ∧ w = w' := by
  go_enter Tryz.func101, Tryz.ntmps101
  go_wp2
  go_ret
  exact ⟨rfl, rfl⟩

set_option maxHeartbeats 400000 in
theorem oleft_any (C : Nat) (sn n cap : Nat) (a : Option Addr) (w : World) (hc : w.cell? ⟨C, 9, none⟩ = some (.int .i64 sn)) (hr : w.cell? ⟨C, 8, none⟩ = some (.slice a n cap)) (hlt : C < w.heap.size) (hs : sn ≤ n) (hn : n ≤ 1000000) :
    Calls Tryz.prog 102 #[.pointer (some ⟨C, 7, none⟩)] w fun e w' => e = .returned (.int .i64 ((n - sn : Nat) : Int)) ∧ ∃ k, w' = w.drewN k := by
  go_enter Tryz.func102, Tryz.ntmps102
  go_wp2_with fail
  go_quiet (fail)
  go_wp2
  go_ret
  exact ⟨by rw [Int.ofNat_sub hs]; rfl, nq, rfl⟩

set_option maxHeartbeats 400000 in
theorem oback_any (C sn : Nat) (G : Option Nat) (mo : Int) (L : List ByteArray) (n : Int) (w : World) (h : Qo w C G mo L sn) :
    Calls Tryz.prog 164 #[.pointer (some ⟨C, 7, none⟩), .int .i64 n] w fun e w' => e = .returned (.bool (Qm.okN sn n)) ∧ Mvo w w' C G mo L (Qm.backS sn n) := by
  have HH := ohasSent_any C n sn w h.c2 h.lt
  have hb := Qm.backS_le L sn n h.sn
  have hc2 := h.c2
  have hf2 := h.f2
  have hlt := h.lt
  have HQ : Hid (Qo w C G mo L sn) := h
  clear h
  cases hk : Qm.okN sn n with
  | false =>
    rw [hk] at HH
    have HB : Hid (Qm.backS sn n = sn) := by unfold Qm.backS; rw [hk]; rfl
    clear hk
    go_enter Tryz.func164, Tryz.ntmps164
    go_wp2_with fail
    refine HH.mono ?_
    rintro e w1 ⟨rfl, rfl⟩
    clear HH
    go_wp2
    go_ret
    exact ⟨rfl, by rw [HB.out]; exact HQ.out.same (Below.refl _ _)⟩
  | true =>
    rw [hk] at HH
    have hn := of_decide_eq_true hk
    obtain ⟨m, rfl⟩ : ∃ m : Nat, n = (m : Int) := ⟨n.toNat, by omega⟩
    have HB : Hid (Qm.backS sn (m : Int) = m) := by show _ = _; unfold Qm.backS; rw [hk]; simp
    have hm : m ≤ L.length := by have := HQ.out.sn; omega
    clear hk hb
    go_enter Tryz.func164, Tryz.ntmps164
    go_wp2_with fail
    refine HH.mono ?_
    rintro e w1 ⟨rfl, rfl⟩
    clear HH
    go_wp2
    go_ret
    exact ⟨rfl, by rw [HB.out]; exact HQ.out.setSent hm⟩

set_option maxHeartbeats 400000 in
theorem oclear_any (C sn : Nat) (G : Option Nat) (mo : Int) (L : List ByteArray) (w : World) (h : Qo w C G mo L sn) :
    Calls Tryz.prog 111 #[.pointer (some ⟨C, 7, none⟩)] w fun e w' => e = .returned (.int .i64 L.length) ∧ Mvo w w' C G mo [] 0 := by
  obtain ⟨a, cap, h1, h2⟩ := h.c1
  have hc2 := h.c2
  have hf1 := h.f1
  have hf2 := h.f2
  have hlt := h.lt
  have hle := h.le
  have HQ : Hid (Qo w C G mo L sn) := h
  clear h h2
  obtain ⟨n, hn⟩ : ∃ n : Nat, n = L.length := ⟨_, rfl⟩
  rw [← hn] at h1 hle
  have HN : Hid (n = L.length) := hn
  clear hn
  go_enter Tryz.func111, Tryz.ntmps111
  go_wp2
  go_ret
  exact ⟨by rw [← HN.out]; rfl, HQ.out.setBoth (L' := []) (Kept.refl _ _) (qsrow_nil w) (fun B hB => by cases hB) (Nat.le_refl _) (Nat.zero_le _) (fun x hx => by simp at hx)⟩

set_option maxHeartbeats 400000 in
theorem otake_any (C sn : Nat) (G : Option Nat) (mo : Int) (L : List ByteArray) (w : World) (h : Qo w C G mo L sn) :
    Calls Tryz.prog 162 #[.pointer (some ⟨C, 7, none⟩)] w fun e w' => e = .returned (.tuple #[.string (Qm.takeS L sn), .bool (Qm.takeB L sn)]) ∧ Mvo w w' C G mo L (Qm.takeN L sn) := by
  obtain ⟨a, cap, h1, h2⟩ := h.c1
  have hc2 := h.c2
  have hf2 := h.f2
  have hlt := h.lt
  have hle := h.le
  have hsn := h.sn
  have HL := oleft_any C sn L.length cap a w h.c2 h1 h.lt h.sn (by omega)
  have HQ : Hid (Qo w C G mo L sn) := h
  by_cases hs : sn < L.length
  · obtain ⟨g, off, rfl, rfl, hg, hcell⟩ := h2.nth sn hs
    have hne : g ≠ C := fun e => h.ne (by rw [e])
    have HA : Hid (Qm.takeB L sn = true ∧ Qm.takeN L sn = sn + 1) := ⟨decide_eq_true hs, by unfold Qm.takeN; rw [if_pos hs]⟩
    clear h h2
    go_enter Tryz.func162, Tryz.ntmps162
    go_wp2_with fail
    refine HL.mono ?_
    rintro e w1 ⟨rfl, k, rfl⟩
    clear HL
    have hq : ((L.length - sn : Nat) : Int) ≠ 0 := by omega
    obtain ⟨d, hd⟩ : ∃ d : Nat, d = L.length - sn := ⟨_, rfl⟩
    rw [← hd] at hq ⊢
    have hq' : ((d : Int) == 0) = false := by simpa using hq
    clear hd hq
    go_wp2_with fail
    have HM : Hid (Mvo w ((w.drewN k).setCell ⟨C, 9, none⟩ (.int .i64 ((sn + 1 : Nat) : Int))) C (some g) mo L (sn + 1)) := Mvo.ahead HQ.out.lt (qdrewN_blw (Below.refl _ _) k) ((HQ.out.below (qdrewN_blw (Below.refl _ _) k)).setSent (by omega))
    obtain ⟨W1, hW1⟩ : ∃ W1, W1 = (w.drewN k).setCell ⟨C, 9, none⟩ (.int .i64 ((sn : Int) + 1)) := ⟨_, rfl⟩
    have e : (((sn + 1 : Nat) : Nat) : Int) = (sn : Int) + 1 := by omega
    rw [e, ← hW1] at HM
    rw [← hW1]
    have x1 : W1.cell? ⟨C, 8, none⟩ = some (.slice (some ⟨g, off, none⟩) L.length cap) := by
      rw [hW1, World.cell?_setCell_other _ _ _ _ (fun h => by injection h with _ h2; omega)]; exact ((qdrewN_blw (Below.refl w.heap.size w) k).cell (p := ⟨C, 8, none⟩) hlt).trans h1
    have x2 : W1.cell? ⟨C, 9, none⟩ = some (.int .i64 ((sn : Int) + 1)) := by
      rw [hW1]; exact World.cell?_setCell_same' _ ⟨C, 9, none⟩ _ (by rw [((qdrewN_blw (Below.refl w.heap.size w) k).cell (p := ⟨C, 9, none⟩) hlt).trans hc2]; rfl)
    have x3 : W1.cell? ⟨g, off + sn, none⟩ = some (.string (L.getD sn ByteArray.empty)) := by
      rw [hW1, World.cell?_setCell_other _ _ _ _ (fun h => by injection h with h1 h2; exact hne h1.symm)]; exact ((qdrewN_blw (Below.refl w.heap.size w) k).cell (p := ⟨g, off + sn, none⟩) hg).trans hcell
    obtain ⟨x, hx⟩ : ∃ x, x = L.getD sn ByteArray.empty := ⟨_, rfl⟩
    have HX : Hid (Qm.takeS L sn = x) := hx.symm
    rw [← hx] at x3
    obtain ⟨n, hn⟩ : ∃ n : Nat, n = L.length := ⟨_, rfl⟩
    rw [← hn] at x1 hle hsn hs
    clear hx hn hW1 h1 hc2 hf2 hcell e
    go_quiet (fail)
    go_wp2
    go_ret2
    exact ⟨by rw [HX.out, HA.out.1]; rfl, by rw [HA.out.2]; exact HM.out.then (qdrewN_blw (Below.refl _ _) _)⟩
  · have hse : sn = L.length := by omega
    have HA : Hid (Qm.takeB L sn = false ∧ Qm.takeN L sn = sn ∧ Qm.takeS L sn = ByteArray.empty) := ⟨decide_eq_false hs, by unfold Qm.takeN; rw [if_neg hs], by unfold Qm.takeS; rw [hse]; simp [List.getD]⟩
    have e0 : ((L.length - sn : Nat) : Int) = 0 := by omega
    rw [e0] at HL
    clear h h2 e0 hse hs h1 hc2 hf2
    go_enter Tryz.func162, Tryz.ntmps162
    go_wp2_with fail
    refine HL.mono ?_
    rintro e w1 ⟨rfl, k, rfl⟩
    clear HL
    go_wp2
    go_ret2
    exact ⟨by rw [HA.out.1, HA.out.2.2]; rfl, by rw [HA.out.2.1]; exact HQ.out.same (qdrewN_blw (Below.refl _ _) _)⟩
end Go.Proofs.YtidemohpngkedabGreatDoor

namespace Go.Proofs.YtidemohpngkedabGreatDoor
open Go.RowKit
set_option linter.unusedVariables false
set_option maxRecDepth 100000
set_option linter.unusedSimpArgs false

theorem takes_o (C : Nat) (mo : Int) (w : World) (k : Nat) (hc : w.cell? ⟨C, 7, none⟩ = some (.int .i64 mo)) (hlt : C < w.heap.size) :
    Calls Tryz.prog 160 #[.pointer (some ⟨C, 7, none⟩)] (w.drewN k) fun e w' => e = .returned (.int .i64 (Qm.takes mo : Nat)) ∧ w' = w.drewN k :=
  otakes_any C mo (w.drewN k) (((qdrewN_blw (Below.refl w.heap.size w) k).cell (p := ⟨C, 7, none⟩) hlt).trans hc) (Nat.lt_of_lt_of_le hlt (qdrewN_blw (Below.refl w.heap.size w) k).size)

set_option maxHeartbeats 1000000 in
theorem opush_any (C sn : Nat) (G : Option Nat) (mo : Int) (L : List ByteArray) (s : ByteArray) (w : World) (h : Qo w C G mo L sn) (hs : s.size ≤ 9223372036854775807) :
    Calls Tryz.prog 143 #[.pointer (some ⟨C, 7, none⟩), .string s] w fun e w' => e = .returned (.int .i64 (Qm.pushN mo L s)) ∧ Mvo w w' C G mo (Qm.pushL mo L s) sn := by
  obtain ⟨a, cap, h1, h2⟩ := h.c1
  have hc0 := h.c0
  have hf1 := h.f1
  have hlt := h.lt
  have hle := h.le
  have hts := Qm.takes_le mo
  have HQ : Hid (Qo w C G mo L sn) := h
  have HLT : Hid (C < w.heap.size) := hlt
  have HS : Hid (SRow w a cap G L) := h2
  clear h h2
  by_cases h260 : 260 < s.size
  · have HA : Hid (Qm.pushN mo L s = 5 ∧ Qm.pushL mo L s = L) := ⟨by unfold Qm.pushN; rw [if_pos h260], by unfold Qm.pushL; rw [if_pos h260]⟩
    clear h1 hc0 hf1
    go_enter Tryz.func143, Tryz.ntmps143
    go_wp2
    go_ret
    exact ⟨by rw [HA.out.1]; rfl, by rw [HA.out.2]; exact HQ.out.same (Below.refl _ _)⟩
  · have h260' : s.size ≤ 260 := by omega
    by_cases hfull : Qm.takes mo ≤ L.length
    · have HA : Hid (Qm.pushN mo L s = 10 ∧ Qm.pushL mo L s = L) := ⟨by unfold Qm.pushN; rw [if_neg h260, if_pos hfull], by unfold Qm.pushL; rw [if_neg h260, if_pos hfull]⟩
      clear h260 hf1
      obtain ⟨n, hn⟩ : ∃ n : Nat, n = L.length := ⟨_, rfl⟩
      rw [← hn] at h1 hle hfull
      clear hn
      go_enter Tryz.func143, Tryz.ntmps143
      go_wp2_with fail
      go_quiet ((go_at_call 160; exact Calls.quiet_of_same (takes_o C mo _ _ hc0 hlt)))
      generalize Qm.takes mo = tk at hfull hts ⊢
      go_wp2
      go_ret
      exact ⟨by rw [HA.out.1]; rfl, by rw [HA.out.2]; exact HQ.out.same (qdrewN_blw (Below.refl _ _) _)⟩
    · have HA : Hid (Qm.pushN mo L s = 0 ∧ Qm.pushL mo L s = L ++ [s]) := ⟨by unfold Qm.pushN; rw [if_neg h260, if_neg hfull], by unfold Qm.pushL; rw [if_neg h260, if_neg hfull]⟩
      have hfull' : L.length < Qm.takes mo := by omega
      clear h260 hfull
      go_enter Tryz.func143, Tryz.ntmps143
      go_wp2_with fail
      go_quiet ((go_at_call 160; exact Calls.quiet_of_same (takes_o C mo _ _ hc0 hlt)))
      have HT : Hid (L.length < Qm.takes mo) := hfull'
      generalize Qm.takes mo = tk at hfull' hts ⊢
      obtain ⟨W0, hW0⟩ : ∃ W0, W0 = w.drewN nq := ⟨_, rfl⟩
      have hb0 : Below w.heap.size w W0 := by rw [hW0]; exact qdrewN_blw (Below.refl _ _) nq
      rw [← hW0]
      obtain ⟨W1, hW1⟩ : ∃ W1, W1 = W0.alloc (.cells #[.string s] 9) := ⟨_, rfl⟩
      have hb1 : Below W0.heap.size W0 W1 := by rw [hW1]; exact (Below.refl _ _).alloc (Nat.le_refl _) _
      have hb2 : Below w.heap.size w W1 := hb0.trans (hb1.mono hb0.size)
      have Q1 : Qo W1 C G mo L sn := HQ.out.below hb2
      have HQ1 : Hid (Qo W1 C G mo L sn) := Q1
      have HB : Hid (Below w.heap.size w W1) := hb2
      have hS1 : Hid (SRow W1 a cap G L) := HS.out.kept (T := fun _ => False) (Kept.of_below hb2 (fun k hk h' => by omega)) (fun _ _ x => x)
      have hnc : Hid (W1.cell? ⟨W0.heap.size, 0, none⟩ = some (.string s)) := by rw [hW1]; show _ = _; simp
      have y1 : W0.cell? ⟨C, 8, none⟩ = some (.slice a L.length cap) := (hb0.cell (p := ⟨C, 8, none⟩) hlt).trans h1
      have ylt : C < W0.heap.size := Nat.lt_of_lt_of_le hlt hb0.size
      clear hW0 h1 hc0 hf1 HS hb0 hb1 hb2 Q1 hlt
      go_wp2_with (at_builtin; rw [← hW1]; refine append_srow rfl _ _ rfl a cap G L s W0.heap.size 1 rfl hS1.out rfl hnc.out (by omega) ?_)
      intro a' cap' G' w' hS' hK' hG'
      have hne : ¬ (G = some C) := HQ1.out.ne
      have hz : W1.heap.size = W0.heap.size + 1 := by rw [hW1]; simp
      rw [← hW1] at hK'
      rw [← hz] at hG'
      have v1 : w'.cell? ⟨C, 8, none⟩ = some (.slice a L.length cap) := by
        refine (hK'.cell (p := ⟨C, 8, none⟩) HQ1.out.lt hne).trans ?_
        rw [hW1]; exact (((Below.refl _ _).alloc (Nat.le_refl _) _).cell (p := ⟨C, 8, none⟩) ylt).trans y1
      have vf : w'.frozen? ⟨C, 8, none⟩ = false := (hK'.frozen (p := ⟨C, 8, none⟩) HQ1.out.lt hne).trans HQ1.out.f1
      have vlt : C < w'.heap.size := Nat.lt_of_lt_of_le HQ1.out.lt hK'.size
      have HM : Hid (Mvo w (w'.setCell ⟨C, 8, none⟩ (.slice a' (L.length + 1) cap')) C G mo (L ++ [s]) sn) := by
        have := HQ1.out.setRow (L' := L ++ [s]) hK' hS' hG' (by have := HQ1.out.sn; simp; omega) (by have := HT.out; simp; omega) (fun x hx => by
          simp at hx
          rcases hx with hx | rfl
          · exact HQ1.out.size x hx
          · exact h260')
        have e : (L ++ [s]).length = L.length + 1 := by simp
        rw [e] at this
        exact Mvo.ahead HLT.out HB.out this
      clear hK' hS' hG' hne hz HQ1 hS1 hnc y1 ylt hW1
      go_wp2
      go_ret
      exact ⟨by rw [HA.out.1]; rfl, by rw [HA.out.2]; exact HM.out⟩

end Go.Proofs.YtidemohpngkedabGreatDoor

namespace Go.Proofs.YtidemohpngkedabGreatDoor
open Go.RowKit
set_option linter.unusedVariables false
set_option maxRecDepth 100000
set_option linter.unusedSimpArgs false

theorem setCells_kept (g : Nat) : ∀ (vs : List Value) (o : Nat) (w : World), Kept w (w.setCells g o vs) (fun k => some g = some k)
  | [], o, w => Kept.refl w _
  | v :: r, o, w => ((Kept.refl w (fun k => some g = some k)).setCell (p := ⟨g, o, none⟩) (fun _ => rfl) v).trans (setCells_kept g r (o + 1) _) (fun _ _ h => h)

theorem clr_none (w : World) (ty : TypeId) (n c : Nat) : (Builtin.clear_ #[76] ty #[.slice none n c]).run Tryz.prog w = .ok (.tuple #[]) w := by
  simp [Builtin.clear_, run_underlying Tryz.underlying76]
theorem clr_zero (w : World) (ty : TypeId) (x : Addr) (c : Nat) : (Builtin.clear_ #[76] ty #[.slice (some x) 0 c]).run Tryz.prog w = .ok (.tuple #[]) w := by
  simp [Builtin.clear_, run_underlying Tryz.underlying76]
theorem zero_str (w : World) : (zeroValue 9).run Tryz.prog w = .ok (.string ByteArray.empty) w := by rfl

set_option maxHeartbeats 1000000 in
theorem odone_some (C sn m g off cap : Nat) (mo : Int) (L : List ByteArray) (w : World) (h : Qo w C (some g) mo L sn) (hm : m ≤ sn) (h1 : w.cell? ⟨C, 8, none⟩ = some (.slice (some ⟨g, off, none⟩) L.length cap)) (hS : SRow w (some ⟨g, off, none⟩) cap (some g) L) :
    Calls Tryz.prog 168 #[.pointer (some ⟨C, 7, none⟩), .int .i64 m] w fun e w' => e = .returned (.bool true) ∧ Mvo w w' C (some g) mo (L.drop m) (sn - m) := by
  have HH := ohasSent_any C m sn w h.c2 h.lt
  have hok : Qm.okN sn m = true := decide_eq_true (by omega)
  rw [hok] at HH
  have hlt := h.lt
  have hle := h.le
  have hsn := h.sn
  have hcp := hS.le
  have hcm := hS.mx
  have hcl : ∃ W1, (∀ ty, (Builtin.clear_ #[76] ty #[.slice (some ⟨g, off, none⟩) m cap]).run Tryz.prog w = .ok (.tuple #[]) W1) ∧ Kept w W1 (fun k => some g = some k) ∧ (∀ j, m ≤ j → W1.cell? ⟨g, off + j, none⟩ = w.cell? ⟨g, off + j, none⟩) ∧ (∀ x, W1.frozen? x = w.frozen? x) := by
    rcases Nat.eq_zero_or_pos m with rfl | hm0
    · exact ⟨w, fun ty => clr_zero w ty _ cap, Kept.refl w _, fun _ _ => rfl, fun _ => rfl⟩
    · rcases hS.row with ⟨hx, _⟩ | ⟨g', off', e1, e2, _, _, hf⟩
      · cases hx
      · injection e1 with e1
        injection e1 with e1 e3
        subst e1 e3
        refine ⟨_, fun ty => Lib.run_clear_slice w _ _ ty _ Tryz.underlying76 zero_str rfl rfl g off m cap hm0 (fun j hj => (hf j (by omega)).1) (fun j hj => (hf j (by omega)).2), setCells_kept g _ _ _, fun j hj => ?_, fun x => World.frozen?_setCells _ _ _ _ _⟩
        exact World.cell?_setCells_out g _ _ _ _ (fun _ _ => Or.inr (by simp; omega))
  obtain ⟨W1, hcl, hk1, hcell, hfz⟩ := hcl
  have hne : ¬ (some g = some C) := h.ne
  have x1 : W1.cell? ⟨C, 8, none⟩ = some (.slice (some ⟨g, off, none⟩) L.length cap) := (hk1.cell (p := ⟨C, 8, none⟩) hlt hne).trans h1
  have x2 : W1.cell? ⟨C, 9, none⟩ = some (.int .i64 sn) := (hk1.cell (p := ⟨C, 9, none⟩) hlt hne).trans h.c2
  have xf1 : W1.frozen? ⟨C, 8, none⟩ = false := (hfz _).trans h.f1
  have xf2 : W1.frozen? ⟨C, 9, none⟩ = false := (hfz _).trans h.f2
  have xlt : C < W1.heap.size := Nat.lt_of_lt_of_le hlt hk1.size
  have HK : Hid (∀ y : Nat, (m < L.length → y = off + m) → SRow W1 (some ⟨g, y, none⟩) (L.length - m) (some g) (L.drop m)) := by
    intro y hy
    rcases hS.row with ⟨hx, _⟩ | ⟨g', off', e1, e2, hg, hc, hf⟩
    · cases hx
    · injection e1 with e1
      injection e1 with e1 e3
      subst e1 e3
      refine ⟨by simp, by omega, Or.inr ⟨g, y, rfl, rfl, Nat.lt_of_lt_of_le hg hk1.size, fun i hi => ?_, fun j hj => ?_⟩⟩
      · have hi' : m + i < L.length := by simp at hi; omega
        rw [hy (by omega), Nat.add_assoc, hcell (m + i) (by omega), hc (m + i) hi']
        simp [List.getD]
      · rw [hy (by omega), Nat.add_assoc, hcell (m + j) (by omega), hfz]
        exact hf (m + j) (by omega)
  have HQ : Hid (Qo w C (some g) mo L sn) := h
  have HK1 : Hid (Kept w W1 (fun k => some g = some k)) := hk1
  have HL : Hid ((L.drop m).length = L.length - m) := by show _ = _; simp
  obtain ⟨n, hn⟩ : ∃ n : Nat, n = L.length := ⟨_, rfl⟩
  rw [← hn] at h1 hle hsn hcp x1 HL HK
  have HN : Hid (n = L.length) := hn
  have HE : Hid (∀ y : Nat, (m < n → y = off + m) → Mvo w ((W1.setCell ⟨C, 8, none⟩ (.slice (some ⟨g, y, none⟩) (n - m) (n - m))).setCell ⟨C, 9, none⟩ (.int .i64 ((sn : Int) - (m : Int)))) C (some g) mo (L.drop m) (sn - m)) := by
    intro y hy
    have := HQ.out.setBoth (sn' := sn - m) (L' := L.drop m) hk1 (HK.out y hy) (fun B hB => Or.inl hB) (by rw [HL.out]; omega) (by rw [HL.out]; have := HQ.out.len; omega) (fun x hx => HQ.out.size x (List.mem_of_mem_drop hx))
    rw [HL.out, Int.ofNat_sub hm] at this
    exact this
  unfold maxLen at hcm
  clear hok h hS hn hne hk1 hcell hfz
  go_enter Tryz.func168, Tryz.ntmps168
  go_wp2_with fail
  refine HH.mono ?_
  rintro e w1 ⟨rfl, rfl⟩
  clear HH
  go_wp2_with fail
  clear h1 hcl
  go_region
  go_wp2
  · have H2 := HE.out off (fun h => by omega)
    rw [show n - m = 0 by omega] at H2
    have H3 : Hid (Mvo w _ C (some g) mo (L.drop m) (sn - m)) := H2.drew
    clear H2 HE HK
    go_ret
    exact ⟨rfl, H3.out⟩
  · have H3 : Hid (Mvo w _ C (some g) mo (L.drop m) (sn - m)) := (HE.out (off + m) (fun h => rfl)).drew
    clear HE HK
    go_ret
    exact ⟨rfl, H3.out⟩

set_option maxHeartbeats 1000000 in
theorem odone_none (C sn : Nat) (mo : Int) (w : World) (h : Qo w C none mo [] sn) (h1 : w.cell? ⟨C, 8, none⟩ = some (.slice none 0 0)) :
    Calls Tryz.prog 168 #[.pointer (some ⟨C, 7, none⟩), .int .i64 0] w fun e w' => e = .returned (.bool true) ∧ Mvo w w' C none mo [] sn := by
  have HH := ohasSent_any C 0 sn w h.c2 h.lt
  have hok : Qm.okN sn 0 = true := decide_eq_true (by omega)
  rw [hok] at HH
  have hlt := h.lt
  have h2 := h.c2
  have hf1 := h.f1
  have hf2 := h.f2
  have hs0 : sn = 0 := by have := h.sn; simp at this; exact this
  subst hs0
  have hcl := clr_none w
  have HM : Hid (Mvo w ((w.setCell ⟨C, 8, none⟩ (.slice none 0 0)).setCell ⟨C, 9, none⟩ (.int .i64 0)).drew C none mo [] 0) :=
    (h.setBoth (L' := []) (Kept.refl _ _) (qsrow_nil w) (fun B hB => by cases hB) (Nat.le_refl _) (Nat.zero_le _) (fun x hx => by simp at hx)).drew
  clear h hok
  go_enter Tryz.func168, Tryz.ntmps168
  go_wp2_with fail
  refine HH.mono ?_
  rintro e w1 ⟨rfl, rfl⟩
  clear HH
  go_wp2_with fail
  clear hcl
  go_region
  go_wp2
  go_ret
  exact ⟨rfl, HM.out⟩

set_option maxHeartbeats 1000000 in
theorem odone_any (C sn : Nat) (G : Option Nat) (mo : Int) (L : List ByteArray) (n : Int) (w : World) (h : Qo w C G mo L sn) :
    Calls Tryz.prog 168 #[.pointer (some ⟨C, 7, none⟩), .int .i64 n] w fun e w' => e = .returned (.bool (Qm.okN sn n)) ∧ Mvo w w' C G mo (Qm.doneL L sn n) (Qm.doneS sn n) := by
  cases hk : Qm.okN sn n with
  | false =>
    have HH := ohasSent_any C n sn w h.c2 h.lt
    rw [hk] at HH
    have HM : Hid (Mvo w w C G mo (Qm.doneL L sn n) (Qm.doneS sn n)) := by
      unfold Qm.doneL Qm.doneS
      rw [hk]
      exact h.same (Below.refl _ _)
    clear hk h
    go_enter Tryz.func168, Tryz.ntmps168
    go_wp2_with fail
    refine HH.mono ?_
    rintro e w1 ⟨rfl, rfl⟩
    clear HH
    go_wp2
    go_ret
    exact ⟨rfl, HM.out⟩
  | true =>
    have hn := of_decide_eq_true hk
    obtain ⟨m, rfl⟩ : ∃ m : Nat, n = (m : Int) := ⟨n.toNat, by omega⟩
    have e1 : Qm.doneL L sn (m : Int) = L.drop m := by unfold Qm.doneL; rw [hk]; simp
    have e2 : Qm.doneS sn (m : Int) = sn - m := by unfold Qm.doneS; rw [hk]; simp
    rw [e1, e2]
    obtain ⟨a, cap, h1, h2⟩ := h.c1
    rcases h2.row with ⟨rfl, rfl, rfl⟩ | ⟨g, off, rfl, rfl, _⟩
    · have h0 : L = [] := List.eq_nil_of_length_eq_zero (by have := h2.le; omega)
      subst h0
      have hs0 : sn = 0 := by have := h.sn; simp at this; exact this
      subst hs0
      have hm0 : m = 0 := by omega
      subst hm0
      exact odone_none C 0 mo w h h1
    · exact odone_some C sn m g off cap mo L w h (by omega) h1 h2
end Go.Proofs.YtidemohpngkedabGreatDoor
