/-
  The walks of a queue's small methods, where it lies inside a flow: takes, hasSent, Sent, Left, Back, Clear, Take.
-/
import Derived.Test.YtdfoicngcahajaaDoorQoRow
import Derived.Test.YtdfoicngcahajaaDoorQueBits
import Derived.BigQuiet
namespace Go.Proofs.YtdfoicngcahajaaDoor
open Go.RowKit
set_option linter.unusedVariables false
set_option maxRecDepth 100000
set_option linter.unusedSimpArgs false

theorem Mvo.drew {w : World} {C sn : Nat} {G : Option Nat} {mo : Int} {L : List ByteArray} {w1 : World} (h : Mvo w w1 C G mo L sn) : Mvo w w1.drew C G mo L sn := h.then (Below.refl _ _).drew

set_option maxHeartbeats 400000 in
theorem otakes_any (C : Nat) (mo : Int) (w : World) (hc : w.cell? ⟨C, 7, none⟩ = some (.int .i64 mo)) (hlt : C < w.heap.size) :
    Calls Tryd.prog 80 #[.pointer (some ⟨C, 7, none⟩)] w fun e w' => e = .returned (.int .i64 (Qm.takes mo : Nat)) ∧ w' = w := by
  have HT := Qm.takes_eq mo
  rcases (show mo < 1 ∨ (1 ≤ mo ∧ mo ≤ 256) ∨ 256 < mo by omega) with h | ⟨h, h'⟩ | h
  · have HX : Hid (((Qm.takes mo : Nat) : Int) = 1) := by show _ = _; omega
    clear HT
    go_enter Tryd.func80, Tryd.ntmps80
    go_wp2
    go_ret
    exact ⟨by rw [HX.out]; rfl, rfl⟩
  · have HX : Hid (((Qm.takes mo : Nat) : Int) = mo) := by show _ = _; omega
    clear HT
    go_enter Tryd.func80, Tryd.ntmps80
    go_wp2
    go_ret
    exact ⟨by rw [HX.out]; rfl, rfl⟩
  · have HX : Hid (((Qm.takes mo : Nat) : Int) = 256) := by show _ = _; omega
    have h' : 1 ≤ mo := by omega
    clear HT
    go_enter Tryd.func80, Tryd.ntmps80
    go_wp2
    go_ret
    exact ⟨by rw [HX.out]; rfl, rfl⟩

set_option maxHeartbeats 400000 in
theorem ohasSent_any (C : Nat) (n : Int) (sn : Nat) (w : World) (hc : w.cell? ⟨C, 9, none⟩ = some (.int .i64 sn)) (hlt : C < w.heap.size) :
    Calls Tryd.prog 91 #[.pointer (some ⟨C, 7, none⟩), .int .i64 n] w fun e w' => e = .returned (.bool (Qm.okN sn n)) ∧ w = w' := by
  by_cases h1 : n < 0
  · have HT : Hid (Qm.okN sn n = false) := by unfold Qm.okN; exact decide_eq_false (by omega)
    go_enter Tryd.func91, Tryd.ntmps91
    go_wp2
    go_ret
    exact ⟨by rw [HT.out]; rfl, rfl⟩
  · have HT : Hid (Qm.okN sn n = decide (n ≤ (sn : Int))) := by unfold Qm.okN; exact decide_eq_decide.2 (by omega)
    have h1' : 0 ≤ n := by omega
    clear h1
    go_enter Tryd.func91, Tryd.ntmps91
    go_wp2
    go_ret
    exact ⟨by rw [HT.out]; rfl, rfl⟩

set_option maxHeartbeats 400000 in
theorem osent_any (C : Nat) (sn : Nat) (w : World) (hc : w.cell? ⟨C, 9, none⟩ = some (.int .i64 sn)) (hlt : C < w.heap.size) :
    Calls Tryd.prog 52 #[.pointer (some ⟨C, 7, none⟩)] w fun e w' => e = .returned (.int .i64 sn) ∧ w = w' := by
  go_enter Tryd.func52, Tryd.ntmps52
  go_wp2
  go_ret
  exact ⟨rfl, rfl⟩

set_option maxHeartbeats 400000 in
theorem oleft_any (C : Nat) (sn n cap : Nat) (a : Option Addr) (w : World) (hc : w.cell? ⟨C, 9, none⟩ = some (.int .i64 sn)) (hr : w.cell? ⟨C, 8, none⟩ = some (.slice a n cap)) (hlt : C < w.heap.size) (hs : sn ≤ n) (hn : n ≤ 1000000) :
    Calls Tryd.prog 53 #[.pointer (some ⟨C, 7, none⟩)] w fun e w' => e = .returned (.int .i64 ((n - sn : Nat) : Int)) ∧ ∃ k, w' = w.drewN k := by
  go_enter Tryd.func53, Tryd.ntmps53
  go_wp2_with fail
  go_quiet (fail)
  go_wp2
  go_ret
  exact ⟨by rw [Int.ofNat_sub hs]; rfl, nq, rfl⟩

set_option maxHeartbeats 400000 in
theorem oback_any (C sn : Nat) (G : Option Nat) (mo : Int) (L : List ByteArray) (n : Int) (w : World) (h : Qo w C G mo L sn) :
    Calls Tryd.prog 84 #[.pointer (some ⟨C, 7, none⟩), .int .i64 n] w fun e w' => e = .returned (.bool (Qm.okN sn n)) ∧ Mvo w w' C G mo L (Qm.backS sn n) := by
  have HH := ohasSent_any C n sn w h.c2 h.lt
  have hb := Qm.backS_le L sn n h.sn
  have hc2 := h.c2
  have hf2 := h.f2
  have hlt := h.lt
  have HQ : Hid (Qo w C G mo L sn) := h
  clear h
  cases hk : Qm.okN sn n with
  | false =>
    rw [hk] at HH
    have HB : Hid (Qm.backS sn n = sn) := by unfold Qm.backS; rw [hk]; rfl
    clear hk
    go_enter Tryd.func84, Tryd.ntmps84
    go_wp2_with fail
    refine HH.mono ?_
    rintro e w1 ⟨rfl, rfl⟩
    clear HH
    go_wp2
    go_ret
    exact ⟨rfl, by rw [HB.out]; exact HQ.out.same (Below.refl _ _)⟩
  | true =>
    rw [hk] at HH
    have hn := of_decide_eq_true hk
    obtain ⟨m, rfl⟩ : ∃ m : Nat, n = (m : Int) := ⟨n.toNat, by omega⟩
    have HB : Hid (Qm.backS sn (m : Int) = m) := by show _ = _; unfold Qm.backS; rw [hk]; simp
    have hm : m ≤ L.length := by have := HQ.out.sn; omega
    clear hk hb
    go_enter Tryd.func84, Tryd.ntmps84
    go_wp2_with fail
    refine HH.mono ?_
    rintro e w1 ⟨rfl, rfl⟩
    clear HH
    go_wp2
    go_ret
    exact ⟨rfl, by rw [HB.out]; exact HQ.out.setSent hm⟩

set_option maxHeartbeats 400000 in
theorem oclear_any (C sn : Nat) (G : Option Nat) (mo : Int) (L : List ByteArray) (w : World) (h : Qo w C G mo L sn) :
    Calls Tryd.prog 39 #[.pointer (some ⟨C, 7, none⟩)] w fun e w' => e = .returned (.int .i64 L.length) ∧ Mvo w w' C G mo [] 0 := by
  obtain ⟨a, cap, h1, h2⟩ := h.c1
  have hc2 := h.c2
  have hf1 := h.f1
  have hf2 := h.f2
  have hlt := h.lt
  have hle := h.le
  have HQ : Hid (Qo w C G mo L sn) := h
  clear h h2
  obtain ⟨n, hn⟩ : ∃ n : Nat, n = L.length := ⟨_, rfl⟩
  rw [← hn] at h1 hle
  have HN : Hid (n = L.length) := hn
  clear hn
  go_enter Tryd.func39, Tryd.ntmps39
  go_wp2
  go_ret
  exact ⟨by rw [← HN.out]; rfl, HQ.out.setBoth (L' := []) (Kept.refl _ _) (qsrow_nil w) (fun B hB => by cases hB) (Nat.le_refl _) (Nat.zero_le _) (fun x hx => by simp at hx)⟩

set_option maxHeartbeats 400000 in
theorem otake_any (C sn : Nat) (G : Option Nat) (mo : Int) (L : List ByteArray) (w : World) (h : Qo w C G mo L sn) :
    Calls Tryd.prog 82 #[.pointer (some ⟨C, 7, none⟩)] w fun e w' => e = .returned (.tuple #[.string (Qm.takeS L sn), .bool (Qm.takeB L sn)]) ∧ Mvo w w' C G mo L (Qm.takeN L sn) := by
  obtain ⟨a, cap, h1, h2⟩ := h.c1
  have hc2 := h.c2
  have hf2 := h.f2
  have hlt := h.lt
  have hle := h.le
  have hsn := h.sn
  have HL := oleft_any C sn L.length cap a w h.c2 h1 h.lt h.sn (by omega)
  have HQ : Hid (Qo w C G mo L sn) := h
  by_cases hs : sn < L.length
  · obtain ⟨g, off, rfl, rfl, hg, hcell⟩ := h2.nth sn hs
    have hne : g ≠ C := fun e => h.ne (by rw [e])
    have HA : Hid (Qm.takeB L sn = true ∧ Qm.takeN L sn = sn + 1) := ⟨decide_eq_true hs, by unfold Qm.takeN; rw [if_pos hs]⟩
    clear h h2
    go_enter Tryd.func82, Tryd.ntmps82
    go_wp2_with fail
    refine HL.mono ?_
    rintro e w1 ⟨rfl, k, rfl⟩
    clear HL
    have hq : ((L.length - sn : Nat) : Int) ≠ 0 := by omega
    obtain ⟨d, hd⟩ : ∃ d : Nat, d = L.length - sn := ⟨_, rfl⟩
    rw [← hd] at hq ⊢
    have hq' : ((d : Int) == 0) = false := by simpa using hq
    clear hd hq
    go_wp2_with fail
    have HM : Hid (Mvo w ((w.drewN k).setCell ⟨C, 9, none⟩ (.int .i64 ((sn + 1 : Nat) : Int))) C (some g) mo L (sn + 1)) := Mvo.ahead HQ.out.lt (qdrewN_blw (Below.refl _ _) k) ((HQ.out.below (qdrewN_blw (Below.refl _ _) k)).setSent (by omega))
    obtain ⟨W1, hW1⟩ : ∃ W1, W1 = (w.drewN k).setCell ⟨C, 9, none⟩ (.int .i64 ((sn : Int) + 1)) := ⟨_, rfl⟩
    have e : (((sn + 1 : Nat) : Nat) : Int) = (sn : Int) + 1 := by omega
    rw [e, ← hW1] at HM
    rw [← hW1]
    have x1 : W1.cell? ⟨C, 8, none⟩ = some (.slice (some ⟨g, off, none⟩) L.length cap) := by
      rw [hW1, World.cell?_setCell_other _ _ _ _ (fun h => by injection h with _ h2; omega)]; exact ((qdrewN_blw (Below.refl w.heap.size w) k).cell (p := ⟨C, 8, none⟩) hlt).trans h1
    have x2 : W1.cell? ⟨C, 9, none⟩ = some (.int .i64 ((sn : Int) + 1)) := by
      rw [hW1]; exact World.cell?_setCell_same' _ ⟨C, 9, none⟩ _ (by rw [((qdrewN_blw (Below.refl w.heap.size w) k).cell (p := ⟨C, 9, none⟩) hlt).trans hc2]; rfl)
    have x3 : W1.cell? ⟨g, off + sn, none⟩ = some (.string (L.getD sn ByteArray.empty)) := by
      rw [hW1, World.cell?_setCell_other _ _ _ _ (fun h => by injection h with h1 h2; exact hne h1.symm)]; exact ((qdrewN_blw (Below.refl w.heap.size w) k).cell (p := ⟨g, off + sn, none⟩) hg).trans hcell
    obtain ⟨x, hx⟩ : ∃ x, x = L.getD sn ByteArray.empty := ⟨_, rfl⟩
    have HX : Hid (Qm.takeS L sn = x) := hx.symm
    rw [← hx] at x3
    obtain ⟨n, hn⟩ : ∃ n : Nat, n = L.length := ⟨_, rfl⟩
    rw [← hn] at x1 hle hsn hs
    clear hx hn hW1 h1 hc2 hf2 hcell e
    go_quiet (fail)
    go_wp2
    go_ret2
    exact ⟨by rw [HX.out, HA.out.1]; rfl, by rw [HA.out.2]; exact HM.out.then (qdrewN_blw (Below.refl _ _) _)⟩
  · have hse : sn = L.length := by omega
    have HA : Hid (Qm.takeB L sn = false ∧ Qm.takeN L sn = sn ∧ Qm.takeS L sn = ByteArray.empty) := ⟨decide_eq_false hs, by unfold Qm.takeN; rw [if_neg hs], by unfold Qm.takeS; rw [hse]; simp [List.getD]⟩
    have e0 : ((L.length - sn : Nat) : Int) = 0 := by omega
    rw [e0] at HL
    clear h h2 e0 hse hs h1 hc2 hf2
    go_enter Tryd.func82, Tryd.ntmps82
    go_wp2_with fail
    refine HL.mono ?_
    rintro e w1 ⟨rfl, k, rfl⟩
    clear HL
    go_wp2
    go_ret2
    exact ⟨by rw [HA.out.1, HA.out.2.2]; rfl, by rw [HA.out.2.1]; exact HQ.out.same (qdrewN_blw (Below.refl _ _) _)⟩
end Go.Proofs.YtdfoicngcahajaaDoor
