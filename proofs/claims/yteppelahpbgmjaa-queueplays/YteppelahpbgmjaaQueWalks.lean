/-
  The walks of a queue's small methods: New, takes, hasSent, Sent, Left, Back, Clear, Take.
-/
import Derived.Test.YteppelahpbgmjaaQueRow
import Derived.BigQuiet
namespace Go.Proofs.Yteppelahpbgmjaa
open Go.RowKit
set_option linter.unusedVariables false
set_option linter.unusedSimpArgs false

theorem new_qu (w : World) (T : TypeId) (mo : Int) : Qu (w.alloc (.cells #[.int .i64 mo, .slice none 0 0, .int .i64 0] T)) w.heap.size none mo [] 0 :=
  ⟨by simp, by simp, ⟨none, 0, by simp, ⟨Nat.le_refl _, Nat.zero_le _, Or.inl ⟨rfl, rfl, rfl⟩⟩⟩, by simp, by simp, by simp, by simp, (fun e => by cases e), Nat.le_refl _, Nat.zero_le _, fun x h => by simp at h⟩

set_option maxHeartbeats 400000 in
theorem new_any (mo : Int) (w : World) : Calls Try.prog 8 #[.int .i64 mo] w fun e w' => e = .returned (.pointer (some ⟨w.heap.size, 0, none⟩)) ∧ Qu w' w.heap.size none mo [] 0 ∧ Below w.heap.size w w' := by
  go_enter Try.func8, Try.ntmps8
  go_wp2
  go_ret
  exact ⟨rfl, new_qu w _ mo, (Below.refl _ _).alloc (Nat.le_refl _) _⟩

set_option maxHeartbeats 400000 in
theorem takes_any (C : Nat) (mo : Int) (w : World) (hc : w.cell? ⟨C, 0, none⟩ = some (.int .i64 mo)) (hlt : C < w.heap.size) :
    Calls Try.prog 25 #[.pointer (some ⟨C, 0, none⟩)] w fun e w' => e = .returned (.int .i64 (Qm.takes mo : Nat)) ∧ w' = w := by
  have HT := Qm.takes_eq mo
  rcases (show mo < 1 ∨ (1 ≤ mo ∧ mo ≤ 256) ∨ 256 < mo by omega) with h | ⟨h, h'⟩ | h
  · have HX : Hid (((Qm.takes mo : Nat) : Int) = 1) := by show _ = _; omega
    clear HT
    go_enter Try.func25, Try.ntmps25
    go_wp2
    go_ret
    exact ⟨by rw [HX.out]; rfl, rfl⟩
  · have HX : Hid (((Qm.takes mo : Nat) : Int) = mo) := by show _ = _; omega
    clear HT
    go_enter Try.func25, Try.ntmps25
    go_wp2
    go_ret
    exact ⟨by rw [HX.out]; rfl, rfl⟩
  · have HX : Hid (((Qm.takes mo : Nat) : Int) = 256) := by show _ = _; omega
    have h' : 1 ≤ mo := by omega
    clear HT
    go_enter Try.func25, Try.ntmps25
    go_wp2
    go_ret
    exact ⟨by rw [HX.out]; rfl, rfl⟩

set_option maxHeartbeats 400000 in
theorem hasSent_any (C : Nat) (n : Int) (sn : Nat) (w : World) (hc : w.cell? ⟨C, 2, none⟩ = some (.int .i64 sn)) (hlt : C < w.heap.size) :
    Calls Try.prog 24 #[.pointer (some ⟨C, 0, none⟩), .int .i64 n] w fun e w' => e = .returned (.bool (Qm.okN sn n)) ∧ w = w' := by
  by_cases h1 : n < 0
  · have HT : Hid (Qm.okN sn n = false) := by unfold Qm.okN; exact decide_eq_false (by omega)
    go_enter Try.func24, Try.ntmps24
    go_wp2
    go_ret
    exact ⟨by rw [HT.out]; rfl, rfl⟩
  · have HT : Hid (Qm.okN sn n = decide (n ≤ (sn : Int))) := by unfold Qm.okN; exact decide_eq_decide.2 (by omega)
    have h1' : 0 ≤ n := by omega
    clear h1
    go_enter Try.func24, Try.ntmps24
    go_wp2
    go_ret
    exact ⟨by rw [HT.out]; rfl, rfl⟩

set_option maxHeartbeats 400000 in
theorem sent_any (C : Nat) (sn : Nat) (w : World) (hc : w.cell? ⟨C, 2, none⟩ = some (.int .i64 sn)) (hlt : C < w.heap.size) :
    Calls Try.prog 22 #[.pointer (some ⟨C, 0, none⟩)] w fun e w' => e = .returned (.int .i64 sn) ∧ w = w' := by
  go_enter Try.func22, Try.ntmps22
  go_wp2
  go_ret
  exact ⟨rfl, rfl⟩

set_option maxHeartbeats 400000 in
theorem left_any (C : Nat) (sn n cap : Nat) (a : Option Addr) (w : World) (hc : w.cell? ⟨C, 2, none⟩ = some (.int .i64 sn)) (hr : w.cell? ⟨C, 1, none⟩ = some (.slice a n cap)) (hlt : C < w.heap.size) (hs : sn ≤ n) (hn : n ≤ 1000000) :
    Calls Try.prog 23 #[.pointer (some ⟨C, 0, none⟩)] w fun e w' => e = .returned (.int .i64 ((n - sn : Nat) : Int)) ∧ ∃ k, w' = w.drewN k := by
  go_enter Try.func23, Try.ntmps23
  go_wp2_with fail
  go_quiet (fail)
  go_wp2
  go_ret
  exact ⟨by rw [Int.ofNat_sub hs]; rfl, nq, rfl⟩

theorem Mvq.drew {w : World} {C sn : Nat} {G : Option Nat} {mo : Int} {L : List ByteArray} {w1 : World} (h : Mvq w w1 C G mo L sn) : Mvq w w1.drew C G mo L sn := h.then (Below.refl _ _).drew
theorem drewN_blw {B : Nat} {a b : World} (h : Below B a b) : ∀ n, Below B a (b.drewN n)
  | 0 => h
  | n + 1 => (drewN_blw h n).drew

set_option maxHeartbeats 400000 in
theorem back_any (C sn : Nat) (G : Option Nat) (mo : Int) (L : List ByteArray) (n : Int) (w : World) (h : Qu w C G mo L sn) :
    Calls Try.prog 15 #[.pointer (some ⟨C, 0, none⟩), .int .i64 n] w fun e w' => e = .returned (.bool (Qm.okN sn n)) ∧ Mvq w w' C G mo L (Qm.backS sn n) := by
  have HH := hasSent_any C n sn w h.c2 h.lt
  have hb := Qm.backS_le L sn n h.sn
  have hc2 := h.c2
  have hf2 := h.f2
  have hlt := h.lt
  have HQ : Hid (Qu w C G mo L sn) := h
  clear h
  cases hk : Qm.okN sn n with
  | false =>
    rw [hk] at HH
    have HB : Hid (Qm.backS sn n = sn) := by unfold Qm.backS; rw [hk]; rfl
    clear hk
    go_enter Try.func15, Try.ntmps15
    go_wp2_with fail
    refine HH.mono ?_
    rintro e w1 ⟨rfl, rfl⟩
    clear HH
    go_wp2
    go_ret
    exact ⟨rfl, by rw [HB.out]; exact HQ.out.same (Below.refl _ _)⟩
  | true =>
    rw [hk] at HH
    have hn := of_decide_eq_true hk
    obtain ⟨m, rfl⟩ : ∃ m : Nat, n = (m : Int) := ⟨n.toNat, by omega⟩
    have HB : Hid (Qm.backS sn (m : Int) = m) := by show _ = _; unfold Qm.backS; rw [hk]; simp
    have hm : m ≤ L.length := by have := HQ.out.sn; omega
    clear hk hb
    go_enter Try.func15, Try.ntmps15
    go_wp2_with fail
    refine HH.mono ?_
    rintro e w1 ⟨rfl, rfl⟩
    clear HH
    go_wp2
    go_ret
    exact ⟨rfl, by rw [HB.out]; exact HQ.out.setSent hm⟩

set_option maxHeartbeats 400000 in
theorem clear_any (C sn : Nat) (G : Option Nat) (mo : Int) (L : List ByteArray) (w : World) (h : Qu w C G mo L sn) :
    Calls Try.prog 17 #[.pointer (some ⟨C, 0, none⟩)] w fun e w' => e = .returned (.int .i64 L.length) ∧ Mvq w w' C G mo [] 0 := by
  obtain ⟨a, cap, h1, h2⟩ := h.c1
  have hc2 := h.c2
  have hf1 := h.f1
  have hf2 := h.f2
  have hlt := h.lt
  have hle := h.le
  have HQ : Hid (Qu w C G mo L sn) := h
  clear h h2
  obtain ⟨n, hn⟩ : ∃ n : Nat, n = L.length := ⟨_, rfl⟩
  rw [← hn] at h1 hle
  have HN : Hid (n = L.length) := hn
  clear hn
  go_enter Try.func17, Try.ntmps17
  go_wp2
  go_ret
  exact ⟨by rw [← HN.out]; rfl, HQ.out.setBoth (L' := []) (Kept.refl _ _) (srow_nil w) (fun B hB => by cases hB) (Nat.le_refl _) (Nat.zero_le _) (fun x hx => by simp at hx)⟩

set_option maxHeartbeats 400000 in
theorem take_any (C sn : Nat) (G : Option Nat) (mo : Int) (L : List ByteArray) (w : World) (h : Qu w C G mo L sn) :
    Calls Try.prog 11 #[.pointer (some ⟨C, 0, none⟩)] w fun e w' => e = .returned (.tuple #[.string (Qm.takeS L sn), .bool (Qm.takeB L sn)]) ∧ Mvq w w' C G mo L (Qm.takeN L sn) := by
  obtain ⟨a, cap, h1, h2⟩ := h.c1
  have hc2 := h.c2
  have hf2 := h.f2
  have hlt := h.lt
  have hle := h.le
  have hsn := h.sn
  have HL := left_any C sn L.length cap a w h.c2 h1 h.lt h.sn (by omega)
  have HQ : Hid (Qu w C G mo L sn) := h
  by_cases hs : sn < L.length
  · obtain ⟨g, off, rfl, rfl, hg, hcell⟩ := h2.nth sn hs
    have hne : g ≠ C := fun e => h.ne (by rw [e])
    have HA : Hid (Qm.takeB L sn = true ∧ Qm.takeN L sn = sn + 1) := ⟨decide_eq_true hs, by unfold Qm.takeN; rw [if_pos hs]⟩
    clear h h2
    go_enter Try.func11, Try.ntmps11
    go_wp2_with fail
    refine HL.mono ?_
    rintro e w1 ⟨rfl, k, rfl⟩
    clear HL
    have hq : ((L.length - sn : Nat) : Int) ≠ 0 := by omega
    obtain ⟨d, hd⟩ : ∃ d : Nat, d = L.length - sn := ⟨_, rfl⟩
    rw [← hd] at hq ⊢
    have hq' : ((d : Int) == 0) = false := by simpa using hq
    clear hd hq
    go_wp2_with fail
    have HM : Hid (Mvq w ((w.drewN k).setCell ⟨C, 2, none⟩ (.int .i64 ((sn + 1 : Nat) : Int))) C (some g) mo L (sn + 1)) := Mvq.ahead (drewN_blw (Below.refl _ _) k) ((HQ.out.below (drewN_blw (Below.refl _ _) k)).setSent (by omega))
    obtain ⟨W1, hW1⟩ : ∃ W1, W1 = (w.drewN k).setCell ⟨C, 2, none⟩ (.int .i64 ((sn : Int) + 1)) := ⟨_, rfl⟩
    have e : (((sn + 1 : Nat) : Nat) : Int) = (sn : Int) + 1 := by omega
    rw [e, ← hW1] at HM
    rw [← hW1]
    have x1 : W1.cell? ⟨C, 1, none⟩ = some (.slice (some ⟨g, off, none⟩) L.length cap) := by
      rw [hW1, World.cell?_setCell_other _ _ _ _ (fun h => by injection h with _ h2; omega)]; exact ((drewN_blw (Below.refl w.heap.size w) k).cell (p := ⟨C, 1, none⟩) hlt).trans h1
    have x2 : W1.cell? ⟨C, 2, none⟩ = some (.int .i64 ((sn : Int) + 1)) := by
      rw [hW1]; exact World.cell?_setCell_same' _ ⟨C, 2, none⟩ _ (by rw [((drewN_blw (Below.refl w.heap.size w) k).cell (p := ⟨C, 2, none⟩) hlt).trans hc2]; rfl)
    have x3 : W1.cell? ⟨g, off + sn, none⟩ = some (.string (L.getD sn ByteArray.empty)) := by
      rw [hW1, World.cell?_setCell_other _ _ _ _ (fun h => by injection h with h1 h2; exact hne h1.symm)]; exact ((drewN_blw (Below.refl w.heap.size w) k).cell (p := ⟨g, off + sn, none⟩) hg).trans hcell
    obtain ⟨x, hx⟩ : ∃ x, x = L.getD sn ByteArray.empty := ⟨_, rfl⟩
    have HX : Hid (Qm.takeS L sn = x) := hx.symm
    rw [← hx] at x3
    obtain ⟨n, hn⟩ : ∃ n : Nat, n = L.length := ⟨_, rfl⟩
    rw [← hn] at x1 hle hsn hs
    clear hx hn hW1 h1 hc2 hf2 hcell e
    go_quiet (fail)
    go_wp2
    go_ret2
    exact ⟨by rw [HX.out, HA.out.1]; rfl, by rw [HA.out.2]; exact HM.out.then (drewN_blw (Below.refl _ _) _)⟩
  · have hse : sn = L.length := by omega
    have HA : Hid (Qm.takeB L sn = false ∧ Qm.takeN L sn = sn ∧ Qm.takeS L sn = ByteArray.empty) := ⟨decide_eq_false hs, by unfold Qm.takeN; rw [if_neg hs], by unfold Qm.takeS; rw [hse]; simp [List.getD]⟩
    have e0 : ((L.length - sn : Nat) : Int) = 0 := by omega
    rw [e0] at HL
    clear h h2 e0 hse hs h1 hc2 hf2
    go_enter Try.func11, Try.ntmps11
    go_wp2_with fail
    refine HL.mono ?_
    rintro e w1 ⟨rfl, k, rfl⟩
    clear HL
    go_wp2
    go_ret2
    exact ⟨by rw [HA.out.1, HA.out.2.2]; rfl, by rw [HA.out.2.1]; exact HQ.out.same (drewN_blw (Below.refl _ _) _)⟩
end Go.Proofs.Yteppelahpbgmjaa
