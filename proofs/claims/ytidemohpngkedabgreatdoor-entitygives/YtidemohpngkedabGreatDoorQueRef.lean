/-
  The walks of the document's queue: New, Push, Take, Done, Back, Clear.
-/
import Derived.Test.YtidemohpngkedabGreatDoorQueBits
import Derived.BigQuiet
namespace Go.Proofs.YtidemohpngkedabGreatDoor
open Go.RowKit
set_option linter.unusedVariables false
set_option maxRecDepth 100000
set_option linter.unusedSimpArgs false

set_option maxHeartbeats 400000 in
theorem rnew_any (mo : Int) (w : World) : Calls Tryz.prog 52 #[.int .i64 mo] w fun e w' => e = .returned (.pointer (some ⟨w.heap.size, 0, none⟩)) ∧ Qu w' w.heap.size none (Qm.takes mo : Nat) [] 0 ∧ Below w.heap.size w w' := by
  have HT := Qm.takes_eq mo
  rcases (show mo < 1 ∨ (1 ≤ mo ∧ mo ≤ 256) ∨ 256 < mo by omega) with h | ⟨h, h'⟩ | h
  · have HX : Hid (((Qm.takes mo : Nat) : Int) = 1) := by show _ = _; omega
    clear HT
    go_enter Tryz.func52, Tryz.ntmps52
    go_wp2
    go_ret
    exact ⟨rfl, by rw [HX.out]; exact new_qu w _ _, (Below.refl _ _).alloc (Nat.le_refl _) _⟩
  · have HX : Hid (((Qm.takes mo : Nat) : Int) = mo) := by show _ = _; omega
    clear HT
    go_enter Tryz.func52, Tryz.ntmps52
    go_wp2
    go_ret
    exact ⟨rfl, by rw [HX.out]; exact new_qu w _ _, (Below.refl _ _).alloc (Nat.le_refl _) _⟩
  · have HX : Hid (((Qm.takes mo : Nat) : Int) = 256) := by show _ = _; omega
    have h' : 1 ≤ mo := by omega
    clear HT
    go_enter Tryz.func52, Tryz.ntmps52
    go_wp2
    go_ret
    exact ⟨rfl, by rw [HX.out]; exact new_qu w _ _, (Below.refl _ _).alloc (Nat.le_refl _) _⟩

set_option maxHeartbeats 400000 in
theorem rback_any (C sn : Nat) (G : Option Nat) (mo : Int) (L : List ByteArray) (n : Int) (w : World) (h : Qu w C G mo L sn) :
    Calls Tryz.prog 156 #[.pointer (some ⟨C, 0, none⟩), .int .i64 n] w fun e w' => e = .returned (.bool (Qm.okN sn n)) ∧ Mvq w w' C G mo L (Qm.backS sn n) := by
  have hc2 := h.c2
  have hf2 := h.f2
  have hlt := h.lt
  have HQ : Hid (Qu w C G mo L sn) := h
  have hsl := h.sn
  clear h
  by_cases h1 : n < 0
  · have hk : Qm.okN sn n = false := decide_eq_false (by omega)
    have HB : Hid (Qm.okN sn n = false ∧ Qm.backS sn n = sn) := ⟨hk, by unfold Qm.backS; rw [hk]; rfl⟩
    clear hk
    go_enter Tryz.func156, Tryz.ntmps156
    go_wp2
    go_ret
    exact ⟨by rw [HB.out.1]; rfl, by rw [HB.out.2]; exact HQ.out.same (Below.refl _ _)⟩
  · obtain ⟨m, rfl⟩ : ∃ m : Nat, n = (m : Int) := ⟨n.toNat, by omega⟩
    by_cases h2 : sn < m
    · have hk : Qm.okN sn (m : Int) = false := decide_eq_false (by omega)
      have HB : Hid (Qm.okN sn (m : Int) = false ∧ Qm.backS sn (m : Int) = sn) := ⟨hk, by unfold Qm.backS; rw [hk]; rfl⟩
      clear hk h1
      go_enter Tryz.func156, Tryz.ntmps156
      go_wp2
      go_ret
      exact ⟨by rw [HB.out.1]; rfl, by rw [HB.out.2]; exact HQ.out.same (Below.refl _ _)⟩
    · have hk : Qm.okN sn (m : Int) = true := decide_eq_true (by omega)
      have HB : Hid (Qm.okN sn (m : Int) = true ∧ Qm.backS sn (m : Int) = m) := ⟨hk, by unfold Qm.backS; rw [hk]; simp⟩
      have h2' : m ≤ sn := by omega
      clear hk h1 h2
      go_enter Tryz.func156, Tryz.ntmps156
      go_wp2
      go_ret
      exact ⟨by rw [HB.out.1]; rfl, by rw [HB.out.2]; exact HQ.out.setSent (by omega)⟩

set_option maxHeartbeats 400000 in
theorem rclear_any (C sn : Nat) (G : Option Nat) (mo : Int) (L : List ByteArray) (w : World) (h : Qu w C G mo L sn) :
    Calls Tryz.prog 135 #[.pointer (some ⟨C, 0, none⟩)] w fun e w' => e = .returned (.int .i64 L.length) ∧ Mvq w w' C G mo [] 0 := by
  obtain ⟨a, cap, h1, h2⟩ := h.c1
  have hc2 := h.c2
  have hf1 := h.f1
  have hf2 := h.f2
  have hlt := h.lt
  have hle := h.le
  have HQ : Hid (Qu w C G mo L sn) := h
  clear h h2
  obtain ⟨n, hn⟩ : ∃ n : Nat, n = L.length := ⟨_, rfl⟩
  rw [← hn] at h1 hle
  have HN : Hid (n = L.length) := hn
  clear hn
  go_enter Tryz.func135, Tryz.ntmps135
  go_wp2
  go_ret
  exact ⟨by rw [← HN.out]; rfl, HQ.out.setBoth (L' := []) (Kept.refl _ _) (qsrow_nil w) (fun B hB => by cases hB) (Nat.le_refl _) (Nat.zero_le _) (fun x hx => by simp at hx)⟩

set_option maxHeartbeats 400000 in
theorem rtake_any (C sn : Nat) (G : Option Nat) (mo : Int) (L : List ByteArray) (w : World) (h : Qu w C G mo L sn) :
    Calls Tryz.prog 154 #[.pointer (some ⟨C, 0, none⟩)] w fun e w' => e = .returned (.tuple #[.string (Qm.takeS L sn), .bool (Qm.takeB L sn)]) ∧ Mvq w w' C G mo L (Qm.takeN L sn) := by
  obtain ⟨a, cap, h1, h2⟩ := h.c1
  have hc2 := h.c2
  have hf2 := h.f2
  have hlt := h.lt
  have hle := h.le
  have hsn := h.sn
  have HQ : Hid (Qu w C G mo L sn) := h
  by_cases hs : sn < L.length
  · obtain ⟨g, off, rfl, rfl, hg, hcell⟩ := h2.nth sn hs
    have hcp := h2.le
    have HA : Hid (Qm.takeB L sn = true ∧ Qm.takeN L sn = sn + 1) := ⟨decide_eq_true hs, by unfold Qm.takeN; rw [if_pos hs]⟩
    obtain ⟨x, hx⟩ : ∃ x, x = L.getD sn ByteArray.empty := ⟨_, rfl⟩
    have HX : Hid (Qm.takeS L sn = x) := hx.symm
    rw [← hx] at hcell
    obtain ⟨n, hn⟩ : ∃ n : Nat, n = L.length := ⟨_, rfl⟩
    have HM : Hid (∀ k, Mvq w (((w.drewN k)).setCell ⟨C, 2, none⟩ (.int .i64 ((sn : Int) + 1))) C (some g) mo L (sn + 1)) := by
      intro k
      have := Mvq.ahead (qdrewN_blw (Below.refl _ _) k) ((HQ.out.below (qdrewN_blw (Below.refl _ _) k)).setSent (sn' := sn + 1) (by omega))
      have e : (((sn + 1 : Nat) : Nat) : Int) = (sn : Int) + 1 := by omega
      rw [e] at this
      exact this
    rw [← hn] at h1 hle hsn hs hcp
    have hne : ((sn : Int) == (n : Int)) = false := by simp; omega
    clear h h2 hx hn
    go_enter Tryz.func154, Tryz.ntmps154
    go_wp2_with fail
    go_quiet (fail)
    go_wp2_with fail
    go_quiet (fail)
    go_wp2
    go_ret2
    exact ⟨by rw [HX.out, HA.out.1]; rfl, by rw [HA.out.2]; exact HM.out _⟩
  · have hse : sn = L.length := by omega
    have HA : Hid (Qm.takeB L sn = false ∧ Qm.takeN L sn = sn ∧ Qm.takeS L sn = ByteArray.empty) := ⟨decide_eq_false hs, by unfold Qm.takeN; rw [if_neg hs], by unfold Qm.takeS; rw [hse]; simp [List.getD]⟩
    rw [← hse] at h1 hle
    clear h h2 hse hs hf2 hsn
    go_enter Tryz.func154, Tryz.ntmps154
    go_wp2_with fail
    go_quiet (fail)
    go_wp2
    go_ret2
    exact ⟨by rw [HA.out.1, HA.out.2.2]; rfl, by rw [HA.out.2.1]; exact HQ.out.same (qdrewN_blw (Below.refl _ _) _)⟩

set_option maxHeartbeats 1000000 in
theorem rpush_any (C sn : Nat) (G : Option Nat) (mo : Int) (L : List ByteArray) (s : ByteArray) (w : World) (h : Qu w C G mo L sn) (hmo : ((Qm.takes mo : Nat) : Int) = mo) (hs : s.size ≤ 9223372036854775807) :
    Calls Tryz.prog 109 #[.pointer (some ⟨C, 0, none⟩), .string s] w fun e w' => e = .returned (.int .i64 (Qm.pushN mo L s)) ∧ Mvq w w' C G mo (Qm.pushL mo L s) sn := by
  obtain ⟨a, cap, h1, h2⟩ := h.c1
  have hc0 := h.c0
  have hf1 := h.f1
  have hlt := h.lt
  have hle := h.le
  have hts := Qm.takes_le mo
  have HQ : Hid (Qu w C G mo L sn) := h
  have HS : Hid (SRow w a cap G L) := h2
  have hlen := h.len
  rw [← hmo] at hc0
  clear h h2 hmo
  by_cases h260 : 260 < s.size
  · have HA : Hid (Qm.pushN mo L s = 5 ∧ Qm.pushL mo L s = L) := ⟨by unfold Qm.pushN; rw [if_pos h260], by unfold Qm.pushL; rw [if_pos h260]⟩
    clear h1 hc0 hf1
    go_enter Tryz.func109, Tryz.ntmps109
    go_wp2
    go_ret
    exact ⟨by rw [HA.out.1]; rfl, by rw [HA.out.2]; exact HQ.out.same (Below.refl _ _)⟩
  · have h260' : s.size ≤ 260 := by omega
    by_cases hfull : Qm.takes mo ≤ L.length
    · have HA : Hid (Qm.pushN mo L s = 10 ∧ Qm.pushL mo L s = L) := ⟨by unfold Qm.pushN; rw [if_neg h260, if_pos hfull], by unfold Qm.pushL; rw [if_neg h260, if_pos hfull]⟩
      have he : Qm.takes mo = L.length := by omega
      rw [he] at hc0 hts
      clear h260 hf1 hfull he hlen
      obtain ⟨n, hn⟩ : ∃ n : Nat, n = L.length := ⟨_, rfl⟩
      rw [← hn] at h1 hle hc0
      clear hn
      go_enter Tryz.func109, Tryz.ntmps109
      go_wp2_with fail
      go_quiet (fail)
      go_wp2
      go_ret
      exact ⟨by rw [HA.out.1]; rfl, by rw [HA.out.2]; exact HQ.out.same (qdrewN_blw (Below.refl _ _) _)⟩
    · have HA : Hid (Qm.pushN mo L s = 0 ∧ Qm.pushL mo L s = L ++ [s]) := ⟨by unfold Qm.pushN; rw [if_neg h260, if_neg hfull], by unfold Qm.pushL; rw [if_neg h260, if_neg hfull]⟩
      have HT : Hid (L.length < Qm.takes mo) := by show _ < _; omega
      have hne : ((L.length : Int) == ((Qm.takes mo : Nat) : Int)) = false := by simp; omega
      generalize Qm.takes mo = tk at hne hts hc0
      clear h260 hfull hlen
      go_enter Tryz.func109, Tryz.ntmps109
      go_wp2_with fail
      go_quiet (fail)
      obtain ⟨W0, hW0⟩ : ∃ W0, W0 = w.drewN nq := ⟨_, rfl⟩
      have hb0 : Below w.heap.size w W0 := by rw [hW0]; exact qdrewN_blw (Below.refl _ _) nq
      rw [← hW0]
      obtain ⟨W1, hW1⟩ : ∃ W1, W1 = W0.alloc (.cells #[.string s] 9) := ⟨_, rfl⟩
      have hb1 : Below W0.heap.size W0 W1 := by rw [hW1]; exact (Below.refl _ _).alloc (Nat.le_refl _) _
      have hb2 : Below w.heap.size w W1 := hb0.trans (hb1.mono hb0.size)
      have Q1 : Qu W1 C G mo L sn := HQ.out.below hb2
      have HQ1 : Hid (Qu W1 C G mo L sn) := Q1
      have HB : Hid (Below w.heap.size w W1) := hb2
      have hS1 : Hid (SRow W1 a cap G L) := HS.out.kept (T := fun _ => False) (Kept.of_below hb2 (fun k hk h' => by omega)) (fun _ _ x => x)
      have hnc : Hid (W1.cell? ⟨W0.heap.size, 0, none⟩ = some (.string s)) := by rw [hW1]; show _ = _; simp
      have y1 : W0.cell? ⟨C, 1, none⟩ = some (.slice a L.length cap) := (hb0.cell (p := ⟨C, 1, none⟩) hlt).trans h1
      have ylt : C < W0.heap.size := Nat.lt_of_lt_of_le hlt hb0.size
      clear hW0 h1 hc0 hf1 HS hb0 hb1 hb2 Q1 hlt
      go_wp2_with (at_builtin; rw [← hW1]; refine append_srow rfl _ _ rfl a cap G L s W0.heap.size 1 rfl hS1.out rfl hnc.out (by omega) ?_)
      intro a' cap' G' w' hS' hK' hG'
      have hne2 : ¬ (G = some C) := HQ1.out.ne
      have hz : W1.heap.size = W0.heap.size + 1 := by rw [hW1]; simp
      rw [← hW1] at hK'
      rw [← hz] at hG'
      have v1 : w'.cell? ⟨C, 1, none⟩ = some (.slice a L.length cap) := by
        refine (hK'.cell (p := ⟨C, 1, none⟩) HQ1.out.lt hne2).trans ?_
        rw [hW1]; exact (((Below.refl _ _).alloc (Nat.le_refl _) _).cell (p := ⟨C, 1, none⟩) ylt).trans y1
      have vf : w'.frozen? ⟨C, 1, none⟩ = false := (hK'.frozen (p := ⟨C, 1, none⟩) HQ1.out.lt hne2).trans HQ1.out.f1
      have vlt : C < w'.heap.size := Nat.lt_of_lt_of_le HQ1.out.lt hK'.size
      have HM : Hid (Mvq w (w'.setCell ⟨C, 1, none⟩ (.slice a' (L.length + 1) cap')) C G mo (L ++ [s]) sn) := by
        have := HQ1.out.setRow (L' := L ++ [s]) hK' hS' hG' (by have := HQ1.out.sn; simp; omega) (by have := HT.out; simp; omega) (fun x hx => by
          simp at hx
          rcases hx with hx | rfl
          · exact HQ1.out.size x hx
          · exact h260')
        have e : (L ++ [s]).length = L.length + 1 := by simp
        rw [e] at this
        exact Mvq.ahead HB.out this
      clear hK' hS' hG' hne2 hz HQ1 hS1 hnc y1 ylt hW1 hne
      go_wp2
      go_ret
      exact ⟨by rw [HA.out.1]; rfl, by rw [HA.out.2]; exact HM.out⟩

theorem take_more (K : List ByteArray) (j : Nat) (h : j < K.length) : K.take (j + 1) = K.take j ++ [K.getD j ByteArray.empty] := by
  rw [List.take_succ_eq_append_getElem h]
  simp [List.getD, List.getElem?_eq_getElem h]

set_option maxHeartbeats 2000000 in
theorem rdone_ok (C sn m : Nat) (G : Option Nat) (mo : Int) (L : List ByteArray) (w : World) (h : Qu w C G mo L sn) (hm : m ≤ sn) :
    Calls Tryz.prog 159 #[.pointer (some ⟨C, 0, none⟩), .int .i64 m] w fun e w' => e = .returned (.bool true) ∧ Mvq w w' C G mo (L.drop m) (sn - m) := by
  obtain ⟨a, cap, h1, h2⟩ := h.c1
  have hc2 := h.c2
  have hf1 := h.f1
  have hf2 := h.f2
  have hlt := h.lt
  have hle := h.le
  have hsn := h.sn
  have hcp := h2.le
  have HQ : Hid (Qu w C G mo L sn) := h
  have HS : Hid (SRow w a cap G L) := h2
  obtain ⟨n, hn⟩ : ∃ n : Nat, n = L.length := ⟨_, rfl⟩
  have HN : Hid (n = L.length) := hn
  rw [← hn] at h1 hle hsn hcp
  clear h h2 hn
  have q1 : decide ((m : Int) < 0) = false := decide_eq_false (by omega)
  have q2 : decide (sn < m) = false := decide_eq_false (by omega)
  go_enter Tryz.func159, Tryz.ntmps159
  go_wp2
  clear q1 q2
  go_loopw [5, 6] (fun ov c wr => ∃ (k j : Nat) (a' : Option Addr) (cap' : Nat) (G' : Option Nat), k ≤ n ∧ c = .int .i64 k ∧ ov = .slice a' j cap' ∧ Hid (k = m + j) ∧ Hid (SRow wr a' cap' G' ((L.drop m).take j)) ∧ Hid (Below w.heap.size w wr) ∧ Hid (∀ B, G' = some B → w.heap.size ≤ B)) (fun _ c _ => n - (intOf c).toNat)
  case atStart => exact ⟨m, 0, none, 0, none, by omega, rfl, rfl, rfl, qsrow_nil w, Below.refl _ _, fun B hB => by cases hB⟩
  case round =>
    obtain ⟨k, j, a', cap', G', hk, rfl, rfl, HKJ, HR, HB, HG⟩ := hrel
    have y1 : wr.cell? ⟨C, 1, none⟩ = some (.slice a n cap) := (HB.out.cell (p := ⟨C, 1, none⟩) hlt).trans h1
    have ylt : C < wr.heap.size := Nat.lt_of_lt_of_le hlt HB.out.size
    have hj : j ≤ 256 := by have := HKJ.out; omega
    by_cases hlt2 : k < n
    · obtain ⟨g, off, rfl, rfl, hg, hcell⟩ := HS.out.nth k (by rw [← HN.out]; exact hlt2)
      have hcell' := (HB.out.cell (p := ⟨g, off + k, none⟩) hg).trans hcell
      have hgl : g < wr.heap.size := Nat.lt_of_lt_of_le hg HB.out.size
      obtain ⟨x, hx⟩ : ∃ x, x = L.getD k ByteArray.empty := ⟨_, rfl⟩
      rw [← hx] at hcell'
      have hdl : j < (L.drop m).length := by rw [List.length_drop, ← HN.out]; have := HKJ.out; omega
      have HTk : Hid ((L.drop m).take (j + 1) = (L.drop m).take j ++ [x]) := by
        show _ = _
        rw [take_more (L.drop m) j hdl, hx, HKJ.out]
        simp [List.getD]
      have HLn : Hid (((L.drop m).take j).length = j) := by show _ = _; rw [List.length_take]; omega
      obtain ⟨K, hK⟩ : ∃ K, K = (L.drop m).take j := ⟨_, rfl⟩
      rw [← hK] at HTk HLn HR
      obtain ⟨W1, hW1⟩ : ∃ W1, W1 = wr.alloc (.cells #[.string x] 9) := ⟨_, rfl⟩
      have hb1 : Below wr.heap.size wr W1 := by rw [hW1]; exact (Below.refl _ _).alloc (Nat.le_refl _) _
      have hS1 : Hid (SRow W1 a' cap' G' K) := HR.out.kept (T := fun _ => False) (Kept.of_below hb1 (fun k hk h' => by omega)) (fun _ _ x => x)
      have hnc : Hid (W1.cell? ⟨wr.heap.size, 0, none⟩ = some (.string x)) := by rw [hW1]; show _ = _; simp
      have HB1 : Hid (Below w.heap.size w W1) := HB.out.trans (hb1.mono HB.out.size)
      clear hx hdl hK hcell hb1 HR h1 hc2 hf1 hf2
      go_wp2_with (at_builtin; rw [← hW1]; refine append_srow rfl _ _ rfl a' cap' G' K x wr.heap.size 1 (by rw [HLn.out]; rfl) hS1.out rfl hnc.out (by rw [HLn.out]; omega) ?_)
      intro a2 cap2 G2 w2 hS2 hK2 hG2
      rw [HLn.out]
      have HE : Hid (SRow w2 a2 cap2 G2 ((L.drop m).take (j + 1)) ∧ Below w.heap.size w w2 ∧ ∀ B, G2 = some B → w.heap.size ≤ B) := by
        rw [← hW1] at hK2
        refine ⟨by rw [HTk.out]; exact hS2, HB1.out.trans (hK2.below HB1.out.size (fun k hk => HG.out k hk)), fun B hB => ?_⟩
        rcases hG2 B hB with h' | h'
        · exact HG.out B h'
        · have := HB.out.size
          have hz : W1.heap.size = wr.heap.size + 1 := by rw [hW1]; simp
          omega
      clear hS2 hK2 hG2 hW1 hnc hS1
      go_wp2
      go_roundw
      case rel => exact ⟨k + 1, j + 1, a2, cap2, G2, by omega, by go_num, rfl, by show _ = _; rw [HKJ.out]; omega, HE.out.1, HE.out.2.1, HE.out.2.2⟩
      case measure => simp [intOf]; omega
    · have hke : k = n := by omega
      subst hke
      have HLn : Hid ((L.drop m).length = j) := by show _ = _; rw [List.length_drop, ← HN.out]; have := HKJ.out; omega
      have hTk : (L.drop m).take j = L.drop m := List.take_of_length_le (by rw [HLn.out]; exact Nat.le_refl _)
      rw [hTk] at HR
      have y2 : wr.cell? ⟨C, 2, none⟩ = some (.int .i64 sn) := (HB.out.cell (p := ⟨C, 2, none⟩) hlt).trans hc2
      have yf1 : wr.frozen? ⟨C, 1, none⟩ = false := (HB.out.frozen (p := ⟨C, 1, none⟩) hlt).trans hf1
      have yf2 : wr.frozen? ⟨C, 2, none⟩ = false := (HB.out.frozen (p := ⟨C, 2, none⟩) hlt).trans hf2
      have HM : Hid (Mvq w ((wr.setCell ⟨C, 1, none⟩ (.slice a' j cap')).setCell ⟨C, 2, none⟩ (.int .i64 ((sn : Int) - (m : Int)))) C G mo (L.drop m) (sn - m)) := by
        have := HQ.out.setBoth (sn' := sn - m) (L' := L.drop m) (Kept.of_below HB.out (fun k hk h' => by omega)) HR.out (fun B hB => Or.inr (HG.out B hB)) (by rw [List.length_drop, ← HN.out]; omega) (by rw [List.length_drop]; have := HQ.out.len; omega) (fun x hx => HQ.out.size x (List.mem_of_mem_drop hx))
        rw [HLn.out, Int.ofNat_sub hm] at this
        exact this
      clear hTk h1 hc2 hf1 hf2
      go_wp2
      go_ret
      exact ⟨rfl, HM.out⟩

set_option maxHeartbeats 400000 in
theorem rdone_any (C sn : Nat) (G : Option Nat) (mo : Int) (L : List ByteArray) (n : Int) (w : World) (h : Qu w C G mo L sn) :
    Calls Tryz.prog 159 #[.pointer (some ⟨C, 0, none⟩), .int .i64 n] w fun e w' => e = .returned (.bool (Qm.okN sn n)) ∧ Mvq w w' C G mo (Qm.doneL L sn n) (Qm.doneS sn n) := by
  cases hk : Qm.okN sn n with
  | false =>
    have HM : Hid (Mvq w w C G mo (Qm.doneL L sn n) (Qm.doneS sn n)) := by
      unfold Qm.doneL Qm.doneS
      rw [hk]
      exact h.same (Below.refl _ _)
    have hn := of_decide_eq_false hk
    have hc2 := h.c2
    have hlt := h.lt
    rcases (show n < 0 ∨ (0 ≤ n ∧ (sn : Int) < n) by omega) with h1 | ⟨h1, h2⟩
    · clear hk h hn
      go_enter Tryz.func159, Tryz.ntmps159
      go_wp2
      go_ret
      exact ⟨rfl, HM.out⟩
    · clear hk h hn
      go_enter Tryz.func159, Tryz.ntmps159
      go_wp2
      go_ret
      exact ⟨rfl, HM.out⟩
  | true =>
    have hn := of_decide_eq_true hk
    obtain ⟨m, rfl⟩ : ∃ m : Nat, n = (m : Int) := ⟨n.toNat, by omega⟩
    have e1 : Qm.doneL L sn (m : Int) = L.drop m := by unfold Qm.doneL; rw [hk]; simp
    have e2 : Qm.doneS sn (m : Int) = sn - m := by unfold Qm.doneS; rw [hk]; simp
    rw [e1, e2]
    exact rdone_ok C sn m G mo L w h (by omega)
end Go.Proofs.YtidemohpngkedabGreatDoor
