/-
  The walk of a queue's Done, where it lies inside a flow.
-/
import Derived.Test.YtdfoicngcahajaaDoorQoPush
import Derived.Lib.SliceRun
import Derived.BigRegion
namespace Go.Proofs.YtdfoicngcahajaaDoor
open Go.RowKit
set_option linter.unusedVariables false
set_option maxRecDepth 100000
set_option linter.unusedSimpArgs false

theorem setCells_kept (g : Nat) : ∀ (vs : List Value) (o : Nat) (w : World), Kept w (w.setCells g o vs) (fun k => some g = some k)
  | [], o, w => Kept.refl w _
  | v :: r, o, w => ((Kept.refl w (fun k => some g = some k)).setCell (p := ⟨g, o, none⟩) (fun _ => rfl) v).trans (setCells_kept g r (o + 1) _) (fun _ _ h => h)

theorem clr_none (w : World) (ty : TypeId) (n c : Nat) : (Builtin.clear_ #[52] ty #[.slice none n c]).run Tryd.prog w = .ok (.tuple #[]) w := by
  simp [Builtin.clear_, run_underlying Tryd.underlying52]
theorem clr_zero (w : World) (ty : TypeId) (x : Addr) (c : Nat) : (Builtin.clear_ #[52] ty #[.slice (some x) 0 c]).run Tryd.prog w = .ok (.tuple #[]) w := by
  simp [Builtin.clear_, run_underlying Tryd.underlying52]
theorem zero_str (w : World) : (zeroValue 9).run Tryd.prog w = .ok (.string ByteArray.empty) w := by rfl

set_option maxHeartbeats 1000000 in
theorem odone_some (C sn m g off cap : Nat) (mo : Int) (L : List ByteArray) (w : World) (h : Qo w C (some g) mo L sn) (hm : m ≤ sn) (h1 : w.cell? ⟨C, 8, none⟩ = some (.slice (some ⟨g, off, none⟩) L.length cap)) (hS : SRow w (some ⟨g, off, none⟩) cap (some g) L) :
    Calls Tryd.prog 88 #[.pointer (some ⟨C, 7, none⟩), .int .i64 m] w fun e w' => e = .returned (.bool true) ∧ Mvo w w' C (some g) mo (L.drop m) (sn - m) := by
  have HH := ohasSent_any C m sn w h.c2 h.lt
  have hok : Qm.okN sn m = true := decide_eq_true (by omega)
  rw [hok] at HH
  have hlt := h.lt
  have hle := h.le
  have hsn := h.sn
  have hcp := hS.le
  have hcm := hS.mx
  have hcl : ∃ W1, (∀ ty, (Builtin.clear_ #[52] ty #[.slice (some ⟨g, off, none⟩) m cap]).run Tryd.prog w = .ok (.tuple #[]) W1) ∧ Kept w W1 (fun k => some g = some k) ∧ (∀ j, m ≤ j → W1.cell? ⟨g, off + j, none⟩ = w.cell? ⟨g, off + j, none⟩) ∧ (∀ x, W1.frozen? x = w.frozen? x) := by
    rcases Nat.eq_zero_or_pos m with rfl | hm0
    · exact ⟨w, fun ty => clr_zero w ty _ cap, Kept.refl w _, fun _ _ => rfl, fun _ => rfl⟩
    · rcases hS.row with ⟨hx, _⟩ | ⟨g', off', e1, e2, _, _, hf⟩
      · cases hx
      · injection e1 with e1
        injection e1 with e1 e3
        subst e1 e3
        refine ⟨_, fun ty => Lib.run_clear_slice w _ _ ty _ Tryd.underlying52 zero_str rfl rfl g off m cap hm0 (fun j hj => (hf j (by omega)).1) (fun j hj => (hf j (by omega)).2), setCells_kept g _ _ _, fun j hj => ?_, fun x => World.frozen?_setCells _ _ _ _ _⟩
        exact World.cell?_setCells_out g _ _ _ _ (fun _ _ => Or.inr (by simp; omega))
  obtain ⟨W1, hcl, hk1, hcell, hfz⟩ := hcl
  have hne : ¬ (some g = some C) := h.ne
  have x1 : W1.cell? ⟨C, 8, none⟩ = some (.slice (some ⟨g, off, none⟩) L.length cap) := (hk1.cell (p := ⟨C, 8, none⟩) hlt hne).trans h1
  have x2 : W1.cell? ⟨C, 9, none⟩ = some (.int .i64 sn) := (hk1.cell (p := ⟨C, 9, none⟩) hlt hne).trans h.c2
  have xf1 : W1.frozen? ⟨C, 8, none⟩ = false := (hfz _).trans h.f1
  have xf2 : W1.frozen? ⟨C, 9, none⟩ = false := (hfz _).trans h.f2
  have xlt : C < W1.heap.size := Nat.lt_of_lt_of_le hlt hk1.size
  have HK : Hid (∀ y : Nat, (m < L.length → y = off + m) → SRow W1 (some ⟨g, y, none⟩) (L.length - m) (some g) (L.drop m)) := by
    intro y hy
    rcases hS.row with ⟨hx, _⟩ | ⟨g', off', e1, e2, hg, hc, hf⟩
    · cases hx
    · injection e1 with e1
      injection e1 with e1 e3
      subst e1 e3
      refine ⟨by simp, by omega, Or.inr ⟨g, y, rfl, rfl, Nat.lt_of_lt_of_le hg hk1.size, fun i hi => ?_, fun j hj => ?_⟩⟩
      · have hi' : m + i < L.length := by simp at hi; omega
        rw [hy (by omega), Nat.add_assoc, hcell (m + i) (by omega), hc (m + i) hi']
        simp [List.getD]
      · rw [hy (by omega), Nat.add_assoc, hcell (m + j) (by omega), hfz]
        exact hf (m + j) (by omega)
  have HQ : Hid (Qo w C (some g) mo L sn) := h
  have HK1 : Hid (Kept w W1 (fun k => some g = some k)) := hk1
  have HL : Hid ((L.drop m).length = L.length - m) := by show _ = _; simp
  obtain ⟨n, hn⟩ : ∃ n : Nat, n = L.length := ⟨_, rfl⟩
  rw [← hn] at h1 hle hsn hcp x1 HL HK
  have HN : Hid (n = L.length) := hn
  have HE : Hid (∀ y : Nat, (m < n → y = off + m) → Mvo w ((W1.setCell ⟨C, 8, none⟩ (.slice (some ⟨g, y, none⟩) (n - m) (n - m))).setCell ⟨C, 9, none⟩ (.int .i64 ((sn : Int) - (m : Int)))) C (some g) mo (L.drop m) (sn - m)) := by
    intro y hy
    have := HQ.out.setBoth (sn' := sn - m) (L' := L.drop m) hk1 (HK.out y hy) (fun B hB => Or.inl hB) (by rw [HL.out]; omega) (by rw [HL.out]; have := HQ.out.len; omega) (fun x hx => HQ.out.size x (List.mem_of_mem_drop hx))
    rw [HL.out, Int.ofNat_sub hm] at this
    exact this
  unfold maxLen at hcm
  clear hok h hS hn hne hk1 hcell hfz
  go_enter Tryd.func88, Tryd.ntmps88
  go_wp2_with fail
  refine HH.mono ?_
  rintro e w1 ⟨rfl, rfl⟩
  clear HH
  go_wp2_with fail
  clear h1 hcl
  go_region
  go_wp2
  · have H2 := HE.out off (fun h => by omega)
    rw [show n - m = 0 by omega] at H2
    have H3 : Hid (Mvo w _ C (some g) mo (L.drop m) (sn - m)) := H2.drew
    clear H2 HE HK
    go_ret
    exact ⟨rfl, H3.out⟩
  · have H3 : Hid (Mvo w _ C (some g) mo (L.drop m) (sn - m)) := (HE.out (off + m) (fun h => rfl)).drew
    clear HE HK
    go_ret
    exact ⟨rfl, H3.out⟩

set_option maxHeartbeats 1000000 in
theorem odone_none (C sn : Nat) (mo : Int) (w : World) (h : Qo w C none mo [] sn) (h1 : w.cell? ⟨C, 8, none⟩ = some (.slice none 0 0)) :
    Calls Tryd.prog 88 #[.pointer (some ⟨C, 7, none⟩), .int .i64 0] w fun e w' => e = .returned (.bool true) ∧ Mvo w w' C none mo [] sn := by
  have HH := ohasSent_any C 0 sn w h.c2 h.lt
  have hok : Qm.okN sn 0 = true := decide_eq_true (by omega)
  rw [hok] at HH
  have hlt := h.lt
  have h2 := h.c2
  have hf1 := h.f1
  have hf2 := h.f2
  have hs0 : sn = 0 := by have := h.sn; simp at this; exact this
  subst hs0
  have hcl := clr_none w
  have HM : Hid (Mvo w ((w.setCell ⟨C, 8, none⟩ (.slice none 0 0)).setCell ⟨C, 9, none⟩ (.int .i64 0)).drew C none mo [] 0) :=
    (h.setBoth (L' := []) (Kept.refl _ _) (qsrow_nil w) (fun B hB => by cases hB) (Nat.le_refl _) (Nat.zero_le _) (fun x hx => by simp at hx)).drew
  clear h hok
  go_enter Tryd.func88, Tryd.ntmps88
  go_wp2_with fail
  refine HH.mono ?_
  rintro e w1 ⟨rfl, rfl⟩
  clear HH
  go_wp2_with fail
  clear hcl
  go_region
  go_wp2
  go_ret
  exact ⟨rfl, HM.out⟩

set_option maxHeartbeats 1000000 in
theorem odone_any (C sn : Nat) (G : Option Nat) (mo : Int) (L : List ByteArray) (n : Int) (w : World) (h : Qo w C G mo L sn) :
    Calls Tryd.prog 88 #[.pointer (some ⟨C, 7, none⟩), .int .i64 n] w fun e w' => e = .returned (.bool (Qm.okN sn n)) ∧ Mvo w w' C G mo (Qm.doneL L sn n) (Qm.doneS sn n) := by
  cases hk : Qm.okN sn n with
  | false =>
    have HH := ohasSent_any C n sn w h.c2 h.lt
    rw [hk] at HH
    have HM : Hid (Mvo w w C G mo (Qm.doneL L sn n) (Qm.doneS sn n)) := by
      unfold Qm.doneL Qm.doneS
      rw [hk]
      exact h.same (Below.refl _ _)
    clear hk h
    go_enter Tryd.func88, Tryd.ntmps88
    go_wp2_with fail
    refine HH.mono ?_
    rintro e w1 ⟨rfl, rfl⟩
    clear HH
    go_wp2
    go_ret
    exact ⟨rfl, HM.out⟩
  | true =>
    have hn := of_decide_eq_true hk
    obtain ⟨m, rfl⟩ : ∃ m : Nat, n = (m : Int) := ⟨n.toNat, by omega⟩
    have e1 : Qm.doneL L sn (m : Int) = L.drop m := by unfold Qm.doneL; rw [hk]; simp
    have e2 : Qm.doneS sn (m : Int) = sn - m := by unfold Qm.doneS; rw [hk]; simp
    rw [e1, e2]
    obtain ⟨a, cap, h1, h2⟩ := h.c1
    rcases h2.row with ⟨rfl, rfl, rfl⟩ | ⟨g, off, rfl, rfl, _⟩
    · have h0 : L = [] := List.eq_nil_of_length_eq_zero (by have := h2.le; omega)
      subst h0
      have hs0 : sn = 0 := by have := h.sn; simp at this; exact this
      subst hs0
      have hm0 : m = 0 := by omega
      subst hm0
      exact odone_none C 0 mo w h h1
    · exact odone_some C sn m g off cap mo L w h (by omega) h1 h2
end Go.Proofs.YtdfoicngcahajaaDoor
