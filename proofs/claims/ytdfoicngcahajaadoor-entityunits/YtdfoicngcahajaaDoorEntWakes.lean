/-
  The walk of layer 14's wakes, and those of the methods of a nil entity.
-/
import Derived.Test.YtdfoicngcahajaaDoorEntNew
namespace Go.Proofs.YtdfoicngcahajaaDoor
open Go.RowKit
set_option linter.unusedVariables false
set_option maxRecDepth 100000
set_option linter.unusedSimpArgs false

/-- a row of effects that was handed out -/
theorem Told.cell {C : Nat} {w w' : World} {lab : Nat → Nat} {v : Value} {e1 : Em.St} (h : Told C w w' lab v e1) (i : Nat) (hi : i < e1.out.length) :
    ∃ g cap, v = .slice (some ⟨g, 0, none⟩) e1.out.length cap ∧ g < w'.heap.size ∧ w.heap.size ≤ g := by
  obtain ⟨a, cap, lab', rfl, ho, _⟩ := h
  rcases ho.2 with ⟨_, h0⟩ | ⟨g, c, cur, hv, hb, hgg, _⟩
  · omega
  · exact ⟨g, c, hv, (Array.getElem?_eq_some_iff.1 hgg).1, hb⟩
theorem Told.next {C : Nat} {w w' : World} {lab : Nat → Nat} {v : Value} {e1 : Em.St} (h : Told C w w' lab v e1) : ∃ lab', Ent C w' lab' { e1 with out := [] } ∧ Kept w w' (fun k => lab k ≠ 0) ∧ (∀ k, k < w.heap.size → lab' k = lab k) ∧ ∀ B, v.ownBlock = some B → lab' B = 0 := by
  obtain ⟨a, cap, lab', _, _, h1, h2, h3, h4⟩ := h
  exact ⟨lab', h1, h2, h3, h4⟩
theorem Told.row {C : Nat} {w w' : World} {lab : Nat → Nat} {v : Value} {e1 : Em.St} (h : Told C w w' lab v e1) : ∃ a cap, v = .slice a e1.out.length cap ∧ w'.ownsRow w.heap.size 58 11 v e1.out.length (effsL e1.out) := by
  obtain ⟨a, cap, lab', h1, h2, _⟩ := h
  exact ⟨a, cap, h1, h2⟩

namespace Em
def wk1 : St × Int := assign (new 7 3) 64
def wk1' : St := { wk1.1 with out := [] }
def wk2 : St × Int := ask wk1' 0 ByteArray.empty
def wk2' : St := { wk2.1 with out := [] }
def wkF : Fr := ⟨0, 0, false, 8, true, 0, 0, ByteArray.empty⟩
def wk3 : St := frame wk2' (may wkF) wkF
theorem wk_1 : wk1.2 = 0 := by decide
theorem wk_2 : wk2.2 = 0 := by decide
theorem wk_2l : wk2.1.out.length = 2 := by decide
theorem wk_3l : wk3.out.length = 3 := by decide
end Em

set_option maxHeartbeats 4000000 in
theorem ewakes_any (w : World) (hW : Ways w) :
    Calls Tryd.prog 9 #[] w fun r w' => r = .returned (.bool true) ∧ Below w.heap.size w w' := by
  have HW : Hid (Ways w) := hW
  clear hW
  go_enter Tryd.func9, Tryd.ntmps9
  go_wp2_with fail
  refine (enew_any 7 3 w (by omega) (by omega)).mono ?_
  rintro r w1 ⟨C, lab, rfl, hC, hE, hb1, hl1⟩
  have H1 : Hid (Ent C w1 lab (Em.new 7 3) ∧ Below w.heap.size w w1 ∧ (∀ k, k < w.heap.size → lab k = 0) ∧ w.heap.size ≤ C) := ⟨hE, hb1, hl1, hC⟩
  clear hE hb1 hl1 hC
  go_wp2_with fail
  refine (eassign_any C lab (Em.new 7 3) 64 w1 H1.out.1 (by omega) (by omega)).mono ?_
  rintro r w2 ⟨v1, rfl, ht1⟩
  have HT1 := (show Hid _ from ht1)
  rw [show (Em.assign (Em.new 7 3) 64).2 = 0 from Em.wk_1]
  clear ht1
  go_wp2_with fail
  obtain ⟨lab1, hE1, hk1, hl1, -⟩ := Told.next HT1.out
  have HE1 : Hid (Ent C w2 lab1 Em.wk1') := hE1
  have HB2 : Hid (Below w.heap.size w w2) := by
    have h := H1.out
    exact h.2.1.trans (hk1.below h.2.1.size (fun k hk => by
      rcases Nat.lt_or_ge k w.heap.size with h' | h'
      · exact absurd (h.2.2.1 k h') hk
      · exact h'))
  have HL1 : Hid (∀ k, k < w.heap.size → lab1 k = 0) := fun k hk => (hl1 k (Nat.lt_of_lt_of_le hk H1.out.2.1.size)).trans (H1.out.2.2.1 k hk)
  clear hE1 hk1 hl1 HT1 H1
  refine (eask_any C lab1 Em.wk1' 0 ByteArray.empty w2 HE1.out (by decide)).mono ?_
  rintro r w3 ⟨v2, rfl, ht2⟩
  rw [show (Em.ask Em.wk1' 0 ByteArray.empty).2 = 0 from Em.wk_2]
  have HT2 : Hid (Told C w2 w3 lab1 v2 Em.wk2.1) := ht2
  clear ht2
  go_wp2_with fail
  obtain ⟨lab2, hE2, hk2, hl2, hB2⟩ := Told.next HT2.out
  obtain ⟨a2, cap2, rfl, ho2⟩ := Told.row HT2.out
  have HE2 : Hid (Ent C w3 lab2 Em.wk2') := hE2
  have HB3 : Hid (Below w.heap.size w w3) := HB2.out.trans (hk2.below HB2.out.size (fun k hk => by
      rcases Nat.lt_or_ge k w.heap.size with h' | h'
      · exact absurd (HL1.out k h') hk
      · exact h'))
  have HL2 : Hid (∀ k, k < w.heap.size → lab2 k = 0) := fun k hk => (hl2 k (Nat.lt_of_lt_of_le hk HB2.out.size)).trans (HL1.out k hk)
  have HW3 : Hid (Ways w3) := HW.out.later HB3.out
  have hlen2 : Em.wk2.1.out.length = 2 := Em.wk_2l
  rw [hlen2] at ho2 ⊢
  have HO2 : Hid (w3.ownsRow w2.heap.size 58 11 (.slice a2 2 cap2) 2 (effsL Em.wk2.1.out)) := ho2
  have HB2' : Hid (∀ B, (Value.slice a2 2 cap2).ownBlock = some B → lab2 B = 0) := by rw [hlen2] at hB2; exact hB2
  clear hE2 hk2 hl2 hB2 ho2 hlen2 HT2 HE1 HL1 HB2
  have HF := eframe_any C lab2 Em.wk2' Em.wkF w3 HE2.out HW3.out (by decide) (by decide) (by decide) (by decide) (by decide)
  unfold frmV Em.wkF at HF
  go_wp2_with fail
  refine HF.mono ?_
  rintro r w4 ⟨v3, rfl, ht3⟩
  clear HF
  have ht3' : Told C w3 w4 lab2 v3 Em.wk3 := ht3
  obtain ⟨lab3, hE3, hk3, hl3, hB3⟩ := Told.next ht3'
  obtain ⟨a3, cap3, rfl, ho3⟩ := Told.row ht3'
  have hlen3 : Em.wk3.out.length = 3 := Em.wk_3l
  rw [hlen3] at ho3 ⊢
  have ho2 := hk3.owns HO2.out (fun k hk hx => hx (HB2'.out k hk))
  obtain ⟨g2, rfl, hg2⟩ : ∃ g, a2 = some ⟨g, 0, none⟩ ∧ g < w4.heap.size := by
    rcases ho2.2 with ⟨_, h0⟩ | ⟨g, c, cur, hv, _, hgg, _⟩
    · omega
    · injection hv with e1 _ _
      exact ⟨g, e1, (Array.getElem?_eq_some_iff.1 hgg).1⟩
  obtain ⟨g3, rfl, hg3⟩ : ∃ g, a3 = some ⟨g, 0, none⟩ ∧ g < w4.heap.size := by
    rcases ho3.2 with ⟨_, h0⟩ | ⟨g, c, cur, hv, _, hgg, _⟩
    · omega
    · injection hv with e1 _ _
      exact ⟨g, e1, (Array.getElem?_eq_some_iff.1 hgg).1⟩
  have x23 : w4.cell? ⟨g2, 4, none⟩ = some (.int .i64 4) := (ho2.cellAt 4 (by decide)).trans (by rfl)
  have x221 : w4.cell? ⟨g2, 21, none⟩ = some (.int .i64 200) := (ho2.cellAt 21 (by decide)).trans (by rfl)
  have x30 : w4.cell? ⟨g3, 0, none⟩ = some (.int .i64 2) := (ho3.cellAt 0 (by decide)).trans (by rfl)
  have x311 : w4.cell? ⟨g3, 11, none⟩ = some (.int .i64 10) := (ho3.cellAt 11 (by decide)).trans (by rfl)
  have x332 : w4.cell? ⟨g3, 32, none⟩ = some (.int .i64 203) := (ho3.cellAt 32 (by decide)).trans (by rfl)
  have HB4 : Hid (Below w.heap.size w w4) := HB3.out.trans (hk3.below HB3.out.size (fun k hk => by
      rcases Nat.lt_or_ge k w.heap.size with h' | h'
      · exact absurd (HL2.out k h') hk
      · exact h'))
  clear ht3 ht3' hE3 hk3 hl3 hB3 ho3 ho2 HO2 HB2' HB3 HL2 HW3 HW HE2
  go_wp2
  go_ret
  exact ⟨rfl, HB4.out⟩
end Go.Proofs.YtdfoicngcahajaaDoor
