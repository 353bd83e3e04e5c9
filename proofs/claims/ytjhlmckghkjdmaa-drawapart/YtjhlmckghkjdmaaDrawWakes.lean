/-
  A source behind i numbers, in blocks from b on; the law's function 'wakes' answers true, and leaves all that was as it was.
-/
import Derived.Test.YtjhlmckghkjdmaaDrawWalks
namespace Go.Proofs.Ytjhlmckghkjdmaa
open Go.RowKit
set_option linter.unusedVariables false
set_option linter.unusedSimpArgs false

/-- a source of the seed and the first ones F, behind i numbers -/
def At (w : World) (C : Nat) (G : Option Nat) (seed : Int) (F : List Int) (i : Nat) : Prop := Src w C G (F.drop i) (Dm.sx seed (i - F.length))
section
variable {w w' : World} {C : Nat} {G : Option Nat} {seed : Int} {F : List Int} {i : Nat}
theorem At.of (h : Src w C G F seed) : At w C G seed F 0 := by
  unfold At
  rw [Nat.zero_sub]
  exact h
theorem At.src (h : At w C G seed F i) : Src w C G (F.drop i) (Dm.sx seed (i - F.length)) := h
theorem At.kept {T : Nat → Prop} (h : At w C G seed F i) (hk : Kept w w' T) (hC : ¬ T C) (hG : ∀ B, G = some B → ¬ T B) : At w' C G seed F i := Src.kept h hk hC hG
theorem At.below (h : At w C G seed F i) (hb : Below w.heap.size w w') : At w' C G seed F i := Src.below h hb
theorem At.next (h : At w C G seed F i) : Calls Try.prog 11 #[.pointer (some ⟨C, 0, none⟩)] w fun e w' => e = .returned (.int .i64 (Dm.nth seed F i)) ∧ At w' C G seed F (i + 1) ∧ Kept w w' (fun k => k = C) := by
  refine (dnext_any C G _ _ w h.src).mono ?_
  rintro e w' ⟨rfl, h1, h2⟩
  rw [Dm.nx_at]
  rw [Dm.nX_at, Dm.tail_at] at h1
  exact ⟨rfl, h1, h2⟩
theorem At.left (h : At w C G seed F i) : Calls Try.prog 9 #[.pointer (some ⟨C, 0, none⟩)] w fun e w' => e = .returned (.int .i64 ((F.length - i : Nat) : Int)) ∧ w = w' := by
  refine (dleft_any C G _ _ w h.src).mono ?_
  rintro e w' ⟨rfl, h1⟩
  rw [List.length_drop]
  exact ⟨rfl, h1⟩
end

set_option maxHeartbeats 2000000 in
theorem dwakes_any (w : World) : Calls Try.prog 8 #[] w fun e w' => e = .returned (.bool true) ∧ Below w.heap.size w w' := by
  obtain ⟨W1, hW1⟩ : ∃ W1, W1 = w.alloc (.cells #[.int .i64 7, .int .i64 (-1)] 3) := ⟨_, rfl⟩
  have hb1 : Below w.heap.size w W1 := by rw [hW1]; exact (Below.refl _ _).alloc (Nat.le_refl _) _
  have HN := dnew_any 0 (some ⟨w.heap.size, 0, none⟩) 2 (some w.heap.size) [7, -1] W1 (Or.inr ⟨w.heap.size, 0, rfl, rfl, by rw [hW1]; simp, fun i hi => by
    rw [hW1]
    match i, hi with
    | 0, _ => simp
    | 1, _ => simp⟩) (fun e => by cases e) (by decide) (by intro n hn; simp at hn; rcases hn with rfl | rfl <;> exact ⟨by decide, by decide⟩) (by decide) (by decide)
  rw [show ([7, -1] : List Int).length = 2 from rfl] at HN
  have HB : Hid (Below w.heap.size w W1) := hb1
  clear hb1
  go_enter Try.func8, Try.ntmps8
  go_wp2_with fail
  rw [← hW1]
  refine HN.mono ?_
  rintro e w1 ⟨C, G, rfl, h1, h2, h3, h4⟩
  have HA : Hid (At w1 C G 0 [7, -1] 0) := At.of h1
  have HB1 : Hid (Below w.heap.size w w1 ∧ w.heap.size ≤ C ∧ w.heap.size ≤ w1.heap.size) := ⟨HB.out.trans (h2.mono HB.out.size), Nat.le_trans HB.out.size h3, Nat.le_trans HB.out.size h2.size⟩
  clear h1 h2 h3 h4 HN HB hW1
  obtain ⟨e0, e1, e2⟩ := Dm.wakes0
  have HT0 := HA.out.next
  rw [e0] at HT0
  have HE : Hid (Dm.nth 0 [7, -1] 1 = 65535 ∧ Dm.nth 0 [7, -1] 2 = 5125) := ⟨e1, e2⟩
  clear e0 e1 e2 HA
  go_wp2_with fail
  refine HT0.mono ?_
  rintro e w2 ⟨rfl, h1, h2⟩
  have HT1 := h1.next
  rw [HE.out.1] at HT1
  have HB2 : Hid (Below w.heap.size w w2 ∧ w.heap.size ≤ C ∧ w.heap.size ≤ w2.heap.size) := ⟨HB1.out.1.trans (h2.below HB1.out.2.2 (fun k hk => by rw [hk]; exact HB1.out.2.1)), HB1.out.2.1, Nat.le_trans HB1.out.2.2 h2.size⟩
  clear HT0 HB1 h1 h2
  go_wp2_with fail
  refine HT1.mono ?_
  rintro e w3 ⟨rfl, h1, h2⟩
  have HT2 := h1.next
  rw [HE.out.2] at HT2
  have HB3 : Hid (Below w.heap.size w w3 ∧ w.heap.size ≤ C ∧ w.heap.size ≤ w3.heap.size) := ⟨HB2.out.1.trans (h2.below HB2.out.2.2 (fun k hk => by rw [hk]; exact HB2.out.2.1)), HB2.out.2.1, Nat.le_trans HB2.out.2.2 h2.size⟩
  clear HT1 HB2 h1 h2
  go_wp2_with fail
  refine HT2.mono ?_
  rintro e w4 ⟨rfl, h1, h2⟩
  have HB4 : Hid (Below w.heap.size w w4) := HB3.out.1.trans (h2.below HB3.out.2.2 (fun k hk => by rw [hk]; exact HB3.out.2.1))
  clear HT2 HB3 h1 h2 HE
  go_wp2
  go_ret
  exact ⟨rfl, HB4.out⟩
end Go.Proofs.Ytjhlmckghkjdmaa
