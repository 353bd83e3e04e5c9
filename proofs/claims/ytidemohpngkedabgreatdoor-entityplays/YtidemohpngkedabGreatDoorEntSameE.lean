/-
  The law's function 'sameEntity' of one entity twice (the kit's drawing region; rows by wip/tools/sament.py).
-/
import Derived.Test.YtidemohpngkedabGreatDoorEntEffs
namespace Go.Proofs.YtidemohpngkedabGreatDoor
open Go.RowKit
set_option linter.unusedVariables false
set_option maxRecDepth 100000
set_option linter.unusedSimpArgs false

/-- the world while the region runs -/
structure SenJ (w0 : World) (σ : Wm.St) (l : Array Bool) (w : World) : Prop where
  bel : Below w0.heap.size w0 w
  no : l.getD 75 false = false → w.heap.size = w0.heap.size
  m : l.getD 75 false = true → May w w0.heap.size 8
  i : l.getD 76 false = true → Holds w w0.heap.size (vwL σ)
  ord : l.getD 76 false = true → l.getD 75 false = true
section
variable {w0 w : World} {σ : Wm.St} {l : Array Bool} {md : Region.Mode} {ops : Array Oper}
theorem SenJ.keep (h : SenJ w0 σ l w) {i : Nat} (h1 : i ≠ 75) (h2 : i ≠ 76) : SenJ w0 σ (l.setIfInBounds i true) w := by
  refine ⟨h.bel, ?_, ?_, ?_, ?_⟩
  · rw [getD_set_ne false h1]; exact h.no
  · rw [getD_set_ne false h1]; exact h.m
  · rw [getD_set_ne false h2]; exact h.i
  · rw [getD_set_ne false h1, getD_set_ne false h2]; exact h.ord
theorem senj_not {i : Nat} (h : i ∈ Region.ready md ops l) : l.getD i false = false ∧ (l.setIfInBounds i true).getD i false = true := by
  have hl := (mem_ready.1 h).1
  have hlt := unlisted_lt hl
  refine ⟨?_, by simp [hlt]⟩
  simp [hlt] at hl ⊢
  exact hl
theorem SenJ.fresh (h : SenJ w0 σ l w) (hr : 75 ∈ Region.ready md ops l) : w.heap.size = w0.heap.size := h.no (senj_not hr).1
theorem SenJ.alloc {T : TypeId} {v0 v1 v2 v3 v4 v5 v6 v7 : Value} (h : SenJ w0 σ l w) (hr : 75 ∈ Region.ready md ops l) : SenJ w0 σ (l.setIfInBounds 75 true) (w.alloc (.cells #[v0, v1, v2, v3, v4, v5, v6, v7] T)) := by
  obtain ⟨e1, e2⟩ := senj_not hr
  have hz := h.fresh hr
  have h76 : l.getD 76 false = false := by
    cases x : l.getD 76 false with
    | false => rfl
    | true => have := h.ord x; rw [e1] at this; cases this
  refine ⟨h.bel.alloc (by omega) _, ?_, ?_, ?_, ?_⟩
  · rw [e2]; intro x; cases x
  · intro _
    rw [← hz]
    refine ⟨by simp, fun j hj => ?_, fun j hj => ?_⟩
    all_goals
      rcases (show j = 0 ∨ j = 1 ∨ j = 2 ∨ j = 3 ∨ j = 4 ∨ j = 5 ∨ j = 6 ∨ j = 7 by omega) with rfl | rfl | rfl | rfl | rfl | rfl | rfl | rfl
      all_goals simp
  · rw [getD_set_ne false (by decide), h76]; intro x; cases x
  · rw [getD_set_ne false (by decide), h76]; intro x; cases x
theorem SenJ.may (h : SenJ w0 σ l w) (h75 : l.getD 75 false = true) : May w w0.heap.size 8 := h.m h75
theorem SenJ.stored (h : SenJ w0 σ l w) (h75 : l.getD 75 false = true) : SenJ w0 σ (l.setIfInBounds 76 true) (setN w0.heap.size (vwL σ) 0 w) := by
  have hm := h.m h75
  have hat := setN_at w0.heap.size (vwL σ) 0 w (fun j hj => by rw [Nat.zero_add]; exact hm.c j hj)
  refine ⟨setN_below _ _ (Nat.le_refl _) _ _ _ h.bel, ?_, ?_, ?_, ?_⟩
  · rw [getD_set_ne false (by decide), h75]; intro x; cases x
  · intro _
    refine ⟨by rw [setN_size]; exact hm.lt, fun j hj => ?_, fun j hj => by rw [setN_frozen]; exact hm.f j hj⟩
    obtain ⟨u, hu⟩ : ∃ u, (vwL σ)[j]? = some u := ⟨_, List.getElem?_eq_getElem (by exact hj)⟩
    have := hat j u hu
    rw [Nat.zero_add] at this
    rw [this]; rfl
  · intro _ j u hj
    have := hat j u hj
    rwa [Nat.zero_add] at this
  · intro _; rw [getD_set_ne false (by decide)]; exact h75
end
def senD : Nat → Option Nat | 0 => some 9 | 1 => some 10 | 2 => some 11 | 3 => some 12 | 4 => some 13 | 5 => some 14 | 6 => some 15 | 7 => some 16 | 8 => some 17 | 9 => some 18 | 10 => some 19 | 11 => some 20 | 12 => some 21 | 13 => some 22 | 14 => some 23 | 15 => some 24 | 16 => some 25 | 17 => some 26 | 18 => some 27 | 19 => some 28 | 20 => some 29 | 21 => some 30 | 22 => some 31 | 23 => some 32 | 24 => some 33 | 25 => some 34 | 26 => some 35 | 27 => some 36 | 28 => some 37 | 29 => some 38 | 30 => some 39 | 31 => some 40 | 32 => some 41 | 33 => some 42 | 34 => some 43 | 35 => some 44 | 36 => some 45 | 37 => some 46 | 38 => some 47 | 39 => some 48 | 40 => some 49 | 41 => some 50 | 42 => some 51 | 43 => some 52 | 44 => some 53 | 45 => some 54 | 46 => some 55 | 47 => some 56 | 48 => some 57 | 49 => some 58 | 50 => some 59 | 51 => some 60 | 52 => some 61 | 53 => some 62 | 54 => some 63 | 55 => some 64 | 56 => some 65 | 57 => some 66 | 58 => some 67 | 59 => some 68 | 60 => some 69 | 61 => some 70 | 62 => some 71 | 63 => some 72 | 64 => some 73 | 65 => some 74 | 66 => some 75 | 67 => some 76 | 68 => some 77 | 69 => some 78 | 70 => some 79 | 71 => some 80 | 72 => some 81 | 73 => some 82 | 74 => some 83 | 75 => some 6 | _ => none
def senV (R F D B : Nat) (a1 : Option Addr) (cap1 : Nat) (σ : Wm.St) : Nat → Value | 0 => .pointer (some ⟨R, 0, none⟩) | 1 => .pointer (some ⟨R, 0, none⟩) | 2 => .pointer (some ⟨R, 8, none⟩) | 3 => .pointer (some ⟨F, 0, none⟩) | 4 => .pointer (some ⟨F, 0, none⟩) | 5 => .pointer (some ⟨F, 0, none⟩) | 6 => .int .i64 σ.vs | 7 => .pointer (some ⟨R, 0, none⟩) | 8 => .pointer (some ⟨R, 0, none⟩) | 9 => .pointer (some ⟨R, 8, none⟩) | 10 => .pointer (some ⟨F, 0, none⟩) | 11 => .pointer (some ⟨F, 0, none⟩) | 12 => .pointer (some ⟨F, 1, none⟩) | 13 => .int .i64 σ.va | 14 => .pointer (some ⟨R, 0, none⟩) | 15 => .pointer (some ⟨R, 0, none⟩) | 16 => .pointer (some ⟨R, 8, none⟩) | 17 => .pointer (some ⟨F, 0, none⟩) | 18 => .pointer (some ⟨F, 0, none⟩) | 19 => .pointer (some ⟨F, 2, none⟩) | 20 => .int .i64 σ.vr | 21 => .pointer (some ⟨R, 0, none⟩) | 22 => .pointer (some ⟨R, 0, none⟩) | 23 => .pointer (some ⟨R, 8, none⟩) | 24 => .pointer (some ⟨F, 0, none⟩) | 25 => .pointer (some ⟨F, 0, none⟩) | 26 => .pointer (some ⟨F, 3, none⟩) | 27 => .bool σ.pe | 28 => .pointer (some ⟨R, 0, none⟩) | 29 => .pointer (some ⟨R, 0, none⟩) | 30 => .pointer (some ⟨R, 8, none⟩) | 31 => .pointer (some ⟨F, 0, none⟩) | 32 => .pointer (some ⟨F, 0, none⟩) | 33 => .pointer (some ⟨F, 4, none⟩) | 34 => .bool σ.ow | 35 => .pointer (some ⟨R, 0, none⟩) | 36 => .pointer (some ⟨R, 0, none⟩) | 37 => .pointer (some ⟨R, 8, none⟩) | 38 => .pointer (some ⟨F, 0, none⟩) | 39 => .pointer (some ⟨F, 0, none⟩) | 40 => .pointer (some ⟨F, 5, none⟩) | 41 => .bool σ.re | 42 => .pointer (some ⟨R, 0, none⟩) | 43 => .pointer (some ⟨R, 0, none⟩) | 44 => .pointer (some ⟨R, 8, none⟩) | 45 => .pointer (some ⟨F, 0, none⟩) | 46 => .pointer (some ⟨F, 0, none⟩) | 47 => .pointer (some ⟨F, 7, none⟩) | 48 => .pointer (some ⟨D, 0, none⟩) | 49 => .pointer (some ⟨D, 0, none⟩) | 50 => .pointer (some ⟨D, 2, none⟩) | 51 => .int .i64 σ.sn | 52 => .pointer (some ⟨R, 0, none⟩) | 53 => .pointer (some ⟨R, 0, none⟩) | 54 => .pointer (some ⟨R, 8, none⟩) | 55 => .pointer (some ⟨F, 0, none⟩) | 56 => .pointer (some ⟨F, 0, none⟩) | 57 => .pointer (some ⟨F, 7, none⟩) | 58 => .pointer (some ⟨D, 0, none⟩) | 59 => .pointer (some ⟨D, 0, none⟩) | 60 => .pointer (some ⟨D, 1, none⟩) | 61 => .slice a1 σ.L.length cap1 | 62 => .int .i64 σ.L.length | 63 => .pointer (some ⟨R, 0, none⟩) | 64 => .pointer (some ⟨R, 0, none⟩) | 65 => .pointer (some ⟨R, 8, none⟩) | 66 => .pointer (some ⟨F, 0, none⟩) | 67 => .pointer (some ⟨F, 0, none⟩) | 68 => .pointer (some ⟨F, 7, none⟩) | 69 => .pointer (some ⟨D, 0, none⟩) | 70 => .pointer (some ⟨D, 0, none⟩) | 71 => .pointer (some ⟨D, 2, none⟩) | 72 => .int .i64 σ.sn | 73 => .int .i64 ((σ.L.length - σ.sn : Nat) : Int) | 74 => vwV σ | 75 => .pointer (some ⟨B, 0, none⟩) | _ => undef
theorem senD_inj : ∀ i j d, i < 77 → j < 77 → senD i = some d → senD j = some d → i = j := by
  have h : ∀ i < 77, ∀ j < 77, senD i = senD j → senD i ≠ none → i = j := by decide
  intro i j d hi hj h1 h2
  exact h i hi j hj (h1.trans h2.symm) (by rw [h1]; simp)
theorem senD_lt : ∀ i d, i < 77 → senD i = some d → d < 117 := by
  have h : ∀ i < 77, (senD i).all (· < 117) = true := by decide
  intro i d hi hd
  have := h i hi
  rw [hd] at this
  simpa using this

set_option maxHeartbeats 4000000 in
theorem sameEntity_any (C R : Nat) (lc lr : Nat → Nat) (e : Em.St) (o : List Em.Eff) (w : World) (hE : Ent C w lc e) (hR : Rn R w lr { e with out := o }) :
    Calls Tryz.prog 12 #[.pointer (some ⟨C, 0, none⟩), .pointer (some ⟨R, 0, none⟩)] w fun r w' => r = .returned (.bool true) ∧ Below w.heap.size w w' := by
  have HV := eview_any C lc e w hE
  have HL : Hid (∀ w', Below w.heap.size w w' → Rn R w' lr { e with out := o }) := fun w' hb => hR.below hb
  have hsn := hE.ok.fl.sl
  have hle := hE.ok.fl.ll
  clear hE hR
  obtain ⟨most, st, tei, tries, asked, t200, t203, units, σ, out⟩ := e
  simp only [] at hsn hle
  unfold evV at HV
  simp only [] at HV HL
  go_enter Tryz.func12, Tryz.ntmps12
  go_wp2_with fail
  refine HV.mono ?_
  rintro r w1 ⟨rfl, hb⟩
  obtain ⟨W, hW⟩ : ∃ W, W = w1.alloc (.cells #[.int .i64 st, .int .i64 tei, .int .i64 tries, .bool asked, .bool t200, .bool t203, .int .i64 units.length, .int .i64 σ.vs, .int .i64 σ.va, .int .i64 σ.vr, .bool σ.pe, .bool σ.ow, .bool σ.re, .int .i64 σ.sn, .int .i64 ((σ.L.length - σ.sn : Nat) : Int)] 64) := ⟨_, rfl⟩
  have hbW : Below w1.heap.size w1 W := by rw [hW]; exact (Below.refl _ _).alloc (Nat.le_refl _) _
  have HVw : Hid (Holds W w1.heap.size (evL ⟨most, st, tei, tries, asked, t200, t203, units, σ, out⟩) ∧ w1.heap.size < W.heap.size) := by
    refine ⟨fun j u hj => ?_, by rw [hW]; simp⟩
    rw [hW]
    exact (cell_of_row _ _ j _ _ _ (heap_alloc_new w1 _)).trans (by simpa [evL] using hj)
  have HB : Hid (Below w.heap.size w W) := hb.trans (hbW.mono hb.size)
  have h1 := HL.out W HB.out
  obtain ⟨F, D, H, c8, hf, -⟩ := h1.fl
  obtain ⟨au, capu, U, c7, -, -⟩ := h1.un
  have c1 := h1.cs.c1
  have c2 := h1.cs.c2
  have c3 := h1.cs.c3
  have c4 := h1.cs.c4
  have c5 := h1.cs.c5
  have c6 := h1.cs.c6
  have hlt := h1.cs.lt
  have f0 := hf.fr.c0
  have f1 := hf.fr.c1
  have f2 := hf.fr.c2
  have f3 := hf.fr.c3
  have f4 := hf.fr.c4
  have f5 := hf.fr.c5
  have f7 := hf.c7
  have hF := hf.lt
  have hD := hf.qu.lt
  obtain ⟨a1, cap1, q1, -⟩ := hf.qu.c1
  have q2 := hf.qu.c2
  simp only [] at c1 c2 c3 c4 c5 c6 c7 f0 f1 f2 f3 f4 f5 q1 q2
  have HSL : Hid (∀ W', Below W.heap.size W W' → W'.cell? ⟨R, 1, none⟩ = some (.int .i64 st) ∧ W'.cell? ⟨R, 2, none⟩ = some (.int .i64 tei) ∧ W'.cell? ⟨R, 3, none⟩ = some (.int .i64 tries) ∧ W'.cell? ⟨R, 4, none⟩ = some (.bool asked) ∧ W'.cell? ⟨R, 5, none⟩ = some (.bool t200) ∧ W'.cell? ⟨R, 6, none⟩ = some (.bool t203) ∧ W'.cell? ⟨R, 7, none⟩ = some (.slice au units.length capu) ∧ R < W'.heap.size) := fun W' hb' =>
    ⟨(hb'.cell (p := ⟨R, 1, none⟩) hlt).trans c1, (hb'.cell (p := ⟨R, 2, none⟩) hlt).trans c2, (hb'.cell (p := ⟨R, 3, none⟩) hlt).trans c3, (hb'.cell (p := ⟨R, 4, none⟩) hlt).trans c4, (hb'.cell (p := ⟨R, 5, none⟩) hlt).trans c5, (hb'.cell (p := ⟨R, 6, none⟩) hlt).trans c6, (hb'.cell (p := ⟨R, 7, none⟩) hlt).trans c7, Nat.lt_of_lt_of_le hlt hb'.size⟩
  clear h1 hf hb HV HL hbW c1 c2 c3 c4 c5 c6 c7
  go_upto_region 2 with fail
  rw [← hW]
  clear hW
  refine region_vals (by kernel_rfl) 77 rfl senD (senV R F D W.heap.size a1 cap1 σ) senD_inj ?hd ?hlow (SenJ W σ) ?h0 ?hstep ?hdone
  case hd => exact senD_lt
  case hlow => kernel_rfl
  case h0 => exact ⟨(Below.refl _ _).drew, fun _ => rfl, fun h => by rw [rep_getD'] at h; exact absurd h (by decide), fun h => by rw [rep_getD'] at h; exact absurd h (by decide), fun h => by rw [rep_getD'] at h; exact absurd h (by decide)⟩
  case hstep =>
    intro l a w2 i hi hJ hr hK
    have s1 : a.eval (.tmp 1) = .pointer (some ⟨R, 0, none⟩) := hK.rest 1 (by decide)
    have got : ∀ j, j ∈ depsOf .any _ i → ∀ d, senD j = some d → j < 77 → a.eval (.tmp d) = senV R F D W.heap.size a1 cap1 σ j := fun j hj d hd hj' => hK.got j d hj' (ready_deps hr j hj) hd
    match i, hi, hr, got with
    | 0, _, hr, got => exact step_val rfl rfl (runw_move rfl s1 w2) rfl (hJ.keep (by decide) (by decide))
    | 1, _, hr, got => exact step_val rfl rfl (rune_nil rfl (got 0 (by decide) 9 rfl (by decide)) w2) rfl (hJ.keep (by decide) (by decide))
    | 2, _, hr, got => exact step_val rfl rfl (runv_fe rfl (got 1 (by decide) 10 rfl (by decide)) w2) rfl (hJ.keep (by decide) (by decide))
    | 3, _, hr, got => exact step_val rfl rfl (runv_ldp (Or.inl rfl) (got 2 (by decide) 11 rfl (by decide)) ((hJ.bel.cell (p := ⟨R, 8, none⟩) hlt).trans c8)) rfl (hJ.keep (by decide) (by decide))
    | 4, _, hr, got => exact step_val rfl rfl (rune_nil rfl (got 3 (by decide) 12 rfl (by decide)) w2) rfl (hJ.keep (by decide) (by decide))
    | 5, _, hr, got => exact step_val rfl rfl (runv_ff 0 (by decide) rfl (got 4 (by decide) 13 rfl (by decide)) w2) rfl (hJ.keep (by decide) (by decide))
    | 6, _, hr, got => exact step_val rfl rfl (rune_ldi rfl (got 5 (by decide) 14 rfl (by decide)) ((hJ.bel.cell (p := ⟨F, 0, none⟩) hF).trans f0)) rfl (hJ.keep (by decide) (by decide))
    | 7, _, hr, got => exact step_val rfl rfl (runw_move rfl s1 w2) rfl (hJ.keep (by decide) (by decide))
    | 8, _, hr, got => exact step_val rfl rfl (rune_nil rfl (got 7 (by decide) 16 rfl (by decide)) w2) rfl (hJ.keep (by decide) (by decide))
    | 9, _, hr, got => exact step_val rfl rfl (runv_fe rfl (got 8 (by decide) 17 rfl (by decide)) w2) rfl (hJ.keep (by decide) (by decide))
    | 10, _, hr, got => exact step_val rfl rfl (runv_ldp (Or.inl rfl) (got 9 (by decide) 18 rfl (by decide)) ((hJ.bel.cell (p := ⟨R, 8, none⟩) hlt).trans c8)) rfl (hJ.keep (by decide) (by decide))
    | 11, _, hr, got => exact step_val rfl rfl (rune_nil rfl (got 10 (by decide) 19 rfl (by decide)) w2) rfl (hJ.keep (by decide) (by decide))
    | 12, _, hr, got => exact step_val rfl rfl (runv_ff 1 (by decide) rfl (got 11 (by decide) 20 rfl (by decide)) w2) rfl (hJ.keep (by decide) (by decide))
    | 13, _, hr, got => exact step_val rfl rfl (rune_ldi rfl (got 12 (by decide) 21 rfl (by decide)) ((hJ.bel.cell (p := ⟨F, 1, none⟩) hF).trans f1)) rfl (hJ.keep (by decide) (by decide))
    | 14, _, hr, got => exact step_val rfl rfl (runw_move rfl s1 w2) rfl (hJ.keep (by decide) (by decide))
    | 15, _, hr, got => exact step_val rfl rfl (rune_nil rfl (got 14 (by decide) 23 rfl (by decide)) w2) rfl (hJ.keep (by decide) (by decide))
    | 16, _, hr, got => exact step_val rfl rfl (runv_fe rfl (got 15 (by decide) 24 rfl (by decide)) w2) rfl (hJ.keep (by decide) (by decide))
    | 17, _, hr, got => exact step_val rfl rfl (runv_ldp (Or.inl rfl) (got 16 (by decide) 25 rfl (by decide)) ((hJ.bel.cell (p := ⟨R, 8, none⟩) hlt).trans c8)) rfl (hJ.keep (by decide) (by decide))
    | 18, _, hr, got => exact step_val rfl rfl (rune_nil rfl (got 17 (by decide) 26 rfl (by decide)) w2) rfl (hJ.keep (by decide) (by decide))
    | 19, _, hr, got => exact step_val rfl rfl (runv_ff 2 (by decide) rfl (got 18 (by decide) 27 rfl (by decide)) w2) rfl (hJ.keep (by decide) (by decide))
    | 20, _, hr, got => exact step_val rfl rfl (rune_ldi rfl (got 19 (by decide) 28 rfl (by decide)) ((hJ.bel.cell (p := ⟨F, 2, none⟩) hF).trans f2)) rfl (hJ.keep (by decide) (by decide))
    | 21, _, hr, got => exact step_val rfl rfl (runw_move rfl s1 w2) rfl (hJ.keep (by decide) (by decide))
    | 22, _, hr, got => exact step_val rfl rfl (rune_nil rfl (got 21 (by decide) 30 rfl (by decide)) w2) rfl (hJ.keep (by decide) (by decide))
    | 23, _, hr, got => exact step_val rfl rfl (runv_fe rfl (got 22 (by decide) 31 rfl (by decide)) w2) rfl (hJ.keep (by decide) (by decide))
    | 24, _, hr, got => exact step_val rfl rfl (runv_ldp (Or.inl rfl) (got 23 (by decide) 32 rfl (by decide)) ((hJ.bel.cell (p := ⟨R, 8, none⟩) hlt).trans c8)) rfl (hJ.keep (by decide) (by decide))
    | 25, _, hr, got => exact step_val rfl rfl (rune_nil rfl (got 24 (by decide) 33 rfl (by decide)) w2) rfl (hJ.keep (by decide) (by decide))
    | 26, _, hr, got => exact step_val rfl rfl (runv_ff 3 (by decide) rfl (got 25 (by decide) 34 rfl (by decide)) w2) rfl (hJ.keep (by decide) (by decide))
    | 27, _, hr, got => exact step_val rfl rfl (rune_ldb rfl (got 26 (by decide) 35 rfl (by decide)) ((hJ.bel.cell (p := ⟨F, 3, none⟩) hF).trans f3)) rfl (hJ.keep (by decide) (by decide))
    | 28, _, hr, got => exact step_val rfl rfl (runw_move rfl s1 w2) rfl (hJ.keep (by decide) (by decide))
    | 29, _, hr, got => exact step_val rfl rfl (rune_nil rfl (got 28 (by decide) 37 rfl (by decide)) w2) rfl (hJ.keep (by decide) (by decide))
    | 30, _, hr, got => exact step_val rfl rfl (runv_fe rfl (got 29 (by decide) 38 rfl (by decide)) w2) rfl (hJ.keep (by decide) (by decide))
    | 31, _, hr, got => exact step_val rfl rfl (runv_ldp (Or.inl rfl) (got 30 (by decide) 39 rfl (by decide)) ((hJ.bel.cell (p := ⟨R, 8, none⟩) hlt).trans c8)) rfl (hJ.keep (by decide) (by decide))
    | 32, _, hr, got => exact step_val rfl rfl (rune_nil rfl (got 31 (by decide) 40 rfl (by decide)) w2) rfl (hJ.keep (by decide) (by decide))
    | 33, _, hr, got => exact step_val rfl rfl (runv_ff 4 (by decide) rfl (got 32 (by decide) 41 rfl (by decide)) w2) rfl (hJ.keep (by decide) (by decide))
    | 34, _, hr, got => exact step_val rfl rfl (rune_ldb rfl (got 33 (by decide) 42 rfl (by decide)) ((hJ.bel.cell (p := ⟨F, 4, none⟩) hF).trans f4)) rfl (hJ.keep (by decide) (by decide))
    | 35, _, hr, got => exact step_val rfl rfl (runw_move rfl s1 w2) rfl (hJ.keep (by decide) (by decide))
    | 36, _, hr, got => exact step_val rfl rfl (rune_nil rfl (got 35 (by decide) 44 rfl (by decide)) w2) rfl (hJ.keep (by decide) (by decide))
    | 37, _, hr, got => exact step_val rfl rfl (runv_fe rfl (got 36 (by decide) 45 rfl (by decide)) w2) rfl (hJ.keep (by decide) (by decide))
    | 38, _, hr, got => exact step_val rfl rfl (runv_ldp (Or.inl rfl) (got 37 (by decide) 46 rfl (by decide)) ((hJ.bel.cell (p := ⟨R, 8, none⟩) hlt).trans c8)) rfl (hJ.keep (by decide) (by decide))
    | 39, _, hr, got => exact step_val rfl rfl (rune_nil rfl (got 38 (by decide) 47 rfl (by decide)) w2) rfl (hJ.keep (by decide) (by decide))
    | 40, _, hr, got => exact step_val rfl rfl (runv_ff 5 (by decide) rfl (got 39 (by decide) 48 rfl (by decide)) w2) rfl (hJ.keep (by decide) (by decide))
    | 41, _, hr, got => exact step_val rfl rfl (rune_ldb rfl (got 40 (by decide) 49 rfl (by decide)) ((hJ.bel.cell (p := ⟨F, 5, none⟩) hF).trans f5)) rfl (hJ.keep (by decide) (by decide))
    | 42, _, hr, got => exact step_val rfl rfl (runw_move rfl s1 w2) rfl (hJ.keep (by decide) (by decide))
    | 43, _, hr, got => exact step_val rfl rfl (rune_nil rfl (got 42 (by decide) 51 rfl (by decide)) w2) rfl (hJ.keep (by decide) (by decide))
    | 44, _, hr, got => exact step_val rfl rfl (runv_fe rfl (got 43 (by decide) 52 rfl (by decide)) w2) rfl (hJ.keep (by decide) (by decide))
    | 45, _, hr, got => exact step_val rfl rfl (runv_ldp (Or.inl rfl) (got 44 (by decide) 53 rfl (by decide)) ((hJ.bel.cell (p := ⟨R, 8, none⟩) hlt).trans c8)) rfl (hJ.keep (by decide) (by decide))
    | 46, _, hr, got => exact step_val rfl rfl (rune_nil rfl (got 45 (by decide) 54 rfl (by decide)) w2) rfl (hJ.keep (by decide) (by decide))
    | 47, _, hr, got => exact step_val rfl rfl (runv_ff 7 (by decide) rfl (got 46 (by decide) 55 rfl (by decide)) w2) rfl (hJ.keep (by decide) (by decide))
    | 48, _, hr, got => exact step_val rfl rfl (runv_ldp (Or.inr rfl) (got 47 (by decide) 56 rfl (by decide)) ((hJ.bel.cell (p := ⟨F, 7, none⟩) hF).trans f7)) rfl (hJ.keep (by decide) (by decide))
    | 49, _, hr, got => exact step_val rfl rfl (rune_nil rfl (got 48 (by decide) 57 rfl (by decide)) w2) rfl (hJ.keep (by decide) (by decide))
    | 50, _, hr, got => exact step_val rfl rfl (runv_fq 2 (by decide) rfl (got 49 (by decide) 58 rfl (by decide)) w2) rfl (hJ.keep (by decide) (by decide))
    | 51, _, hr, got => exact step_val rfl rfl (rune_ldi rfl (got 50 (by decide) 59 rfl (by decide)) ((hJ.bel.cell (p := ⟨D, 2, none⟩) hD).trans q2)) rfl (hJ.keep (by decide) (by decide))
    | 52, _, hr, got => exact step_val rfl rfl (runw_move rfl s1 w2) rfl (hJ.keep (by decide) (by decide))
    | 53, _, hr, got => exact step_val rfl rfl (rune_nil rfl (got 52 (by decide) 61 rfl (by decide)) w2) rfl (hJ.keep (by decide) (by decide))
    | 54, _, hr, got => exact step_val rfl rfl (runv_fe rfl (got 53 (by decide) 62 rfl (by decide)) w2) rfl (hJ.keep (by decide) (by decide))
    | 55, _, hr, got => exact step_val rfl rfl (runv_ldp (Or.inl rfl) (got 54 (by decide) 63 rfl (by decide)) ((hJ.bel.cell (p := ⟨R, 8, none⟩) hlt).trans c8)) rfl (hJ.keep (by decide) (by decide))
    | 56, _, hr, got => exact step_val rfl rfl (rune_nil rfl (got 55 (by decide) 64 rfl (by decide)) w2) rfl (hJ.keep (by decide) (by decide))
    | 57, _, hr, got => exact step_val rfl rfl (runv_ff 7 (by decide) rfl (got 56 (by decide) 65 rfl (by decide)) w2) rfl (hJ.keep (by decide) (by decide))
    | 58, _, hr, got => exact step_val rfl rfl (runv_ldp (Or.inr rfl) (got 57 (by decide) 66 rfl (by decide)) ((hJ.bel.cell (p := ⟨F, 7, none⟩) hF).trans f7)) rfl (hJ.keep (by decide) (by decide))
    | 59, _, hr, got => exact step_val rfl rfl (rune_nil rfl (got 58 (by decide) 67 rfl (by decide)) w2) rfl (hJ.keep (by decide) (by decide))
    | 60, _, hr, got => exact step_val rfl rfl (runv_fq 1 (by decide) rfl (got 59 (by decide) 68 rfl (by decide)) w2) rfl (hJ.keep (by decide) (by decide))
    | 61, _, hr, got => exact step_val rfl rfl (rune_ldu rfl (got 60 (by decide) 69 rfl (by decide)) ((hJ.bel.cell (p := ⟨D, 1, none⟩) hD).trans q1)) rfl (hJ.keep (by decide) (by decide))
    | 62, _, hr, got => exact step_val rfl rfl (rune_len (w := w2) rfl (got 61 (by decide) 70 rfl (by decide))) rfl (hJ.keep (by decide) (by decide))
    | 63, _, hr, got => exact step_val rfl rfl (runw_move rfl s1 w2) rfl (hJ.keep (by decide) (by decide))
    | 64, _, hr, got => exact step_val rfl rfl (rune_nil rfl (got 63 (by decide) 72 rfl (by decide)) w2) rfl (hJ.keep (by decide) (by decide))
    | 65, _, hr, got => exact step_val rfl rfl (runv_fe rfl (got 64 (by decide) 73 rfl (by decide)) w2) rfl (hJ.keep (by decide) (by decide))
    | 66, _, hr, got => exact step_val rfl rfl (runv_ldp (Or.inl rfl) (got 65 (by decide) 74 rfl (by decide)) ((hJ.bel.cell (p := ⟨R, 8, none⟩) hlt).trans c8)) rfl (hJ.keep (by decide) (by decide))
    | 67, _, hr, got => exact step_val rfl rfl (rune_nil rfl (got 66 (by decide) 75 rfl (by decide)) w2) rfl (hJ.keep (by decide) (by decide))
    | 68, _, hr, got => exact step_val rfl rfl (runv_ff 7 (by decide) rfl (got 67 (by decide) 76 rfl (by decide)) w2) rfl (hJ.keep (by decide) (by decide))
    | 69, _, hr, got => exact step_val rfl rfl (runv_ldp (Or.inr rfl) (got 68 (by decide) 77 rfl (by decide)) ((hJ.bel.cell (p := ⟨F, 7, none⟩) hF).trans f7)) rfl (hJ.keep (by decide) (by decide))
    | 70, _, hr, got => exact step_val rfl rfl (rune_nil rfl (got 69 (by decide) 78 rfl (by decide)) w2) rfl (hJ.keep (by decide) (by decide))
    | 71, _, hr, got => exact step_val rfl rfl (runv_fq 2 (by decide) rfl (got 70 (by decide) 79 rfl (by decide)) w2) rfl (hJ.keep (by decide) (by decide))
    | 72, _, hr, got => exact step_val rfl rfl (rune_ldi rfl (got 71 (by decide) 80 rfl (by decide)) ((hJ.bel.cell (p := ⟨D, 2, none⟩) hD).trans q2)) rfl (hJ.keep (by decide) (by decide))
    | 73, _, hr, got => exact step_val rfl rfl (runv_sub rfl (got 62 (by decide) 71 rfl (by decide)) (got 72 (by decide) 81 rfl (by decide)) hsn hle w2) rfl (hJ.keep (by decide) (by decide))
    | 74, _, hr, got => exact step_val rfl rfl (runv_build rfl (got 6 (by decide) 15 rfl (by decide)) (got 13 (by decide) 22 rfl (by decide)) (got 20 (by decide) 29 rfl (by decide)) (got 27 (by decide) 36 rfl (by decide)) (got 34 (by decide) 43 rfl (by decide)) (got 41 (by decide) 50 rfl (by decide)) (got 51 (by decide) 60 rfl (by decide)) (got 73 (by decide) 82 rfl (by decide)) w2) rfl (hJ.keep (by decide) (by decide))
    | 75, _, hr, got => exact step_val rfl rfl (runv_alloc rfl (hJ.fresh hr)) rfl (hJ.alloc hr)
    | 76, _, hr, got => exact step_skip rfl rfl (runv_st rfl (got 75 (by decide) 6 rfl (by decide)) (got 74 (by decide) 83 rfl (by decide)) (hJ.may (ready_deps hr 75 (by decide)))) rfl rfl (hJ.stored (ready_deps hr 75 (by decide)))
    | j + 77, hlt, _, _ => exact absurd hlt (by omega)
  case hdone =>
    intro l w' hall hJ
    have HB2 : Hid (Below w.heap.size w w') := HB.out.trans (hJ.bel.mono HB.out.size)
    obtain ⟨y1, y2, y3, y4, y5, y6, y7, yl⟩ := HSL.out w' hJ.bel
    have hm := hJ.m (hall 75 (by decide))
    have hv := hJ.i (hall 76 (by decide))
    have e0 : w'.cell? ⟨W.heap.size, 0, none⟩ = some (.int .i64 σ.vs) := hv 0 _ rfl
    have e1 : w'.cell? ⟨W.heap.size, 1, none⟩ = some (.int .i64 σ.va) := hv 1 _ rfl
    have e2 : w'.cell? ⟨W.heap.size, 2, none⟩ = some (.int .i64 σ.vr) := hv 2 _ rfl
    have e3 : w'.cell? ⟨W.heap.size, 3, none⟩ = some (.bool σ.pe) := hv 3 _ rfl
    have e4 : w'.cell? ⟨W.heap.size, 4, none⟩ = some (.bool σ.ow) := hv 4 _ rfl
    have e5 : w'.cell? ⟨W.heap.size, 5, none⟩ = some (.bool σ.re) := hv 5 _ rfl
    have e6 : w'.cell? ⟨W.heap.size, 6, none⟩ = some (.int .i64 σ.sn) := hv 6 _ rfl
    have e7 : w'.cell? ⟨W.heap.size, 7, none⟩ = some (.int .i64 ((σ.L.length - σ.sn : Nat) : Int)) := hv 7 _ rfl
    have el := hm.lt
    have hg := HVw.out.1.later HVw.out.2 hJ.bel
    have gl : w1.heap.size < w'.heap.size := Nat.lt_of_lt_of_le HVw.out.2 hJ.bel.size
    have g0 : w'.cell? ⟨w1.heap.size, 0, none⟩ = some (.int .i64 st) := hg 0 _ rfl
    have g1 : w'.cell? ⟨w1.heap.size, 1, none⟩ = some (.int .i64 tei) := hg 1 _ rfl
    have g2 : w'.cell? ⟨w1.heap.size, 2, none⟩ = some (.int .i64 tries) := hg 2 _ rfl
    have g3 : w'.cell? ⟨w1.heap.size, 3, none⟩ = some (.bool asked) := hg 3 _ rfl
    have g4 : w'.cell? ⟨w1.heap.size, 4, none⟩ = some (.bool t200) := hg 4 _ rfl
    have g5 : w'.cell? ⟨w1.heap.size, 5, none⟩ = some (.bool t203) := hg 5 _ rfl
    have g6 : w'.cell? ⟨w1.heap.size, 6, none⟩ = some (.int .i64 units.length) := hg 6 _ rfl
    have g7 : w'.cell? ⟨w1.heap.size, 7, none⟩ = some (.int .i64 σ.vs) := hg 7 _ rfl
    have g8 : w'.cell? ⟨w1.heap.size, 8, none⟩ = some (.int .i64 σ.va) := hg 8 _ rfl
    have g9 : w'.cell? ⟨w1.heap.size, 9, none⟩ = some (.int .i64 σ.vr) := hg 9 _ rfl
    have g10 : w'.cell? ⟨w1.heap.size, 10, none⟩ = some (.bool σ.pe) := hg 10 _ rfl
    have g11 : w'.cell? ⟨w1.heap.size, 11, none⟩ = some (.bool σ.ow) := hg 11 _ rfl
    have g12 : w'.cell? ⟨w1.heap.size, 12, none⟩ = some (.bool σ.re) := hg 12 _ rfl
    have g13 : w'.cell? ⟨w1.heap.size, 13, none⟩ = some (.int .i64 σ.sn) := hg 13 _ rfl
    have g14 : w'.cell? ⟨w1.heap.size, 14, none⟩ = some (.int .i64 ((σ.L.length - σ.sn : Nat) : Int)) := hg 14 _ rfl
    clear hall hJ HSL HB HVw hm hv hg hsn hle q1 q2 f0 f1 f2 f3 f4 f5 f7 c8 hlt hF hD
    generalize ((σ.L.length - σ.sn : Nat) : Int) = lf at e7 g14
    simp only [putsOf, senD, senV, Act.put, List.setIfInBounds_toArray, List.set_cons_zero, List.set_cons_succ]
    go_upto_region 3 with fail
    go_quiet (fail)
    go_wp2
    go_ret
    exact ⟨rfl, HB2.out.trans ⟨rfl, rfl, rfl, Nat.le_refl _, fun _ _ => rfl⟩⟩
end Go.Proofs.YtidemohpngkedabGreatDoor
