/-
  The walk of the reference's Due.
-/
import Derived.Test.YtalpfcckdjipoaaRefClk
namespace Go.Proofs.Ytalpfcckdjipoaa
open Go.RowKit Go.Maps
set_option linter.unusedVariables false
set_option linter.unusedSimpArgs false

theorem ok_rest {L : List Km.Tmr} (h : Km.Ok L) (j : Nat) : Km.Ok (L.drop j) := ⟨h.sorted.drop, h.uniq.drop, fun a ha => h.inn a (List.mem_of_mem_drop ha)⟩
/-- those that are over stand first -/
theorem due_split {L : List Km.Tmr} (h : Km.Ok L) {now : Int} {j : Nat} (h1 : ∀ a ∈ L.take j, a.1 ≤ now) (h2 : L.drop j = [] ∨ ∃ x r, L.drop j = x :: r ∧ ¬ x.1 ≤ now) : Km.dueL now L = L.take j ∧ Km.restL now L = L.drop j := by
  have hd : Km.dueL now (L.drop j) = [] ∧ Km.restL now (L.drop j) = L.drop j := by
    rcases h2 with h2 | ⟨x, r, h2, h3⟩
    · rw [h2]; exact ⟨rfl, rfl⟩
    · have hok := ok_rest h j
      rw [h2] at hok ⊢
      exact ⟨Km.due_cons_out hok h3, Km.rest_cons_out hok h3⟩
  have e : L = L.take j ++ L.drop j := (List.take_append_drop j L).symm
  refine ⟨?_, ?_⟩
  · have h3 : Km.dueL now L = Km.dueL now (L.take j) ++ Km.dueL now (L.drop j) := by
      conv => lhs; rw [e]
      unfold Km.dueL; rw [List.filter_append]
    rw [h3, hd.1, List.append_nil]
    exact List.filter_eq_self.2 (fun a ha => by simpa using h1 a ha)
  · have h3 : Km.restL now L = Km.restL now (L.take j) ++ Km.restL now (L.drop j) := by
      conv => lhs; rw [e]
      unfold Km.restL; rw [List.filter_append]
    rw [h3, hd.2]
    have : Km.restL now (L.take j) = [] := List.filter_eq_nil_iff.2 (fun a ha => by simpa using h1 a ha)
    rw [this]; rfl
theorem RowT.tail {w : World} {g off cap : Nat} {x : Km.Tmr} {r : List Km.Tmr} (h : RowT w (some ⟨g, off, none⟩) cap (some g) (x :: r)) : RowT w (if cap = 1 then some ⟨g, off, none⟩ else some ⟨g, off + 3, none⟩) (cap - 1) (some g) r := by
  have hle := h.le
  simp only [List.length_cons] at hle
  refine ⟨by omega, ?_⟩
  by_cases hc1 : cap = 1
  · exact Or.inl (List.eq_nil_of_length_eq_zero (by omega))
  rw [if_neg hc1]
  rcases h.row with h' | ⟨g', off', e1, _, h3, h4⟩
  · cases h'
  · injection e1 with e1
    injection e1 with e1 e2
    subst e1 e2
    refine Or.inr ⟨g, off + 3, rfl, rfl, h3, fun i hi => ?_⟩
    have := h4 (i + 1) (by simp; omega)
    have e : off + (i + 1) * 3 = off + 3 + i * 3 := by omega
    rw [e] at this
    simpa using this
/-- one less -/
theorem Rf.less {w w' : World} {R g off cap : Nat} {x : Km.Tmr} {r : List Km.Tmr} (hc : w.cell? ⟨R, 0, none⟩ = some (.slice (some ⟨g, off, none⟩) (x :: r).length cap)) (hT : RowT w (some ⟨g, off, none⟩) cap (some g) (x :: r)) (hlt : R < w.heap.size) (hf : w.frozen? ⟨R, 0, none⟩ = false) (hne : g ≠ R) {T : Nat → Prop} (hk : Kept w w' T) (hR : ¬ T R) (hG : ¬ T g) :
    Rf (w'.setCell ⟨R, 0, none⟩ (.slice (if cap = 1 then some ⟨g, off, none⟩ else some ⟨g, off + 3, none⟩) r.length (cap - 1))) R (some g) r := by
  have hk0 : Kept w' (w'.setCell ⟨R, 0, none⟩ (.slice (if cap = 1 then some ⟨g, off, none⟩ else some ⟨g, off + 3, none⟩) r.length (cap - 1))) (fun k => k = R) := (Kept.refl w' (fun k => k = R)).setCell (p := ⟨R, 0, none⟩) (fun _ => rfl) _
  have hc' := (hk.cell (p := ⟨R, 0, none⟩) hlt hR).trans hc
  refine ⟨by have := hk.size; have := hk0.size; omega, ⟨_, _, World.cell?_setCell_same' _ ⟨R, 0, none⟩ _ (by rw [hc']; rfl), ?_⟩, ?_, fun e => hne (by injection e)⟩
  · refine (hT.tail.kept hk (fun B hB => ?_)).kept hk0 (fun B hB => ?_)
    · injection hB with hB; subst hB; exact hG
    · injection hB with hB; subst hB; exact hne
  · rw [World.frozen?_setCell]; exact (hk.frozen (p := ⟨R, 0, none⟩) hlt hR).trans hf

def lenOf : Value → Nat
  | .slice _ n _ => n
  | _ => 0

set_option maxHeartbeats 2000000 in
set_option maxRecDepth 100000 in
theorem rdue_any (R : Nat) (G : Option Nat) (L : List Km.Tmr) (now : Int) (w : World) (h : Rf w R G L) (hL : Km.Ok L) (hlen : L.length ≤ 1000000) :
    Calls Try.prog 15 #[.pointer (some ⟨R, 0, none⟩), .int .i64 now] w fun e w' => ∃ v, e = .returned v ∧ w'.ownsRow w.heap.size 42 3 v (Km.dueL now L).length (flatT (Km.dueL now L)) ∧ RfM w w' R G (Km.restL now L) := by
  obtain ⟨i0, hi, hz0, hz1, hz2⟩ := info_parts tim_info
  have hlt := h.lt
  have hGl : Hid (L = [] ∨ ∃ g, G = some g ∧ g < w.heap.size) := by
    obtain ⟨a, cap, hc, hT⟩ := h.c
    rcases hT.row with h' | ⟨g, off, _, h2, h3, _⟩
    · exact Or.inl h'
    · exact Or.inr ⟨g, h2, h3⟩
  have HL : Hid (Km.Ok L) := hL
  have HH : Hid (Rf w R G L) := h
  clear h hL
  go_enter Try.func15, Try.ntmps15
  go_wp2
  go_loopw [5] (fun v wq => ∃ j : Nat, j ≤ L.length ∧ wq.ownsRow w.heap.size 42 3 v (L.take j).length (flatT (L.take j)) ∧ Hid (Rf wq R G (L.drop j)) ∧ Hid (Kept w wq (fun k => k = R)) ∧ Hid (∀ a ∈ L.take j, a.1 ≤ now)) (fun v _ => L.length - lenOf v)
  case atStart => exact ⟨0, Nat.zero_le _, by simp [flatT]; exact World.ownsRow_nil _ _ _ _, HH, Kept.refl _ _, fun a ha => by simp at ha⟩
  case round =>
    obtain ⟨j, hj, hown, HF, HK, HD⟩ := hrel
    have hltl : (L.take j).length = j := by simp; omega
    cases hdr : L.drop j with
    | nil =>
      obtain ⟨s1, s2⟩ := due_split HL.out HD.out (Or.inl hdr)
      have HO : Hid (wr.ownsRow w.heap.size 42 3 u5 (Km.dueL now L).length (flatT (Km.dueL now L))) := by rw [s1]; exact hown
      have HM : Hid (RfM w wr R G (Km.restL now L)) := by rw [s2]; exact ⟨G, HF.out, HK.out, fun B hB => Or.inl hB⟩
      obtain ⟨a, cap, hc, hT⟩ := HF.out.c
      rw [hdr] at hc
      simp only [List.length_nil] at hc
      have hlr := HF.out.lt
      clear hown s1 s2 hT hdr hltl
      go_wp2
      go_ret
      exact ⟨_, rfl, HO.out, HM.out⟩
    | cons x r =>
      obtain ⟨a, cap, hc, hT⟩ := HF.out.c
      have hlr := HF.out.lt
      have hfr := HF.out.f
      have hne := HF.out.ne
      rw [hdr] at hc hT
      obtain ⟨g, off, rfl, rfl, hg, c0, c1, c2⟩ := hT.at 0 (by simp)
      simp only [Nat.zero_mul, Nat.add_zero, List.getElem_cons_zero] at c0 c1 c2
      have hrl : r.length + 1 + j = L.length := by have := congrArg List.length hdr; simp at this; omega
      have hcap := hT.le
      simp only [List.length_cons] at hcap
      obtain ⟨e1, o1, t1⟩ := x
      simp only at c0 c1 c2
      by_cases hle : e1 ≤ now
      · have hjl : j < L.length := by omega
        have hgw : g < w.heap.size := by
          rcases hGl.out with h' | ⟨g', h1, h2⟩
          · rw [h'] at hjl; simp at hjl
          · injection h1 with h1; omega
        have htk : L.take (j + 1) = L.take j ++ [(e1, o1, t1)] := by
          rw [List.take_succ_eq_append_getElem hjl]
          have h1 : L.drop j = L[j] :: L.drop (j + 1) := List.drop_eq_getElem_cons hjl
          rw [hdr] at h1
          injection h1 with h1 _
          rw [h1]
        have hdr2 : L.drop (j + 1) = r := by
          have h1 : L.drop j = L[j] :: L.drop (j + 1) := List.drop_eq_getElem_cons hjl
          rw [hdr] at h1
          injection h1 with _ h1
          exact h1.symm
        have HD2 : Hid (∀ a ∈ L.take (j + 1), a.1 ≤ now) := by
          show ∀ a ∈ L.take (j + 1), a.1 ≤ now
          rw [htk]
          intro b hb
          rcases List.mem_append.1 hb with hb | hb
          · exact HD.out b hb
          · simp at hb; rw [hb]; exact hle
        have HTk : Hid (L.take (j + 1) = L.take j ++ [(e1, o1, t1)]) := htk
        have Hdr2 : Hid (L.drop (j + 1) = r) := hdr2
        have HLess : Hid _ := fun (w' : World) (T : Nat → Prop) => Rf.less (w' := w') (T := T) hc hT hlr hfr (fun e => hne (by rw [e]))
        have hbs := HK.out.size
        have hcR : Hid (wr.cell? ⟨R, 0, none⟩ = some (.slice (some ⟨g, off, none⟩) (r.length + 1) cap) ∧ wr.frozen? ⟨R, 0, none⟩ = false) := ⟨hc, hfr⟩
        simp only [List.length_cons] at hc
        rw [hltl] at hown
        clear htk hdr2 hdr hT
        go_wp2_with (at_builtin; refine wpList_append_own _ rfl _ _ 28 rfl w.heap.size 42 i0 (.agg #[.int .i64 0, .int .i64 0, .int .i64 0]) 3 24 Try.underlying28 hi hz0 hz1 hz2 rfl (by decide) _ _ _ rfl (hown.alloc _) ⟨wr.heap.size, 0, none⟩ 1 1 [.int .i64 o1, .int .i64 t1, .int .i64 e1] rfl rfl (tim_new o1 t1 e1 _ rfl) (tim_one _ _ _) ?c3 ?c4 ?c5 ?_)
        case c3 => unfold maxLen; omega
        case c4 => omega
        case c5 => simp; omega
        intro v' w2 hown' hgrow _
        have hk2 : Kept wr w2 (fun k => w.heap.size ≤ k) := ((Kept.refl wr (fun k => w.heap.size ≤ k)).alloc _).trans (T' := fun k => w.heap.size ≤ k) (Kept.of_grown hgrow (fun k e => own_base hown k e)) (fun k _ e => e)
        have hc2 := (hk2.cell (p := ⟨R, 0, none⟩) hlr (by show ¬ _; simp only; omega)).trans hcR.out.1
        have hf2 := (hk2.frozen (p := ⟨R, 0, none⟩) hlr (by show ¬ _; simp only; omega)).trans hcR.out.2
        have hl2 : R < w2.heap.size := Nat.lt_of_lt_of_le hlr hk2.size
        have own2 : w2.ownsRow w.heap.size 42 3 v' (L.take (j + 1)).length (flatT (L.take (j + 1))) := by
          rw [HTk.out, flatT_append, List.length_append, hltl]; exact hown'
        have F2 : Hid (Rf (w2.setCell ⟨R, 0, none⟩ (.slice (if cap = 1 then some ⟨g, off, none⟩ else some ⟨g, off + 3, none⟩) r.length (cap - 1))) R (some g) (L.drop (j + 1))) := by
          rw [Hdr2.out]; exact HLess.out w2 _ hk2 (Nat.not_le.2 hlt) (Nat.not_le.2 hgw)
        have hk3 : Kept w2 (w2.setCell ⟨R, 0, none⟩ (.slice (if cap = 1 then some ⟨g, off, none⟩ else some ⟨g, off + 3, none⟩) r.length (cap - 1))) (fun k => k = R) := (Kept.refl w2 (fun k => k = R)).setCell (p := ⟨R, 0, none⟩) (fun _ => rfl) _
        have K2 : Hid (Kept w (w2.setCell ⟨R, 0, none⟩ (.slice (if cap = 1 then some ⟨g, off, none⟩ else some ⟨g, off + 3, none⟩) r.length (cap - 1))) (fun k => k = R)) :=
          (HK.out.trans (T' := fun k => w.heap.size ≤ k) hk2 (fun k h1 h2 => by omega)).trans (T' := fun k => k = R) hk3 (fun k _ e => e)
        have own3 : (w2.setCell ⟨R, 0, none⟩ (.slice (if cap = 1 then some ⟨g, off, none⟩ else some ⟨g, off + 3, none⟩) r.length (cap - 1))).ownsRow w.heap.size 42 3 v' (L.take (j + 1)).length (flatT (L.take (j + 1))) := hk3.owns own2 (fun k hk e => by have := own_base own2 k hk; omega)
        have O3 : Hid (((w2.setCell ⟨R, 0, none⟩ (.slice (if cap = 1 then some ⟨g, off, none⟩ else some ⟨g, off + 3, none⟩) r.length (cap - 1))).ownsRow w.heap.size 42 3 v' (L.take (j + 1)).length (flatT (L.take (j + 1))))) := own3
        have HV : Hid (lenOf v' = j + 1) := by
          obtain ⟨a', c', G', e', _⟩ := own_rowT own2
          rw [e']; show (L.take (j + 1)).length = j + 1; simp; omega
        have HU : Hid (lenOf u5 = j) := by
          rcases hown.2 with ⟨e', h'⟩ | ⟨g', c', _, e', _⟩
          · rw [e']; exact h'.symm
          · rw [e']; rfl
        clear hown' hgrow hown own2 own3 hk2 hk3 hc c0 c1 c2
        go_wp2
        go_roundw
        case rel => exact ⟨j + 1, by omega, O3.out, F2, K2, HD2⟩
        case measure => rw [HV.out, HU.out]; omega
      · obtain ⟨s1, s2⟩ := due_split HL.out HD.out (Or.inr ⟨_, _, hdr, hle⟩)
        have HO : Hid (wr.ownsRow w.heap.size 42 3 u5 (Km.dueL now L).length (flatT (Km.dueL now L))) := by rw [s1]; exact hown
        have HM : Hid (RfM w wr R (some g) (Km.restL now L)) := by rw [s2]; exact ⟨some g, HF.out, HK.out, fun B hB => Or.inl hB⟩
        have hle' : now < e1 := by omega
        simp only [List.length_cons] at hc
        clear hown s1 s2 hT hdr hltl hle
        go_wp2
        go_ret
        exact ⟨_, rfl, HO.out, HM.out⟩
end Go.Proofs.Ytalpfcckdjipoaa
