/-
  The walks of the reference's Stop and Drop.
-/
import Derived.Test.YtalpfcckdjipoaaRefClk
namespace Go.Proofs.Ytalpfcckdjipoaa
open Go.RowKit Go.Maps
set_option linter.unusedVariables false
set_option linter.unusedSimpArgs false

set_option maxHeartbeats 2000000 in
set_option maxRecDepth 100000 in
theorem rdrop_any (R : Nat) (G : Option Nat) (L : List Km.Tmr) (o : Int) (w : World) (h : Rf w R G L) (hlen : L.length ≤ 1000000) :
    Calls Try.prog 13 #[.pointer (some ⟨R, 0, none⟩), .int .i64 o] w fun e w' => e = .returned (.int .i64 (dropN o L)) ∧ RfM w w' R G (Km.dropL o L) := by
  obtain ⟨a, cap, hc, hT⟩ := h.c
  obtain ⟨i0, hi, hz0, hz1, hz2⟩ := info_parts tim_info
  have hlt := h.lt
  have hfz := h.f
  have hcp := hT.le
  have HT : Hid (RowT w a cap G L) := hT
  obtain ⟨n, hn⟩ : ∃ n : Nat, n = L.length := ⟨_, rfl⟩
  rw [← hn] at hc hlen hcp
  have HN : Hid (n = L.length) := hn
  have HH : Hid (Rf w R G L) := h
  clear h hT hn
  go_enter Try.func13, Try.ntmps13
  go_wp2
  go_loopw [5, 6] (fun v c wq => ∃ i : Nat, i ≤ n ∧ c = .int .i64 i ∧ wq.ownsRow w.heap.size 42 3 v (Km.dropL o (L.take i)).length (flatT (Km.dropL o (L.take i))) ∧ Hid (Below w.heap.size w wq)) (fun _ c _ => n - (intOf c).toNat)
  case atStart => exact ⟨0, Nat.zero_le _, rfl, by simp [Km.dropL, flatT]; exact World.ownsRow_nil _ _ _ _, Below.refl _ _⟩
  case round =>
    obtain ⟨i, hin, rfl, hown, HB⟩ := hrel
    have hcq := (HB.out.cell (p := ⟨R, 0, none⟩) hlt).trans hc
    have hRq : R < wr.heap.size := Nat.lt_of_lt_of_le hlt HB.out.size
    have hle : (Km.dropL o (L.take i)).length ≤ i := by have := List.length_filter_le (fun a : Km.Tmr => !(decide (a.2.1 = o))) (L.take i); unfold Km.dropL; simp at this ⊢; omega
    by_cases hil : i < n
    · have hiL : i < L.length := by rw [← HN.out]; exact hil
      obtain ⟨g, off, rfl, hGg, hg, c0, c1, c2⟩ := HT.out.at i hiL
      have hst := filt_step (fun a => !(decide (a.2.1 = o))) L i hiL
      obtain ⟨⟨e1, o1, t1⟩, hx⟩ : ∃ x, L[i] = x := ⟨_, rfl⟩
      rw [hx] at c0 c1 c2 hst
      simp only at c0 c1 c2 hst
      have d0 := (HB.out.cell (p := ⟨g, off + i * 3, none⟩) hg).trans c0
      have d1 := (HB.out.cell (p := ⟨g, off + i * 3 + 1, none⟩) hg).trans c1
      have d2 := (HB.out.cell (p := ⟨g, off + i * 3 + 2, none⟩) hg).trans c2
      have hgq : g < wr.heap.size := Nat.lt_of_lt_of_le hg HB.out.size
      by_cases heq : o1 = o
      · subst heq
        have e5 : Km.dropL o1 (L.take (i + 1)) = Km.dropL o1 (L.take i) := by
          unfold Km.dropL; rw [hst]; simp
        have own2 : wr.ownsRow w.heap.size 42 3 u5 (Km.dropL o1 (L.take (i + 1))).length (flatT (Km.dropL o1 (L.take (i + 1)))) := by rw [e5]; exact hown
        clear hst hx hiL c0 c1 c2 e5 hc hown
        go_wp2
        go_roundw
        case rel => exact ⟨i + 1, by omega, by go_num, own2, HB⟩
        case measure => simp [intOf]; omega
      · have e5 : Km.dropL o (L.take (i + 1)) = Km.dropL o (L.take i) ++ [(e1, o1, t1)] := by
          unfold Km.dropL; rw [hst]; simp [heq]
        have t0 : (o1 == o) = false := by simpa using heq
        have HE : Hid (Km.dropL o (L.take (i + 1)) = Km.dropL o (L.take i) ++ [(e1, o1, t1)]) := e5
        have hbs := HB.out.size
        clear hst hx hiL c0 c1 c2 hc e5 heq
        go_wp2_with (at_builtin; refine wpList_append_own _ rfl _ _ 28 rfl w.heap.size 42 i0 (.agg #[.int .i64 0, .int .i64 0, .int .i64 0]) 3 24 Try.underlying28 hi hz0 hz1 hz2 rfl (by decide) _ _ _ rfl (hown.alloc _) ⟨wr.heap.size, 0, none⟩ 1 1 [.int .i64 o1, .int .i64 t1, .int .i64 e1] rfl rfl (tim_new o1 t1 e1 _ rfl) (tim_one _ _ _) ?c3 ?c4 ?c5 ?_)
        case c3 => unfold maxLen; omega
        case c4 => omega
        case c5 => simp; omega
        intro v' w2 hown' hgrow _
        have own2 : w2.ownsRow w.heap.size 42 3 v' (Km.dropL o (L.take (i + 1))).length (flatT (Km.dropL o (L.take (i + 1)))) := by
          rw [HE.out, flatT_append, List.length_append]; exact hown'
        have HB2 : Hid (Below w.heap.size w w2) := (HB.out.alloc hbs _).grown hgrow (by simp; omega) (own_base hown)
        clear hown' hgrow hown d0 d1 d2
        go_wp2
        go_roundw
        case rel => exact ⟨i + 1, by omega, by go_num, own2, HB2⟩
        case measure => simp [intOf]; omega
    · have hie : i = n := by omega
      subst hie
      have e5 : Km.dropL o (L.take i) = Km.dropL o L := by rw [HN.out, List.take_length]
      rw [e5] at hown hle
      have HM : Hid (RfM w (wr.setCell ⟨R, 0, none⟩ u5) R G (Km.dropL o L)) := HH.out.set HB.out hown
      have hfq := (HB.out.frozen (p := ⟨R, 0, none⟩) hlt).trans hfz
      obtain ⟨a5, cap5, G5, rfl, hT5, _⟩ := own_rowT hown
      have HD : Hid ((i : Int) - (Km.dropL o L).length = dropN o L) := by unfold dropN; rw [HN.out]; rfl
      clear e5 hown hc HT hT5
      obtain ⟨k, hk⟩ : ∃ k, k = (Km.dropL o L).length := ⟨_, rfl⟩
      rw [← hk] at HM HD hle ⊢
      clear hk
      go_wp2
      go_ret
      exact ⟨by rw [← HD.out]; rfl, HM.out⟩

set_option maxHeartbeats 2000000 in
set_option maxRecDepth 100000 in
theorem rstop_any (R : Nat) (G : Option Nat) (L : List Km.Tmr) (k1 k2 : Int) (w : World) (h : Rf w R G L) (hlen : L.length ≤ 1000000) :
    Calls Try.prog 11 #[.pointer (some ⟨R, 0, none⟩), .int .i64 k1, .int .i64 k2] w fun e w' => e = .returned (.bool (Km.runs L (k1, k2))) ∧ RfM w w' R G (Km.rem (k1, k2) L) := by
  obtain ⟨a, cap, hc, hT⟩ := h.c
  obtain ⟨i0, hi, hz0, hz1, hz2⟩ := info_parts tim_info
  have hlt := h.lt
  have hfz := h.f
  have hcp := hT.le
  have HT : Hid (RowT w a cap G L) := hT
  obtain ⟨n, hn⟩ : ∃ n : Nat, n = L.length := ⟨_, rfl⟩
  rw [← hn] at hc hlen hcp
  have HN : Hid (n = L.length) := hn
  have HH : Hid (Rf w R G L) := h
  clear h hT hn
  go_enter Try.func11, Try.ntmps11
  go_wp2
  go_loopw [7, 8] (fun v c wq => ∃ i : Nat, i ≤ n ∧ c = .int .i64 i ∧ wq.ownsRow w.heap.size 42 3 v (Km.rem (k1, k2) (L.take i)).length (flatT (Km.rem (k1, k2) (L.take i))) ∧ Hid (Below w.heap.size w wq)) (fun _ c _ => n - (intOf c).toNat)
  case atStart => exact ⟨0, Nat.zero_le _, rfl, by simp [Km.rem, flatT]; exact World.ownsRow_nil _ _ _ _, Below.refl _ _⟩
  case round =>
    obtain ⟨i, hin, rfl, hown, HB⟩ := hrel
    have hcq := (HB.out.cell (p := ⟨R, 0, none⟩) hlt).trans hc
    have hRq : R < wr.heap.size := Nat.lt_of_lt_of_le hlt HB.out.size
    have hle : (Km.rem (k1, k2) (L.take i)).length ≤ i := by have := List.length_filter_le (fun a : Km.Tmr => !(decide (a.2 = (k1, k2)))) (L.take i); unfold Km.rem; simp at this ⊢; omega
    by_cases hil : i < n
    · have hiL : i < L.length := by rw [← HN.out]; exact hil
      obtain ⟨g, off, rfl, hGg, hg, c0, c1, c2⟩ := HT.out.at i hiL
      have hst := filt_step (fun a => !(decide (a.2 = (k1, k2)))) L i hiL
      obtain ⟨⟨e1, o1, t1⟩, hx⟩ : ∃ x, L[i] = x := ⟨_, rfl⟩
      rw [hx] at c0 c1 c2 hst
      simp only at c0 c1 c2 hst
      have d0 := (HB.out.cell (p := ⟨g, off + i * 3, none⟩) hg).trans c0
      have d1 := (HB.out.cell (p := ⟨g, off + i * 3 + 1, none⟩) hg).trans c1
      have d2 := (HB.out.cell (p := ⟨g, off + i * 3 + 2, none⟩) hg).trans c2
      have hgq : g < wr.heap.size := Nat.lt_of_lt_of_le hg HB.out.size
      by_cases heq : o1 = k1 ∧ t1 = k2
      · obtain ⟨rfl, rfl⟩ := heq
        have e5 : Km.rem (o1, t1) (L.take (i + 1)) = Km.rem (o1, t1) (L.take i) := by
          unfold Km.rem; rw [hst]; simp
        have own2 : wr.ownsRow w.heap.size 42 3 u7 (Km.rem (o1, t1) (L.take (i + 1))).length (flatT (Km.rem (o1, t1) (L.take (i + 1)))) := by rw [e5]; exact hown
        clear hst hx hiL c0 c1 c2 e5 hc hown
        go_wp2
        go_roundw
        case rel => exact ⟨i + 1, by omega, by go_num, own2, HB⟩
        case measure => simp [intOf]; omega
      · have e5 : Km.rem (k1, k2) (L.take (i + 1)) = Km.rem (k1, k2) (L.take i) ++ [(e1, o1, t1)] := by
          unfold Km.rem; rw [hst]; have hne : ¬ ((o1, t1) = (k1, k2)) := fun e => heq (by injection e with e1 e2; exact ⟨e1, e2⟩)
          simp [hne]
        have hcs : (o1 = k1 ∧ (t1 == k2) = false) ∨ (o1 == k1) = false := by
          by_cases y1 : o1 = k1
          · exact Or.inl ⟨y1, by simpa using fun e => heq ⟨y1, e⟩⟩
          · exact Or.inr (by simpa using y1)
        have HE : Hid (Km.rem (k1, k2) (L.take (i + 1)) = Km.rem (k1, k2) (L.take i) ++ [(e1, o1, t1)]) := e5
        have hbs := HB.out.size
        clear hst hx hiL c0 c1 c2 hc e5 heq
        rcases hcs with ⟨rfl, t2⟩ | t2
        · go_wp2_with (at_builtin; refine wpList_append_own _ rfl _ _ 28 rfl w.heap.size 42 i0 (.agg #[.int .i64 0, .int .i64 0, .int .i64 0]) 3 24 Try.underlying28 hi hz0 hz1 hz2 rfl (by decide) _ _ _ rfl (hown.alloc _) ⟨wr.heap.size, 0, none⟩ 1 1 [.int .i64 o1, .int .i64 t1, .int .i64 e1] rfl rfl (tim_new o1 t1 e1 _ rfl) (tim_one _ _ _) ?c3 ?c4 ?c5 ?_)
          case c3 => unfold maxLen; omega
          case c4 => omega
          case c5 => simp; omega
          intro v' w2 hown' hgrow _
          have own2 : w2.ownsRow w.heap.size 42 3 v' (Km.rem (o1, k2) (L.take (i + 1))).length (flatT (Km.rem (o1, k2) (L.take (i + 1)))) := by
            rw [HE.out, flatT_append, List.length_append]; exact hown'
          have HB2 : Hid (Below w.heap.size w w2) := (HB.out.alloc hbs _).grown hgrow (by simp; omega) (own_base hown)
          clear hown' hgrow hown d0 d1 d2
          go_wp2
          go_roundw
          case rel => exact ⟨i + 1, by omega, by go_num, own2, HB2⟩
          case measure => simp [intOf]; omega
        · go_wp2_with (at_builtin; refine wpList_append_own _ rfl _ _ 28 rfl w.heap.size 42 i0 (.agg #[.int .i64 0, .int .i64 0, .int .i64 0]) 3 24 Try.underlying28 hi hz0 hz1 hz2 rfl (by decide) _ _ _ rfl (hown.alloc _) ⟨wr.heap.size, 0, none⟩ 1 1 [.int .i64 o1, .int .i64 t1, .int .i64 e1] rfl rfl (tim_new o1 t1 e1 _ rfl) (tim_one _ _ _) ?c3 ?c4 ?c5 ?_)
          case c3 => unfold maxLen; omega
          case c4 => omega
          case c5 => simp; omega
          intro v' w2 hown' hgrow _
          have own2 : w2.ownsRow w.heap.size 42 3 v' (Km.rem (k1, k2) (L.take (i + 1))).length (flatT (Km.rem (k1, k2) (L.take (i + 1)))) := by
            rw [HE.out, flatT_append, List.length_append]; exact hown'
          have HB2 : Hid (Below w.heap.size w w2) := (HB.out.alloc hbs _).grown hgrow (by simp; omega) (own_base hown)
          clear hown' hgrow hown d0 d1 d2
          go_wp2
          go_roundw
          case rel => exact ⟨i + 1, by omega, by go_num, own2, HB2⟩
          case measure => simp [intOf]; omega
    · have hie : i = n := by omega
      subst hie
      have e5 : Km.rem (k1, k2) (L.take i) = Km.rem (k1, k2) L := by rw [HN.out, List.take_length]
      rw [e5] at hown hle
      have HM : Hid (RfM w (wr.setCell ⟨R, 0, none⟩ u7) R G (Km.rem (k1, k2) L)) := HH.out.set HB.out hown
      have hfq := (HB.out.frozen (p := ⟨R, 0, none⟩) hlt).trans hfz
      obtain ⟨a5, cap5, G5, rfl, hT5, _⟩ := own_rowT hown
      have HD : Hid (decide ((Km.rem (k1, k2) L).length < i) = Km.runs L (k1, k2)) := by
        rw [HN.out]
        have := Km.runs_iff (L := L) (k := (k1, k2))
        show decide _ = _
        rw [this]
      clear e5 hown hc HT hT5
      obtain ⟨k, hk⟩ : ∃ k, k = (Km.rem (k1, k2) L).length := ⟨_, rfl⟩
      rw [← hk] at HM HD hle ⊢
      clear hk
      go_wp2
      go_ret
      exact ⟨by rw [← HD.out]; rfl, HM.out⟩
end Go.Proofs.Ytalpfcckdjipoaa
