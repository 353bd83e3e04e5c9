/-
  The walks of the reference's ahead and Start.
-/
import Derived.Test.YtalpfcckdjipoaaRefStop
import Derived.Deep.RegionWith
import Derived.Deep.CutRange
namespace Go.Proofs.Ytalpfcckdjipoaa
open Go.RowKit Go.Maps
set_option linter.unusedVariables false
set_option linter.unusedSimpArgs false

theorem two_blocks (w : World) (o p : Obj) : Below w.heap.size w ((w.alloc o).alloc p) := ((Below.refl _ _).alloc (Nat.le_refl _) _).alloc (by simp) _

set_option maxHeartbeats 1000000 in
set_option maxRecDepth 100000 in
theorem ahead_any (e1 o1 t1 e2 o2 t2 : Int) (w : World) :
    Calls Try.prog 24 #[.agg #[.int .i64 o1, .int .i64 t1, .int .i64 e1], .agg #[.int .i64 o2, .int .i64 t2, .int .i64 e2]] w fun e w' => e = .returned (.bool (Km.lt (e1, o1, t1) (e2, o2, t2))) ∧ Below w.heap.size w w' := by
  by_cases h1 : e1 = e2
  · subst h1
    by_cases h2 : o1 = o2
    · subst h2
      have HE : Hid (Km.lt (e1, o1, t1) (e1, o1, t2) = decide (t1 < t2)) := by show Km.lt _ _ = _; simp [Km.lt]
      go_enter Try.func24, Try.ntmps24
      go_wp2
      go_ret
      exact ⟨by rw [HE.out]; rfl, two_blocks _ _ _⟩
    · have t0 : (o1 == o2) = false := by simpa using h2
      have HE : Hid (Km.lt (e1, o1, t1) (e1, o2, t2) = decide (o1 < o2)) := by show Km.lt _ _ = _; simp [Km.lt, h2]
      clear h2
      go_enter Try.func24, Try.ntmps24
      go_wp2
      go_ret
      exact ⟨by rw [HE.out]; rfl, two_blocks _ _ _⟩
  · have t0 : (e1 == e2) = false := by simpa using h1
    have HE : Hid (Km.lt (e1, o1, t1) (e2, o2, t2) = decide (e1 < e2)) := by show Km.lt _ _ = _; simp [Km.lt, h1]
    clear h1
    go_enter Try.func24, Try.ntmps24
    go_wp2
    go_ret
    exact ⟨by rw [HE.out]; rfl, two_blocks _ _ _⟩
theorem RfM.after {w w1 W1 W2 : World} {R : Nat} {G G1 : Option Nat} {L' : List Km.Tmr} (h : RfM W1 W2 R G1 L') (hk : Kept w W1 (fun k => k = R)) (hf : ∀ B, G1 = some B → G = some B ∨ (w.heap.size ≤ B ∧ B < w1.heap.size)) (hs : w1.heap.size ≤ W1.heap.size) : RfM w W2 R G L' := by
  obtain ⟨G', h1, h2, h3⟩ := h
  refine ⟨G', h1, hk.trans h2 (fun k _ e => e), fun B hB => ?_⟩
  have z1 := hk.size
  have z2 := h2.size
  rcases h3 B hB with h' | h'
  · rcases hf B h' with h'' | h''
    · exact Or.inl h''
    · exact Or.inr ⟨h''.1, by omega⟩
  · exact Or.inr ⟨by omega, h'.2⟩

set_option maxHeartbeats 4000000 in
set_option maxRecDepth 100000 in
theorem rstart_any (R : Nat) (G : Option Nat) (L : List Km.Tmr) (k1 k2 now per : Int) (w : World) (h : Rf w R G L) (hlen : L.length ≤ 100000) (hnow : Km.In now) (hper : Km.In per) :
    Calls Try.prog 17 #[.pointer (some ⟨R, 0, none⟩), .int .i64 k1, .int .i64 k2, .int .i64 now, .int .i64 per] w fun e w' => e = .returned (.int .i64 (startN now per)) ∧ RfM w w' R G (startT (k1, k2) now per L) := by
  obtain ⟨i0, hi, hz0, hz1, hz2⟩ := info_parts tim_info
  obtain ⟨hn1, hn2⟩ := hnow
  obtain ⟨hp1, hp2⟩ := hper
  by_cases hg : Km.good now per
  · have HR : Hid (startN now per = 0) := by unfold startN; rw [if_pos hg]; rfl
    have HT : Hid (startT (k1, k2) now per L = Km.ins (now + per, k1, k2) (Km.rem (k1, k2) L)) := by unfold startT; rw [if_pos hg]; rfl
    obtain ⟨⟨g1, g2⟩, g3, g4⟩ := hg
    have hS := rstop_any R G L k1 k2 w h (by omega)
    have hlt := h.lt
    clear h
    go_enter Try.func17, Try.ntmps17
    go_wp2_with fail
    refine hS.mono ?_
    rintro e w1 ⟨rfl, G1, h1, k1', f1⟩
    obtain ⟨L1, hL1⟩ : ∃ L1, L1 = Km.rem (k1, k2) L := ⟨_, rfl⟩
    have hl1 : L1.length ≤ 100000 := by rw [hL1]; have := Km.rem_length_le (k1, k2) L; omega
    rw [← hL1] at h1 HT
    clear hS hL1
    obtain ⟨x, hx⟩ : ∃ x : Km.Tmr, x = (now + per, k1, k2) := ⟨_, rfl⟩
    obtain ⟨W1, hW1⟩ : ∃ W1, W1 = w1.alloc (.cells #[.int .i64 k1, .int .i64 k2, .int .i64 (now + per)] 42) := ⟨_, rfl⟩
    have qb : Below w1.heap.size w1 W1 := by rw [hW1]; exact (Below.refl _ _).alloc (Nat.le_refl _) _
    have zW : w1.heap.size < W1.heap.size := by rw [hW1]; simp
    have x0 : W1.cell? ⟨w1.heap.size, 0, none⟩ = some (.int .i64 k1) := by rw [hW1]; simp
    have x1 : W1.cell? ⟨w1.heap.size, 1, none⟩ = some (.int .i64 k2) := by rw [hW1]; simp
    have x2 : W1.cell? ⟨w1.heap.size, 2, none⟩ = some (.int .i64 (now + per)) := by rw [hW1]; simp
    have h1W := h1.below qb
    obtain ⟨a, cap, hc, hT⟩ := h1W.c
    have hltW := h1W.lt
    have hfW := h1W.f
    have HRow : Hid (RowT W1 a cap G1 L1) := hT
    have hcp := hT.le
    obtain ⟨n, hn⟩ : ∃ n : Nat, n = L1.length := ⟨_, rfl⟩
    rw [← hn] at hc hl1 hcp
    have HN : Hid (n = L1.length) := hn
    have H1 : Hid (Rf W1 R G1 L1) := h1W
    have HX : Hid (x = (now + per, k1, k2)) := hx
    have HKw : Hid (Kept w W1 (fun k => k = R)) := k1'.trans (T' := fun _ => False) (Kept.of_below qb (fun k hk h' => by omega)) (fun _ _ e => e.elim)
    have HF1 : Hid (∀ B, G1 = some B → G = some B ∨ (w.heap.size ≤ B ∧ B < w1.heap.size)) := f1
    clear h1 h1W hT hn hx k1' f1 qb
    go_wp2
    rw [← hW1]
    clear hW1
    go_loopw [12, 13, 14] (fun v pt c wq => ∃ i : Nat, i ≤ n ∧ c = .int .i64 i ∧ pt = .bool (Km.insAt x L1 i).2 ∧ wq.ownsRow W1.heap.size 42 3 v (Km.insAt x L1 i).1.length (flatT (Km.insAt x L1 i).1) ∧ Hid (Below W1.heap.size W1 wq)) (fun _ _ c _ => n - (intOf c).toNat)
    case atStart => exact ⟨0, Nat.zero_le _, rfl, rfl, World.ownsRow_nil _ _ _ _, Below.refl _ _⟩
    case round =>
      obtain ⟨i, hin, rfl, rfl, hown, HB⟩ := hrel
      have hcq := (HB.out.cell (p := ⟨R, 0, none⟩) hltW).trans hc
      have hRq : R < wr.heap.size := Nat.lt_of_lt_of_le hltW HB.out.size
      have y0 := (HB.out.cell (p := ⟨w1.heap.size, 0, none⟩) (by show w1.heap.size < _; omega)).trans x0
      have y1 := (HB.out.cell (p := ⟨w1.heap.size, 1, none⟩) (by show w1.heap.size < _; omega)).trans x1
      have y2 := (HB.out.cell (p := ⟨w1.heap.size, 2, none⟩) (by show w1.heap.size < _; omega)).trans x2
      have hbs := HB.out.size
      by_cases hil : i < n
      · have hiL : i < L1.length := by rw [← HN.out]; exact hil
        obtain ⟨g, off, rfl, hGg, hgl, c0, c1, c2⟩ := HRow.out.at i hiL
        have hst := Km.insAt_succ x L1 i hiL
        have hln := Km.insAt_length x L1 i (by omega)
        obtain ⟨⟨e1, o1, t1⟩, hxi⟩ : ∃ x, L1[i] = x := ⟨_, rfl⟩
        rw [hxi] at c0 c1 c2 hst
        simp only at c0 c1 c2
        have d0 := (HB.out.cell (p := ⟨g, off + i * 3, none⟩) hgl).trans c0
        have d1 := (HB.out.cell (p := ⟨g, off + i * 3 + 1, none⟩) hgl).trans c1
        have d2 := (HB.out.cell (p := ⟨g, off + i * 3 + 2, none⟩) hgl).trans c2
        have hgq : g < wr.heap.size := Nat.lt_of_lt_of_le hgl HB.out.size
        have HST : Hid _ := hst
        clear hst hxi c0 c1 c2
        go_upto_region 10 with fail
        go_cut [15] from 40 to 76 (fun s15 wx => s15 = .bool (Km.lt x (e1, o1, t1)) ∧ Hid (Below wr.heap.size wr wx))
        case first =>
          go_region_with (go_at_call 24; refine (ahead_any _ _ _ _ _ _ _).mono ?_; rintro e w8 ⟨rfl, hb8⟩)
          all_goals
            go_wp2_with fail
            go_meet
            exact ⟨by rw [HX.out], (Below.refl _ _).drew.trans hb8⟩
        case rest =>
          obtain ⟨rfl, HBc⟩ := hcut
          have kc : Kept wr wc (fun _ => False) := Kept.of_below HBc.out (fun k hk h' => by omega)
          have hownc := kc.owns hown (fun _ _ h => h)
          have HBW : Hid (Below W1.heap.size W1 wc) := HB.out.trans (HBc.out.mono hbs)
          have hbw := HBW.out.size
          have hcq' := (kc.cell (p := ⟨R, 0, none⟩) hRq (fun h => h)).trans hcq
          have hRq' : R < wc.heap.size := Nat.lt_of_lt_of_le hRq kc.size
          have hgq' : g < wc.heap.size := Nat.lt_of_lt_of_le hgq kc.size
          have y0' := (kc.cell (p := ⟨w1.heap.size, 0, none⟩) (by show w1.heap.size < _; omega) (fun h => h)).trans y0
          have y1' := (kc.cell (p := ⟨w1.heap.size, 1, none⟩) (by show w1.heap.size < _; omega) (fun h => h)).trans y1
          have y2' := (kc.cell (p := ⟨w1.heap.size, 2, none⟩) (by show w1.heap.size < _; omega) (fun h => h)).trans y2
          have d0' := (kc.cell (p := ⟨g, off + i * 3, none⟩) hgq (fun h => h)).trans d0
          have d1' := (kc.cell (p := ⟨g, off + i * 3 + 1, none⟩) hgq (fun h => h)).trans d1
          have d2' := (kc.cell (p := ⟨g, off + i * 3 + 2, none⟩) hgq (fun h => h)).trans d2
          have hw1c : w1.heap.size < wc.heap.size := by omega
          clear y0 y1 y2 d0 d1 d2 hcq hown kc
          obtain ⟨O, hO⟩ : ∃ O, (Km.insAt x L1 i).1 = O := ⟨_, rfl⟩
          obtain ⟨p, hp⟩ : ∃ p, (Km.insAt x L1 i).2 = p := ⟨_, rfl⟩
          obtain ⟨l, hl⟩ : ∃ l, Km.lt x (e1, o1, t1) = l := ⟨_, rfl⟩
          have hst := HST.out
          rw [hO, hp, hl] at hst
          rw [hp] at hln
          rw [hO] at hln hownc
          have HST : Hid (Km.insAt x L1 (i + 1) = if (!p && l) = true then (O ++ [x] ++ [(e1, o1, t1)], true) else (O ++ [(e1, o1, t1)], p)) := hst
          rw [hp, hl]
          have hol : O.length ≤ i + 1 := by rw [hln]; split <;> omega
          clear hst hO hp hl hln
          cases p
          · cases l
            · have HE : Hid (Km.insAt x L1 (i + 1) = (O ++ [(e1, o1, t1)], false)) := by rw [HST.out]; rfl
              go_wp2_with (at_builtin; refine wpList_append_own _ rfl _ _ 28 rfl W1.heap.size 42 i0 (.agg #[.int .i64 0, .int .i64 0, .int .i64 0]) 3 24 Try.underlying28 hi hz0 hz1 hz2 rfl (by decide) _ _ _ rfl (hownc.alloc _) ⟨wc.heap.size, 0, none⟩ 1 1 [.int .i64 o1, .int .i64 t1, .int .i64 e1] rfl rfl (tim_new o1 t1 e1 _ rfl) (tim_one _ _ _) ?c3 ?c4 ?c5 ?_)
              case c3 => unfold maxLen; omega
              case c4 => omega
              case c5 => simp; omega
              intro v' w9 hown' hgrow _
              have own2 : w9.ownsRow W1.heap.size 42 3 v' (Km.insAt x L1 (i + 1)).1.length (flatT (Km.insAt x L1 (i + 1)).1) := by rw [HE.out]; simp only; rw [flatT_append, List.length_append]; exact hown'
              have HB2 : Hid (Below W1.heap.size W1 w9) := (HBW.out.alloc hbw _).grown hgrow (by simp; omega) (own_base hownc)
              have hpt : (Km.insAt x L1 (i + 1)).2 = false := by rw [HE.out]
              clear hown' hgrow
              go_wp2
              go_roundw
              case rel => exact ⟨i + 1, by omega, by go_num, by rw [hpt], own2, HB2⟩
              case measure => simp [intOf]; omega
            · have HE : Hid (Km.insAt x L1 (i + 1) = (O ++ [x] ++ [(e1, o1, t1)], true)) := by rw [HST.out]; rfl
              go_wp2_with (at_builtin; refine wpList_append_own _ rfl _ _ 28 rfl W1.heap.size 42 i0 (.agg #[.int .i64 0, .int .i64 0, .int .i64 0]) 3 24 Try.underlying28 hi hz0 hz1 hz2 rfl (by decide) _ _ _ rfl (hownc.alloc _) ⟨wc.heap.size, 0, none⟩ 1 1 [.int .i64 k1, .int .i64 k2, .int .i64 (now + per)] rfl rfl (tim_new k1 k2 (now + per) _ rfl) (tim_one _ _ _) ?c3 ?c4 ?c5 ?_)
              case c3 => unfold maxLen; omega
              case c4 => omega
              case c5 => simp; omega
              intro v8 w8 hown8 hgrow8 _
              have own8 : w8.ownsRow W1.heap.size 42 3 v8 (O ++ [x]).length (flatT (O ++ [x])) := by rw [flatT_append, List.length_append, HX.out]; exact hown8
              have HB8 : Hid (Below W1.heap.size W1 w8) := (HBW.out.alloc hbw _).grown hgrow8 (by simp; omega) (own_base hownc)
              have k8 : Kept wc w8 (fun k => W1.heap.size ≤ k) := ((Kept.refl wc (fun k => W1.heap.size ≤ k)).alloc _).trans (T' := fun k => W1.heap.size ≤ k) (Kept.of_grown hgrow8 (fun k e => own_base hownc k e)) (fun k _ e => e)
              have hb8 := HB8.out.size
              have c8 := (k8.cell (p := ⟨R, 0, none⟩) hRq' (Nat.not_le.2 hltW)).trans hcq'
              have d8 := (k8.cell (p := ⟨g, off + i * 3, none⟩) hgq' (Nat.not_le.2 hgl)).trans d0'
              have d9 := (k8.cell (p := ⟨g, off + i * 3 + 1, none⟩) hgq' (Nat.not_le.2 hgl)).trans d1'
              have d10 := (k8.cell (p := ⟨g, off + i * 3 + 2, none⟩) hgq' (Nat.not_le.2 hgl)).trans d2'
              have hR8 : R < w8.heap.size := Nat.lt_of_lt_of_le hRq' k8.size
              have hg8 : g < w8.heap.size := Nat.lt_of_lt_of_le hgq' k8.size
              have hol2 : (O ++ [x]).length ≤ i + 2 := by simp; omega
              clear hown8 hgrow8 hownc k8 hcq' d0' d1' d2' y0' y1' y2'
              go_wp2_with (at_builtin; refine wpList_append_own _ rfl _ _ 28 rfl W1.heap.size 42 i0 (.agg #[.int .i64 0, .int .i64 0, .int .i64 0]) 3 24 Try.underlying28 hi hz0 hz1 hz2 rfl (by decide) _ _ _ rfl (own8.alloc _) ⟨w8.heap.size, 0, none⟩ 1 1 [.int .i64 o1, .int .i64 t1, .int .i64 e1] rfl rfl (tim_new o1 t1 e1 _ rfl) (tim_one _ _ _) ?c3 ?c4 ?c5 ?_)
              case c3 => unfold maxLen; omega
              case c4 => omega
              case c5 => simp; omega
              intro v' w9 hown' hgrow _
              have own2 : w9.ownsRow W1.heap.size 42 3 v' (Km.insAt x L1 (i + 1)).1.length (flatT (Km.insAt x L1 (i + 1)).1) := by rw [HE.out]; simp only; rw [flatT_append, List.length_append, List.length_append]; exact hown'
              have HB2 : Hid (Below W1.heap.size W1 w9) := (HB8.out.alloc hb8 _).grown hgrow (by simp; omega) (own_base own8)
              have hpt : (Km.insAt x L1 (i + 1)).2 = true := by rw [HE.out]
              clear hown' hgrow
              go_wp2
              go_roundw
              case rel => exact ⟨i + 1, by omega, by go_num, by rw [hpt], own2, HB2⟩
              case measure => simp [intOf]; omega
          · cases l
            · have HE : Hid (Km.insAt x L1 (i + 1) = (O ++ [(e1, o1, t1)], true)) := by rw [HST.out]; rfl
              go_wp2_with (at_builtin; refine wpList_append_own _ rfl _ _ 28 rfl W1.heap.size 42 i0 (.agg #[.int .i64 0, .int .i64 0, .int .i64 0]) 3 24 Try.underlying28 hi hz0 hz1 hz2 rfl (by decide) _ _ _ rfl (hownc.alloc _) ⟨wc.heap.size, 0, none⟩ 1 1 [.int .i64 o1, .int .i64 t1, .int .i64 e1] rfl rfl (tim_new o1 t1 e1 _ rfl) (tim_one _ _ _) ?c3 ?c4 ?c5 ?_)
              case c3 => unfold maxLen; omega
              case c4 => omega
              case c5 => simp; omega
              intro v' w9 hown' hgrow _
              have own2 : w9.ownsRow W1.heap.size 42 3 v' (Km.insAt x L1 (i + 1)).1.length (flatT (Km.insAt x L1 (i + 1)).1) := by rw [HE.out]; simp only; rw [flatT_append, List.length_append]; exact hown'
              have HB2 : Hid (Below W1.heap.size W1 w9) := (HBW.out.alloc hbw _).grown hgrow (by simp; omega) (own_base hownc)
              have hpt : (Km.insAt x L1 (i + 1)).2 = true := by rw [HE.out]
              clear hown' hgrow
              go_wp2
              go_roundw
              case rel => exact ⟨i + 1, by omega, by go_num, by rw [hpt], own2, HB2⟩
              case measure => simp [intOf]; omega
            · have HE : Hid (Km.insAt x L1 (i + 1) = (O ++ [(e1, o1, t1)], true)) := by rw [HST.out]; rfl
              go_wp2_with (at_builtin; refine wpList_append_own _ rfl _ _ 28 rfl W1.heap.size 42 i0 (.agg #[.int .i64 0, .int .i64 0, .int .i64 0]) 3 24 Try.underlying28 hi hz0 hz1 hz2 rfl (by decide) _ _ _ rfl (hownc.alloc _) ⟨wc.heap.size, 0, none⟩ 1 1 [.int .i64 o1, .int .i64 t1, .int .i64 e1] rfl rfl (tim_new o1 t1 e1 _ rfl) (tim_one _ _ _) ?c3 ?c4 ?c5 ?_)
              case c3 => unfold maxLen; omega
              case c4 => omega
              case c5 => simp; omega
              intro v' w9 hown' hgrow _
              have own2 : w9.ownsRow W1.heap.size 42 3 v' (Km.insAt x L1 (i + 1)).1.length (flatT (Km.insAt x L1 (i + 1)).1) := by rw [HE.out]; simp only; rw [flatT_append, List.length_append]; exact hown'
              have HB2 : Hid (Below W1.heap.size W1 w9) := (HBW.out.alloc hbw _).grown hgrow (by simp; omega) (own_base hownc)
              have hpt : (Km.insAt x L1 (i + 1)).2 = true := by rw [HE.out]
              clear hown' hgrow
              go_wp2
              go_roundw
              case rel => exact ⟨i + 1, by omega, by go_num, by rw [hpt], own2, HB2⟩
              case measure => simp [intOf]; omega
      · have hie : i = n := by omega
        subst hie
        have hall := Km.insAt_all x L1
        rw [← HN.out] at hall
        obtain ⟨O, hO⟩ : ∃ O, (Km.insAt x L1 i).1 = O := ⟨_, rfl⟩
        obtain ⟨p, hp⟩ : ∃ p, (Km.insAt x L1 i).2 = p := ⟨_, rfl⟩
        have hln := Km.insAt_length x L1 i (by rw [HN.out]; exact Nat.le_refl _)
        rw [hp] at hln
        rw [hO] at hln
        have hol : O.length ≤ i + 1 := by rw [hln]; split <;> omega
        rw [hO, hp] at hall
        rw [hO] at hown
        rw [hp]
        have hfq := (HB.out.frozen (p := ⟨R, 0, none⟩) hltW).trans hfW
        clear hO hp hln hc
        cases p
        · have HI : Hid (Km.ins x L1 = O ++ [x]) := hall.symm
          clear hall
          go_wp2_with (at_builtin; refine wpList_append_own _ rfl _ _ 28 rfl W1.heap.size 42 i0 (.agg #[.int .i64 0, .int .i64 0, .int .i64 0]) 3 24 Try.underlying28 hi hz0 hz1 hz2 rfl (by decide) _ _ _ rfl (hown.alloc _) ⟨wr.heap.size, 0, none⟩ 1 1 [.int .i64 k1, .int .i64 k2, .int .i64 (now + per)] rfl rfl (tim_new k1 k2 (now + per) _ rfl) (tim_one _ _ _) ?c3 ?c4 ?c5 ?_)
          case c3 => unfold maxLen; omega
          case c4 => omega
          case c5 => simp; omega
          intro v8 w8 hown8 hgrow8 _
          have own8 : w8.ownsRow W1.heap.size 42 3 v8 (Km.ins x L1).length (flatT (Km.ins x L1)) := by rw [HI.out, flatT_append, List.length_append, HX.out]; exact hown8
          have hb8 : Below W1.heap.size W1 w8 := (HB.out.alloc hbs _).grown hgrow8 (by simp; omega) (own_base hown)
          have HM : Hid (RfM w (w8.setCell ⟨R, 0, none⟩ v8) R G (startT (k1, k2) now per L)) := by
            rw [HT.out, ← HX.out]; exact RfM.after (H1.out.set hb8 own8) HKw.out HF1.out (by omega)
          have c8 := (hb8.cell (p := ⟨R, 0, none⟩) hltW).trans (H1.out.c.choose_spec.choose_spec.1)
          have f8 := (hb8.frozen (p := ⟨R, 0, none⟩) hltW).trans hfW
          have hR8 : R < w8.heap.size := Nat.lt_of_lt_of_le hltW hb8.size
          obtain ⟨a8, cap8, G8, rfl, _, _⟩ := own_rowT own8
          clear hown8 hgrow8 hown own8 hb8 hcq y0 y1 y2
          go_wp2
          go_ret
          exact ⟨by rw [HR.out]; rfl, HM.out⟩
        · have HI : Hid (Km.ins x L1 = O) := hall.symm
          have own8 : wr.ownsRow W1.heap.size 42 3 u12 (Km.ins x L1).length (flatT (Km.ins x L1)) := by rw [HI.out]; exact hown
          have HM : Hid (RfM w (wr.setCell ⟨R, 0, none⟩ u12) R G (startT (k1, k2) now per L)) := by
            rw [HT.out, ← HX.out]; exact RfM.after (H1.out.set HB.out own8) HKw.out HF1.out (by omega)
          obtain ⟨a8, cap8, G8, rfl, _, _⟩ := own_rowT own8
          clear hall own8 hown
          go_wp2
          go_ret
          exact ⟨by rw [HR.out]; rfl, HM.out⟩
  · have HR : Hid (startN now per = 2) := by unfold startN; rw [if_neg hg]; rfl
    have HM : Hid (RfM w w R G (startT (k1, k2) now per L)) := by
      unfold startT; rw [if_neg hg]; exact ⟨G, h, Kept.refl _ _, fun B hB => Or.inl hB⟩
    have hg' : now < 0 ∨ 9007199254740992 < now ∨ per < 1 ∨ 1048576 < per := by unfold Km.good at hg; omega
    clear h hg
    rcases hg' with g | g | g | g
    all_goals
      go_enter Try.func17, Try.ntmps17
      go_wp2
      all_goals
        go_ret
        exact ⟨by rw [HR.out]; rfl, HM.out⟩
end Go.Proofs.Ytalpfcckdjipoaa
