/-
  The law ClockPlays' walk: behind every calls a clock answers, and has, what the document says, step by step.
-/
import Derived.Test.YtalpfcckdjipoaaPlaysStep
import Derived.Deep.CutBlock
import Derived.BigQuiet
namespace Go.Proofs.Ytalpfcckdjipoaa
open Go.RowKit Go.Maps
set_option linter.unusedVariables false
set_option linter.unusedSimpArgs false

theorem drewN_blw {B : Nat} {a b : World} (h : Below B a b) : ∀ n, Below B a (b.drewN n)
  | 0 => h
  | n + 1 => (drewN_blw h n).drew

set_option maxHeartbeats 4000000 in
set_option maxRecDepth 100000 in
theorem walk_ClockPlays (a : Option Addr) (len cap : Nat) (ps : List ActV) (b0 b1 b2 b3 b4 : Int) (w : World) (hr : RowA w a len cap ps) (h0 : -9223372036854775808 ≤ b0 ∧ b0 ≤ 9223372036854775807) (h1 : -9223372036854775808 ≤ b1 ∧ b1 ≤ 9223372036854775807) (h2 : -9223372036854775808 ≤ b2 ∧ b2 ≤ 9223372036854775807) (h3 : -9223372036854775808 ≤ b3 ∧ b3 ≤ 9223372036854775807) (h4 : -9223372036854775808 ≤ b4 ∧ b4 ≤ 9223372036854775807) :
    Calls Try.prog 3 #[.slice a len cap, .agg #[.int .i64 b0, .int .i64 b1, .int .i64 b2, .int .i64 b3, .int .i64 b4]] w fun e w' => e = .returned (.bool true) ∧ Below w.heap.size w w' := by
  have hlc : len ≤ cap := hr.2.1
  have hcm : cap ≤ 9223372036854775807 := by have := hr.2.2.1; unfold maxLen at this; exact this
  obtain ⟨m, hmin, hm100, hml⟩ : ∃ m : Nat, min (len : Int) 100 = (m : Int) ∧ m ≤ 100 ∧ m ≤ len := ⟨(min (len : Int) 100).toNat, by omega, by omega, by omega⟩
  have hfr : a.map (·.add 0) = a := by
    cases a with
    | none => rfl
    | some x => simp [Addr.add]
  have HR : Hid (RowA w a len cap ps) := hr
  have HI1 : Hid (I64 b1 ∧ I64 b2) := ⟨h1, h2⟩
  clear hr h0 h1 h2 h3 h4
  go_enter Try.func3, Try.ntmps3
  obtain ⟨W00, hW00⟩ : ∃ W00, W00 = w.alloc (.cells #[.int .i64 b0, .int .i64 b1, .int .i64 b2, .int .i64 b3, .int .i64 b4] 24) := ⟨_, rfl⟩
  have z00 : W00.heap.size = w.heap.size + 1 := by rw [hW00]; simp
  go_wp2_with fail
  rw [← hW00]
  refine (new_any _).mono ?_
  rintro e w1 ⟨rfl, hc1, hb1⟩
  rw [z00] at hc1 hb1 ⊢
  have z1 : w.heap.size + 1 < w1.heap.size := hc1.lt
  have q00 : Below w.heap.size w W00 := by rw [hW00]; exact (Below.refl _ _).alloc (Nat.le_refl _) _
  have HAsk : Hid ((⟨b0, b1, b2, b3, b4⟩ : ActV).At W00 w.heap.size 0) := by rw [hW00]; exact ⟨by simp, by simp, by simp, by simp, by simp⟩
  obtain ⟨W1, hW1⟩ : ∃ W1, W1 = w1.alloc (.cells #[.slice none 0 0] 30) := ⟨_, rfl⟩
  have q1 : Below w1.heap.size w1 W1 := by rw [hW1]; exact (Below.refl _ _).alloc (Nat.le_refl _) _
  have hRf : Rf W1 w1.heap.size none [] := by
    rw [hW1]
    exact ⟨by simp, ⟨none, 0, by simp, ⟨Nat.le_refl _, Or.inl rfl⟩⟩, by simp, fun e => by cases e⟩
  have hbW1 : Below (w.heap.size + 1) W00 W1 := hb1.trans (q1.mono (by omega))
  have hPl : Pl (w.heap.size + 1) W1 (w.heap.size + 1) none w1.heap.size none 0 [] [] := by
    refine ⟨⟨hc1.below q1, by omega, fun B hB => (by cases hB)⟩, hRf, by omega, fun B hB => (by cases hB), fun B hB => (by cases hB), ?_⟩
    rintro k (rfl | h1) (h2 | h2)
    · omega
    · cases h2
    · cases h1
    · cases h1
  have zW1 : W1.heap.size = w1.heap.size + 1 := by rw [hW1]; simp
  clear hc1 hb1 q1 hRf hW00
  go_wp2_with fail
  rw [← hW1]
  refine (wakes_any _).mono ?_
  rintro e w2 ⟨rfl, hb2⟩
  have hPl2 : Hid (Pl (w.heap.size + 1) w2 (w.heap.size + 1) none w1.heap.size none 0 [] []) := hPl.below hb2
  have hB2 : Hid (Below (w.heap.size + 1) W00 w2) := hbW1.trans (hb2.mono (by omega))
  have HQ00 : Hid (Below w.heap.size w W00) := q00
  clear hPl hbW1 hb2 hW1 zW1 q00
  go_wp2
  clear hmin hfr
  go_loopw [34] (fun c wr => ∃ (i : Nat) (L : List Km.Tmr) (mc G : Option Nat), i ≤ m ∧ c = .int .i64 i ∧ L.length ≤ i ∧ Hid (Pl (w.heap.size + 1) wr (w.heap.size + 1) mc w1.heap.size G i L L) ∧ Hid (Below (w.heap.size + 1) W00 wr)) (fun c _ => m - (intOf c).toNat)
  case atStart => exact ⟨0, [], none, none, Nat.zero_le _, rfl, Nat.le_refl _, hPl2, hB2⟩
  case round =>
    obtain ⟨i, L, mc, G, him, rfl, hLl, HP, HW⟩ := hrel
    clear hPl2 hB2
    by_cases hlt : i < m
    · obtain ⟨bb, off, q, rfl, hbb, hqe, hat, hok⟩ := HR.out.at i (by omega)
      have hat' := (hat.below HQ00.out hbb).below HW.out (by omega)
      have hbr : bb < wr.heap.size := by have := HW.out.size; omega
      obtain ⟨d0, d1, d2, d3, d4⟩ := hat'
      have HO : Hid q.Ok := hok
      have hW0 : actW wr q = (wr.alloc (.cells #[.int .i64 q.d, .int .i64 q.o, .int .i64 q.t, .int .i64 q.n, .int .i64 q.p] 24)).alloc (.cells #[.int .i64 q.o, .int .i64 q.t] 33) := rfl
      have hkey : InK (q.o, q.t) := ⟨hok.o, hok.t⟩
      have HKey : Hid (InK (q.o, q.t)) := hkey
      have HOk : Hid (Km.Ok L) := HP.out.clk.clk.ok
      clear hat hqe hok hkey
      go_upto_block 2 with fail
      rw [← hW0]
      have HT : Hid (∀ k, tch (w.heap.size + 1) mc k → k < wr.heap.size) := fun k hk => HP.out.clk.clk.tlt hk
      have hRs : w1.heap.size < wr.heap.size := HP.out.ref.lt
      have hbs : w.heap.size + 1 ≤ wr.heap.size := by have := HW.out.size; omega
      have HAq : Hid (ActIn q (actW wr q) wr.heap.size) := actIn_made wr q
      have HPq : Hid (Pl (w.heap.size + 1) (actW wr q) (w.heap.size + 1) mc w1.heap.size G i L L) := HP.out.below (actW_below wr q)
      have HBq : Hid (Below (w.heap.size + 1) W00 (actW wr q)) := HW.out.trans ((actW_below wr q).mono hbs)
      clear hW0 HP HW d0 d1 d2 d3 d4 hbr
      generalize actW wr q = Wq at HAq HPq HBq ⊢
      generalize wr.heap.size = s at HT hRs hbs HAq ⊢
      generalize q.d.tmod 5 = r
      go_cut [10, 11, 12] from 46 to 134 (fun s10 s11 s12 wx => ∃ L' : List Km.Tmr, L'.length ≤ i + 1 ∧ Hid (Pj true true (w.heap.size + 1) W00 (w.heap.size + 1) w1.heap.size i s q L L' wx))
      case first =>
        by_cases e1 : r = 1 ∨ r = -1
        · rcases e1 with rfl | rfl
          all_goals
            go_upto_region 13 with fail
            refine region_vals (by kernel_rfl) 10 rfl stopD (stopV (w.heap.size + 1) w1.heap.size s q (Km.runs L (q.o, q.t))) stopD_inj ?hd ?hlow (PjJ 2 8 (w.heap.size + 1) W00 (w.heap.size + 1) w1.heap.size i s q L (Km.rem (q.o, q.t) L)) ?h0 ?hstep ?hdone
            case hd => exact stopD_lt
            case hlow => kernel_rfl
            case h0 => exact pjJ_start _ (HPq.out.below (Below.refl _ _).drew) (HAq.out.below (Below.refl _ _).drew) (HBq.out.drew) hbs hRs HT.out
            case hstep =>
              intro l fa wz k hk0 hJ hr hK
              have s5 : fa.eval (.tmp 5) = .pointer (some ⟨_, 0, none⟩) := hK.rest 5 (by decide)
              have s6 : fa.eval (.tmp 6) = .pointer (some ⟨_, 0, none⟩) := hK.rest 6 (by decide)
              have s8 : fa.eval (.tmp 8) = .pointer (some ⟨s, 0, none⟩) := hK.rest 8 (by decide)
              have s9 : fa.eval (.tmp 9) = .pointer (some ⟨s + 1, 0, none⟩) := hK.rest 9 (by decide)
              have got : ∀ j, j ∈ depsOf .any _ k → ∀ d, stopD j = some d → j < 10 → fa.eval (.tmp d) = stopV (w.heap.size + 1) _ s q (Km.runs L (q.o, q.t)) j := fun j hj d hd hj' => hK.got j d hj' (ready_deps hr j hj) hd
              match k, hk0, hr, got with
              | 0, _, hr, got => exact stepw_val rfl (wanted_none rfl) (runw_move rfl s5 wz) rfl (hJ.same (by decide) (by decide))
              | 1, _, hr, got => exact stepw_val rfl (wanted_none rfl) (runy_ldk rfl s9 hJ.act.k0 hJ.act.k1) rfl (hJ.same (by decide) (by decide))
              | 2, _, hr, got => 
                obtain ⟨mc', hc', hn'⟩ := hJ.clk hr (by decide)
                exact stepw_call rfl (wanted_none rfl) (runy_stop rfl rfl (got 0 (by decide) 67 rfl (by decide)) (got 1 (by decide) 68 rfl (by decide)) wz) rfl ((stop_any _ _ mc' L (q.o, q.t) wz hc' HKey.out).mono fun e w' h => ⟨h.1, hn' _ w' (by omega) h.2⟩)
              | 3, _, hr, got => exact stepw_val rfl (wanted_none rfl) (runw_move rfl s6 wz) rfl (hJ.same (by decide) (by decide))
              | 4, _, hr, got => exact stepw_val rfl (wanted_none rfl) (runy_fa rfl (by decide) s8 wz) rfl (hJ.same (by decide) (by decide))
              | 5, _, hr, got => exact stepw_val rfl (wanted_none rfl) (runy_ldi (Or.inl rfl) (got 4 (by decide) 71 rfl (by decide)) hJ.act.a1) rfl (hJ.same (by decide) (by decide))
              | 6, _, hr, got => exact stepw_val rfl (wanted_none rfl) (runy_fa rfl (by decide) s8 wz) rfl (hJ.same (by decide) (by decide))
              | 7, _, hr, got => exact stepw_val rfl (wanted_none rfl) (runy_ldi (Or.inl rfl) (got 6 (by decide) 73 rfl (by decide)) hJ.act.a2) rfl (hJ.same (by decide) (by decide))
              | 8, _, hr, got => 
                obtain ⟨G', hf', hn'⟩ := hJ.ref hr (ready_deps hr 2 (by decide)) (by decide)
                exact stepw_call rfl (wanted_none rfl) (runy_rstop rfl rfl (got 3 (by decide) 70 rfl (by decide)) (got 5 (by decide) 72 rfl (by decide)) (got 7 (by decide) 74 rfl (by decide)) wz) rfl ((rstop_any _ G' L q.o q.t wz hf' (by omega)).mono fun e w' h => ⟨h.1, hn' w' h.2⟩)
              | 9, _, hr, got => exact stepw_val rfl (wanted_none rfl) (runy_neb rfl (got 2 (by decide) 69 rfl (by decide)) (got 8 (by decide) 75 rfl (by decide)) wz) rfl (hJ.same (by decide) (by decide))
              | j + 10, hlt, _, _ => exact absurd hlt (by omega)
            case hdone =>
              intro l w' hall hJ
              have HE : Hid (Pj true true (w.heap.size + 1) W00 (w.heap.size + 1) w1.heap.size i s q L (Km.rem (q.o, q.t) L) w') := hJ.done hall (by decide) (by decide)
              clear hall hJ
              simp only [putsOf, stopD, stopV, Act.put, List.setIfInBounds_toArray, List.set_cons_zero, List.set_cons_succ]
              go_wp2_with fail
              go_meet
              exact ⟨_, by first | exact Nat.le_succ_of_le (Nat.le_trans (Km.rem_length_le _ _) hLl) | exact Nat.le_succ_of_le (Nat.le_trans (List.length_filter_le _ _) hLl) | exact Nat.le_trans (startT_length _ _ _ _) (Nat.succ_le_succ hLl), HE⟩
        by_cases e2 : r = 2 ∨ r = -2
        · rcases e2 with rfl | rfl
          all_goals
            go_upto_region 17 with fail
            refine region_vals (by kernel_rfl) 9 rfl dropD (dropV (w.heap.size + 1) w1.heap.size s q (dropN q.o L)) dropD_inj ?hd ?hlow (PjJ 3 7 (w.heap.size + 1) W00 (w.heap.size + 1) w1.heap.size i s q L (Km.dropL q.o L)) ?h0 ?hstep ?hdone
            case hd => exact dropD_lt
            case hlow => kernel_rfl
            case h0 => exact pjJ_start _ (HPq.out.below (Below.refl _ _).drew) (HAq.out.below (Below.refl _ _).drew) (HBq.out.drew) hbs hRs HT.out
            case hstep =>
              intro l fa wz k hk0 hJ hr hK
              have s5 : fa.eval (.tmp 5) = .pointer (some ⟨_, 0, none⟩) := hK.rest 5 (by decide)
              have s6 : fa.eval (.tmp 6) = .pointer (some ⟨_, 0, none⟩) := hK.rest 6 (by decide)
              have s8 : fa.eval (.tmp 8) = .pointer (some ⟨s, 0, none⟩) := hK.rest 8 (by decide)
              have s9 : fa.eval (.tmp 9) = .pointer (some ⟨s + 1, 0, none⟩) := hK.rest 9 (by decide)
              have got : ∀ j, j ∈ depsOf .any _ k → ∀ d, dropD j = some d → j < 9 → fa.eval (.tmp d) = dropV (w.heap.size + 1) _ s q (dropN q.o L) j := fun j hj d hd hj' => hK.got j d hj' (ready_deps hr j hj) hd
              match k, hk0, hr, got with
              | 0, _, hr, got => exact stepw_val rfl (wanted_none rfl) (runw_move rfl s5 wz) rfl (hJ.same (by decide) (by decide))
              | 1, _, hr, got => exact stepw_val rfl (wanted_none rfl) (runy_fa rfl (by decide) s8 wz) rfl (hJ.same (by decide) (by decide))
              | 2, _, hr, got => exact stepw_val rfl (wanted_none rfl) (runy_ldi (Or.inl rfl) (got 1 (by decide) 81 rfl (by decide)) hJ.act.a1) rfl (hJ.same (by decide) (by decide))
              | 3, _, hr, got => 
                obtain ⟨mc', hc', hn'⟩ := hJ.clk hr (by decide)
                exact stepw_call rfl (wanted_none rfl) (runy_drop rfl rfl (got 0 (by decide) 80 rfl (by decide)) (got 2 (by decide) 82 rfl (by decide)) wz) rfl ((drop_any _ _ mc' L q.o wz hc' (by omega)).mono fun e w' h => ⟨h.1, hn' _ w' (by omega) h.2⟩)
              | 4, _, hr, got => exact stepw_val rfl (wanted_none rfl) (runw_move rfl s6 wz) rfl (hJ.same (by decide) (by decide))
              | 5, _, hr, got => exact stepw_val rfl (wanted_none rfl) (runy_fa rfl (by decide) s8 wz) rfl (hJ.same (by decide) (by decide))
              | 6, _, hr, got => exact stepw_val rfl (wanted_none rfl) (runy_ldi (Or.inl rfl) (got 5 (by decide) 85 rfl (by decide)) hJ.act.a1) rfl (hJ.same (by decide) (by decide))
              | 7, _, hr, got => 
                obtain ⟨G', hf', hn'⟩ := hJ.ref hr (ready_deps hr 3 (by decide)) (by decide)
                exact stepw_call rfl (wanted_none rfl) (runy_rdrop rfl rfl (got 4 (by decide) 84 rfl (by decide)) (got 6 (by decide) 86 rfl (by decide)) wz) rfl ((rdrop_any _ G' L q.o wz hf' (by omega)).mono fun e w' h => ⟨h.1, hn' w' h.2⟩)
              | 8, _, hr, got => exact stepw_val rfl (wanted_none rfl) (runy_nei rfl (got 3 (by decide) 83 rfl (by decide)) (got 7 (by decide) 87 rfl (by decide)) wz) rfl (hJ.same (by decide) (by decide))
              | j + 9, hlt, _, _ => exact absurd hlt (by omega)
            case hdone =>
              intro l w' hall hJ
              have HE : Hid (Pj true true (w.heap.size + 1) W00 (w.heap.size + 1) w1.heap.size i s q L (Km.dropL q.o L) w') := hJ.done hall (by decide) (by decide)
              clear hall hJ
              simp only [putsOf, dropD, dropV, Act.put, List.setIfInBounds_toArray, List.set_cons_zero, List.set_cons_succ]
              go_wp2_with fail
              go_meet
              exact ⟨_, by first | exact Nat.le_succ_of_le (Nat.le_trans (Km.rem_length_le _ _) hLl) | exact Nat.le_succ_of_le (Nat.le_trans (List.length_filter_le _ _) hLl) | exact Nat.le_trans (startT_length _ _ _ _) (Nat.succ_le_succ hLl), HE⟩
        by_cases e3 : r = 3 ∨ r = -3
        · rcases e3 with rfl | rfl
          all_goals
            go_upto_region 21 with fail
            refine region_grow (by kernel_rfl) 10 rfl dueD (dueV (w.heap.size + 1) w1.heap.size s q) dueD_inj ?hd ?hlow (PjD (w.heap.size + 1) W00 (w.heap.size + 1) w1.heap.size i s q L) (undef, undef) ?h0 ?hstep ?hdone
            case hd => exact dueD_lt
            case hlow => kernel_rfl
            case h0 => exact pjD_start (pjJ_start _ (HPq.out.below (Below.refl _ _).drew) (HAq.out.below (Below.refl _ _).drew) (HBq.out.drew) hbs hRs HT.out)
            case hstep =>
              intro vs l fa wz k hk0 hls hJ hr hK
              have s5 : fa.eval (.tmp 5) = .pointer (some ⟨_, 0, none⟩) := hK.rest 5 (by decide)
              have s6 : fa.eval (.tmp 6) = .pointer (some ⟨_, 0, none⟩) := hK.rest 6 (by decide)
              have s8 : fa.eval (.tmp 8) = .pointer (some ⟨s, 0, none⟩) := hK.rest 8 (by decide)
              have got : ∀ j, j ∈ depsOf .any _ k → ∀ d, dueD j = some d → j < 10 → fa.eval (.tmp d) = dueV (w.heap.size + 1) _ s q vs j := fun j hj d hd hj' => hK.got j d hj' (ready_deps hr j hj) hd
              match k, hk0, hr, got with
              | 0, _, hr, got => exact grow_val vs vs rfl (wanted_none rfl) (runw_move rfl s5 wz) rfl (fun _ _ _ => rfl) (hJ.same (by decide) (by decide) (by decide) (by decide))
              | 1, _, hr, got => exact grow_val vs vs rfl (wanted_none rfl) (runy_fa rfl (by decide) s8 wz) rfl (fun _ _ _ => rfl) (hJ.same (by decide) (by decide) (by decide) (by decide))
              | 2, _, hr, got => exact grow_val vs vs rfl (wanted_none rfl) (runy_ldi (Or.inr rfl) (got 1 (by decide) 93 rfl (by decide)) hJ.j.act.a3) rfl (fun _ _ _ => rfl) (hJ.same (by decide) (by decide) (by decide) (by decide))
              | 3, _, hr, got => 
                obtain ⟨mc', hc', hn'⟩ := hJ.clk hr
                refine grow_call vs rfl (wanted_none rfl) (runy_due rfl rfl (got 0 (by decide) 92 rfl (by decide)) (got 2 (by decide) 94 rfl (by decide)) wz) rfl ((due_any _ _ mc' L q.n wz hc' (by omega)).mono ?_)
                rintro e w' ⟨v, rfl, h1, h2, h3⟩
                exact ⟨(v, vs.2), rfl, hn' v w' h1 h2 h3⟩
              | 4, _, hr, got => exact grow_val vs vs rfl (wanted_none rfl) (runw_move rfl s6 wz) rfl (fun _ _ _ => rfl) (hJ.same (by decide) (by decide) (by decide) (by decide))
              | 5, _, hr, got => exact grow_val vs vs rfl (wanted_none rfl) (runy_fa rfl (by decide) s8 wz) rfl (fun _ _ _ => rfl) (hJ.same (by decide) (by decide) (by decide) (by decide))
              | 6, _, hr, got => exact grow_val vs vs rfl (wanted_none rfl) (runy_ldi (Or.inr rfl) (got 5 (by decide) 97 rfl (by decide)) hJ.j.act.a3) rfl (fun _ _ _ => rfl) (hJ.same (by decide) (by decide) (by decide) (by decide))
              | 7, _, hr, got => 
                obtain ⟨G', hf', hn'⟩ := hJ.ref hr (ready_deps hr 3 (by decide))
                refine grow_call vs rfl (wanted_none rfl) (runy_rdue rfl rfl (got 4 (by decide) 96 rfl (by decide)) (got 6 (by decide) 98 rfl (by decide)) wz) rfl ((rdue_any _ G' L q.n wz hf' HOk.out (by omega)).mono ?_)
                rintro e w' ⟨v, rfl, h1, h2⟩
                exact ⟨(vs.1, v), rfl, hn' v w' h1 h2⟩
              | 8, _, hr, got => exact grow_val vs vs rfl (wanted_none rfl) (runw_assign rfl (got 3 (by decide) 95 rfl (by decide)) wz) rfl (fun _ _ _ => rfl) (hJ.eighth (ready_deps hr 3 (by decide)))
              | 9, _, hr, got => exact grow_val vs vs rfl (wanted_none rfl) (runw_assign rfl (got 7 (by decide) 99 rfl (by decide)) wz) rfl (fun _ _ _ => rfl) (hJ.ninth (ready_deps hr 7 (by decide)))
              | j + 10, hlt, _, _ => exact absurd hlt (by omega)
            case hdone =>
              rintro ⟨v1, v2⟩ l wd hall hJ
              have HE : Hid (Pj true true (w.heap.size + 1) W00 (w.heap.size + 1) w1.heap.size i s q L (Km.restL q.n L) wd) := hJ.j.done hall (by decide) (by decide)
              obtain ⟨a1, cap1, hv1, hr1⟩ := own_shape (hJ.r1 (hall 3 (by decide)))
              obtain ⟨a2, cap2, G2, hv2, hT2, hG2⟩ := own_rowT (hJ.r2 (hall 7 (by decide)))
              simp only at hv1 hv2
              have hDl : (Km.dueL q.n L).length ≤ 100 := by have := Km.due_length q.n L; omega
              have HL2 : Hid ((Km.restL q.n L).length ≤ i + 1) := by have := Km.rest_length q.n L; exact (show _ ≤ _ from by omega)
              clear hall hJ HAq HPq HBq
              generalize Km.dueL q.n L = D at hr1 hT2 hv1 hv2 hDl
              simp only [List.length_map, List.getElem_map] at hv1 hr1
              have HR1 : Hid (∀ j (hj : j < D.length), ∃ g, a1 = some ⟨g, 0, none⟩ ∧ g < wd.heap.size ∧ D.length ≤ cap1 ∧ wd.cell? ⟨g, j * 2, none⟩ = some (.int .i64 D[j].2.1) ∧ wd.cell? ⟨g, j * 2 + 1, none⟩ = some (.int .i64 D[j].2.2)) := fun j hj => by
                obtain ⟨g, e1, e2, e3, e4, e5, e6⟩ := hr1 j hj
                exact ⟨g, e1, e2, e4, e5, e6⟩
              have HT2 : Hid (RowT wd a2 cap2 G2 D) := hT2
              have hc2 : D.length ≤ cap2 := hT2.le
              subst hv1
              subst hv2
              obtain ⟨n, hn⟩ : ∃ n : Nat, n = D.length := ⟨_, rfl⟩
              have HN : Hid (n = D.length) := hn
              rw [← hn] at hDl hc2
              clear hr1 hT2 hG2
              simp only [putsOf, dueD, dueV, Act.put, List.setIfInBounds_toArray, List.set_cons_zero, List.set_cons_succ]
              rw [← hn]
              clear hn
              go_wp2
              go_loopw [107] (fun c wq => ∃ j : Nat, j ≤ n ∧ c = .int .i64 j ∧ Hid (Below wd.heap.size wd wq)) (fun c _ => n - (intOf c).toNat)
              case atStart => exact ⟨0, Nat.zero_le _, rfl, Below.refl _ _⟩
              case round =>
                obtain ⟨j, hjn, rfl, HBd⟩ := hrel
                by_cases hj : j < n
                · have hjD : j < D.length := by rw [← HN.out]; exact hj
                  obtain ⟨g1, rfl, hg1, hcap1, c0, c1⟩ := HR1.out j hjD
                  obtain ⟨g2, off2, rfl, _, hg2, f0, f1, _⟩ := HT2.out.at j hjD
                  rw [← HN.out] at hcap1
                  have c0' := (HBd.out.cell (p := ⟨g1, j * 2, none⟩) hg1).trans c0
                  have c1' := (HBd.out.cell (p := ⟨g1, j * 2 + 1, none⟩) hg1).trans c1
                  have f0' := (HBd.out.cell (p := ⟨g2, off2 + j * 3, none⟩) hg2).trans f0
                  have f1' := (HBd.out.cell (p := ⟨g2, off2 + j * 3 + 1, none⟩) hg2).trans f1
                  obtain ⟨z1, hz1⟩ : ∃ z, D[j].2.1 = z := ⟨_, rfl⟩
                  obtain ⟨z2, hz2⟩ : ∃ z, D[j].2.2 = z := ⟨_, rfl⟩
                  rw [hz1] at c0' f0'
                  rw [hz2] at c1' f1'
                  clear c0 c1 f0 f1 hz1 hz2
                  go_upto_region 27 with fail
                  go_quiet (fail)
                  go_wp2
                  go_roundw
                  case rel => exact ⟨j + 1, by omega, by go_num, drewN_blw HBd.out _⟩
                  case measure => simp [intOf]; omega
                · have hje : j = n := by omega
                  subst hje
                  go_wp2_with fail
                  go_meet
                  exact ⟨_, HL2.out, HE.out.below HBd.out⟩
        have n1 : (r == 1) = false := by simp; omega
        have n2 : (r == -1) = false := by simp; omega
        have n3 : (r == 2) = false := by simp; omega
        have n4 : (r == -2) = false := by simp; omega
        have n5 : (r == 3) = false := by simp; omega
        have n6 : (r == -3) = false := by simp; omega
        go_upto_region 9 with fail
        refine region_vals (by kernel_rfl) 18 rfl startD (startV (w.heap.size + 1) w1.heap.size s q (startN q.n q.p)) startD_inj ?hd ?hlow (PjJ 6 16 (w.heap.size + 1) W00 (w.heap.size + 1) w1.heap.size i s q L (startT (q.o, q.t) q.n q.p L)) ?h0 ?hstep ?hdone
        case hd => exact startD_lt
        case hlow => kernel_rfl
        case h0 => exact pjJ_start _ (HPq.out.below (Below.refl _ _).drew) (HAq.out.below (Below.refl _ _).drew) (HBq.out.drew) hbs hRs HT.out
        case hstep =>
          intro l fa wz k hk0 hJ hr hK
          have s5 : fa.eval (.tmp 5) = .pointer (some ⟨_, 0, none⟩) := hK.rest 5 (by decide)
          have s6 : fa.eval (.tmp 6) = .pointer (some ⟨_, 0, none⟩) := hK.rest 6 (by decide)
          have s8 : fa.eval (.tmp 8) = .pointer (some ⟨s, 0, none⟩) := hK.rest 8 (by decide)
          have s9 : fa.eval (.tmp 9) = .pointer (some ⟨s + 1, 0, none⟩) := hK.rest 9 (by decide)
          have got : ∀ j, j ∈ depsOf .any _ k → ∀ d, startD j = some d → j < 18 → fa.eval (.tmp d) = startV (w.heap.size + 1) _ s q (startN q.n q.p) j := fun j hj d hd hj' => hK.got j d hj' (ready_deps hr j hj) hd
          match k, hk0, hr, got with
          | 0, _, hr, got => exact stepw_val rfl (wanted_none rfl) (runw_move rfl s5 wz) rfl (hJ.same (by decide) (by decide))
          | 1, _, hr, got => exact stepw_val rfl (wanted_none rfl) (runy_ldk rfl s9 hJ.act.k0 hJ.act.k1) rfl (hJ.same (by decide) (by decide))
          | 2, _, hr, got => exact stepw_val rfl (wanted_none rfl) (runy_fa rfl (by decide) s8 wz) rfl (hJ.same (by decide) (by decide))
          | 3, _, hr, got => exact stepw_val rfl (wanted_none rfl) (runy_ldi (Or.inr rfl) (got 2 (by decide) 48 rfl (by decide)) hJ.act.a3) rfl (hJ.same (by decide) (by decide))
          | 4, _, hr, got => exact stepw_val rfl (wanted_none rfl) (runy_fa rfl (by decide) s8 wz) rfl (hJ.same (by decide) (by decide))
          | 5, _, hr, got => exact stepw_val rfl (wanted_none rfl) (runy_ldi (Or.inl rfl) (got 4 (by decide) 50 rfl (by decide)) hJ.act.a4) rfl (hJ.same (by decide) (by decide))
          | 6, _, hr, got => 
            obtain ⟨mc', hc', hn'⟩ := hJ.clk hr (by decide)
            exact stepw_call rfl (wanted_none rfl) (runy_start rfl rfl (got 0 (by decide) 46 rfl (by decide)) (got 1 (by decide) 47 rfl (by decide)) (got 3 (by decide) 49 rfl (by decide)) (got 5 (by decide) 51 rfl (by decide)) wz) rfl ((start_any _ _ mc' L (q.o, q.t) q.n q.p wz hc' HKey.out (by omega) HO.out.n HO.out.p).mono fun e w' h => ⟨h.1, hn' _ w' (by omega) h.2⟩)
          | 7, _, hr, got => exact stepw_val rfl (wanted_none rfl) (runw_move rfl s6 wz) rfl (hJ.same (by decide) (by decide))
          | 8, _, hr, got => exact stepw_val rfl (wanted_none rfl) (runy_fa rfl (by decide) s8 wz) rfl (hJ.same (by decide) (by decide))
          | 9, _, hr, got => exact stepw_val rfl (wanted_none rfl) (runy_ldi (Or.inl rfl) (got 8 (by decide) 54 rfl (by decide)) hJ.act.a1) rfl (hJ.same (by decide) (by decide))
          | 10, _, hr, got => exact stepw_val rfl (wanted_none rfl) (runy_fa rfl (by decide) s8 wz) rfl (hJ.same (by decide) (by decide))
          | 11, _, hr, got => exact stepw_val rfl (wanted_none rfl) (runy_ldi (Or.inl rfl) (got 10 (by decide) 56 rfl (by decide)) hJ.act.a2) rfl (hJ.same (by decide) (by decide))
          | 12, _, hr, got => exact stepw_val rfl (wanted_none rfl) (runy_fa rfl (by decide) s8 wz) rfl (hJ.same (by decide) (by decide))
          | 13, _, hr, got => exact stepw_val rfl (wanted_none rfl) (runy_ldi (Or.inr rfl) (got 12 (by decide) 58 rfl (by decide)) hJ.act.a3) rfl (hJ.same (by decide) (by decide))
          | 14, _, hr, got => exact stepw_val rfl (wanted_none rfl) (runy_fa rfl (by decide) s8 wz) rfl (hJ.same (by decide) (by decide))
          | 15, _, hr, got => exact stepw_val rfl (wanted_none rfl) (runy_ldi (Or.inl rfl) (got 14 (by decide) 60 rfl (by decide)) hJ.act.a4) rfl (hJ.same (by decide) (by decide))
          | 16, _, hr, got => 
            obtain ⟨G', hf', hn'⟩ := hJ.ref hr (ready_deps hr 6 (by decide)) (by decide)
            exact stepw_call rfl (wanted_none rfl) (runy_rstart rfl rfl (got 7 (by decide) 53 rfl (by decide)) (got 9 (by decide) 55 rfl (by decide)) (got 11 (by decide) 57 rfl (by decide)) (got 13 (by decide) 59 rfl (by decide)) (got 15 (by decide) 61 rfl (by decide)) wz) rfl ((rstart_any _ G' L q.o q.t q.n q.p wz hf' (by omega) HO.out.n HO.out.p).mono fun e w' h => ⟨h.1, hn' w' h.2⟩)
          | 17, _, hr, got => exact stepw_val rfl (wanted_none rfl) (runy_nei rfl (got 6 (by decide) 52 rfl (by decide)) (got 16 (by decide) 62 rfl (by decide)) wz) rfl (hJ.same (by decide) (by decide))
          | j + 18, hlt, _, _ => exact absurd hlt (by omega)
        case hdone =>
          intro l w' hall hJ
          have HE : Hid (Pj true true (w.heap.size + 1) W00 (w.heap.size + 1) w1.heap.size i s q L (startT (q.o, q.t) q.n q.p L) w') := hJ.done hall (by decide) (by decide)
          clear hall hJ
          simp only [putsOf, startD, startV, Act.put, List.setIfInBounds_toArray, List.set_cons_zero, List.set_cons_succ]
          go_wp2_with fail
          go_meet
          exact ⟨_, by first | exact Nat.le_succ_of_le (Nat.le_trans (Km.rem_length_le _ _) hLl) | exact Nat.le_succ_of_le (Nat.le_trans (List.length_filter_le _ _) hLl) | exact Nat.le_trans (startT_length _ _ _ _) (Nat.succ_le_succ hLl), HE⟩
      case rest =>
        obtain ⟨L', hL', HE⟩ := hcut
        obtain ⟨mc', G', -, hPl⟩ := HE.out.pl
        simp only [if_true] at hPl
        have HPl : Hid (Pl (w.heap.size + 1) wc (w.heap.size + 1) mc' w1.heap.size G' (i + 1) L' L') := hPl
        obtain ⟨x0, x1, x2, x3, x4, -, -, xl⟩ := HE.out.act
        have hask := HAsk.out.below HE.out.bel (by omega)
        obtain ⟨y0, y1, y2, y3, y4⟩ := hask
        simp only [Nat.zero_add] at y0 y1 y2 y3 y4
        have hbc : w.heap.size + 1 ≤ wc.heap.size := by omega
        obtain ⟨wz, hwz⟩ : ∃ wz, wz = wc.alloc (.cells #[.int .i64 q.d, .int .i64 q.o, .int .i64 q.t, .int .i64 q.n, .int .i64 q.p, .int .i64 b0, .int .i64 b1, .int .i64 b2, .int .i64 b3, .int .i64 b4] 24) := ⟨_, rfl⟩
        have HBw : Hid (Below wc.heap.size wc wz) := by rw [hwz]; exact (Below.refl _ _).alloc (Nat.le_refl _) _
        have zwz : wz.heap.size = wc.heap.size + 1 := by rw [hwz]; simp
        have HX : Hid (∀ j, j < 2 → ∃ x : ActV, x.At wz wc.heap.size (j * 5) ∧ InK (x.o, x.t)) := by
          intro j hj
          match j, hj with
          | 0, _ => exact ⟨q, by rw [hwz]; exact ⟨by simp, by simp, by simp, by simp, by simp⟩, HKey.out⟩
          | 1, _ => exact ⟨⟨b0, b1, b2, b3, b4⟩, by rw [hwz]; exact ⟨by simp, by simp, by simp, by simp, by simp⟩, HI1.out⟩
        have HBe : Hid (Below (w.heap.size + 1) W00 wc) := HE.out.bel
        clear HE hPl HAq HPq HBq HT
        go_wp2
        rw [← hwz]
        clear hwz x0 x1 x2 x3 x4 y0 y1 y2 y3 y4
        go_loopw [139] (fun c wq => ∃ j : Nat, j ≤ 2 ∧ c = .int .i64 j ∧ Hid (Below wz.heap.size wz wq)) (fun c _ => 2 - (intOf c).toNat)
        case atStart => exact ⟨0, Nat.zero_le _, rfl, Below.refl _ _⟩
        case round =>
          obtain ⟨j, hj2, rfl, HBz⟩ := hrel
          have hsz := HBz.out.size
          by_cases hj : j < 2
          · obtain ⟨x, hx, hk⟩ := HX.out j hj
            obtain ⟨g0, g1, g2, g3, g4⟩ := hx.below HBz.out (by omega)
            have hgl : wc.heap.size < wr.heap.size := by omega
            obtain ⟨W5, hW5⟩ : ∃ W5, W5 = wr.alloc (.cells #[.int .i64 x.d, .int .i64 x.o, .int .i64 x.t, .int .i64 x.n, .int .i64 x.p] 24) := ⟨_, rfl⟩
            have q5 : Below wr.heap.size wr W5 := by rw [hW5]; exact (Below.refl _ _).alloc (Nat.le_refl _) _
            have z5 : W5.heap.size = wr.heap.size + 1 := by rw [hW5]; simp
            have f1 : W5.cell? ⟨wr.heap.size, 1, none⟩ = some (.int .i64 x.o) := by rw [hW5]; simp
            have f2 : W5.cell? ⟨wr.heap.size, 2, none⟩ = some (.int .i64 x.t) := by rw [hW5]; simp
            have HP5 : Hid (Pl (w.heap.size + 1) W5 (w.heap.size + 1) mc' w1.heap.size G' (i + 1) L' L') := ((HPl.out.below HBw.out).below HBz.out).below q5
            have HB5 : Hid (Below wz.heap.size wz W5) := HBz.out.trans (q5.mono hsz)
            obtain ⟨T, hT⟩ : ∃ T, T = Km.till L' (x.o, x.t) := ⟨_, rfl⟩
            obtain ⟨U, hU⟩ : ∃ U, U = Km.runs L' (x.o, x.t) := ⟨_, rfl⟩
            obtain ⟨X, hX⟩ : ∃ X, X = Km.nextN L' := ⟨_, rfl⟩
            obtain ⟨Y, hY⟩ : ∃ Y, Y = Km.nextB L' := ⟨_, rfl⟩
            have tT : (T == T) = true := by simp
            have tU : (U == U) = true := by simp
            have tX : (X == X) = true := by simp
            have tY : (Y == Y) = true := by simp
            have hRn := runs_any _ _ _ _ (x.o, x.t) W5 HP5.out.clk.clk hk
            rw [← hT, ← hU] at hRn
            clear hx
            go_wp2_with fail
            rw [← hW5]
            refine hRn.mono ?_
            rintro e w5 ⟨rfl, hb5⟩
            have f1' := (hb5.cell (p := ⟨wr.heap.size, 1, none⟩) (by show wr.heap.size < _; omega)).trans f1
            have f2' := (hb5.cell (p := ⟨wr.heap.size, 2, none⟩) (by show wr.heap.size < _; omega)).trans f2
            have HP6 : Hid (Pl (w.heap.size + 1) w5 (w.heap.size + 1) mc' w1.heap.size G' (i + 1) L' L') := HP5.out.below hb5
            have hz5 := hb5.size
            have HB6 : Hid (Below wz.heap.size wz w5) := HB5.out.trans (hb5.mono (by omega))
            have hRr := rruns_any _ _ _ x.o x.t w5 HP6.out.ref (by omega)
            rw [← hT, ← hU] at hRr
            clear hRn hW5 HP5 HB5 f1 f2 q5 g0 g1 g2 g3 g4 hb5
            go_wp2_with fail
            refine hRr.mono ?_
            rintro e w6 ⟨rfl, hb6⟩
            have HP7 : Hid (Pl (w.heap.size + 1) w6 (w.heap.size + 1) mc' w1.heap.size G' (i + 1) L' L') := HP6.out.below hb6
            have hz6 := hb6.size
            have HB7 : Hid (Below wz.heap.size wz w6) := HB6.out.trans (hb6.mono (by omega))
            have hN := next_any _ _ _ _ w6 HP7.out.clk.clk
            rw [← hX, ← hY] at hN
            clear hRr HP6 HB6 f1' f2' hb6
            go_wp2_with fail
            refine hN.mono ?_
            rintro e w7 ⟨rfl, hb7⟩
            have HP8 : Hid (Pl (w.heap.size + 1) w7 (w.heap.size + 1) mc' w1.heap.size G' (i + 1) L' L') := HP7.out.below hb7
            have hz7 := hb7.size
            have HB8 : Hid (Below wz.heap.size wz w7) := HB7.out.trans (hb7.mono (by omega))
            have hNr := rnext_any _ _ _ w7 HP8.out.ref (by omega)
            rw [← hX, ← hY] at hNr
            clear hN HP7 HB7 hb7
            go_wp2_with fail
            refine hNr.mono ?_
            rintro e w8 ⟨rfl, hb8⟩
            have HB9 : Hid (Below wz.heap.size wz w8) := HB8.out.trans (hb8.mono (by omega))
            clear hNr HP8 HB8 hb8
            go_wp2
            go_roundw
            case rel => exact ⟨j + 1, by omega, by go_num, HB9⟩
            case measure => simp [intOf]; omega
          · have hje : j = 2 := by omega
            subst hje
            go_wp2
            go_roundw
            case rel => exact ⟨i + 1, L', mc', G', by omega, by go_num, hL', (HPl.out.below HBw.out).below HBz.out, HBe.out.trans ((HBw.out.trans (HBz.out.mono (by omega))).mono hbc)⟩
            case measure => simp [intOf]; omega
    · have hie : i = m := by omega
      subst hie
      go_wp2
      go_ret
      exact ⟨rfl, HQ00.out.trans (HW.out.mono (by omega))⟩
end Go.Proofs.Ytalpfcckdjipoaa
