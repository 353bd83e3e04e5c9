/-
  The law PoolClaims' walk: what is claimed is never told by Assign, till it is freed.
-/
import Derived.Test.YtdojkaliohcckaaOnMap
import Derived.Deep.CutBlock
import Derived.BigQuiet
namespace Go.Proofs.Ytdojkaliohcckaa
open Go.RowKit Go.Maps Go.WideMaps
set_option linter.unusedVariables false
set_option linter.unusedSimpArgs false

theorem row_at {w : World} {a : Option Addr} {len cap : Nat} {xs : List Int} (h : Row .i64 w a len cap xs) (i : Nat) (hi : i < len) : ∃ b off t, a = some ⟨b, off, none⟩ ∧ b < w.heap.size ∧ w.cell? ⟨b, off + i, none⟩ = some (.int .i64 t) ∧ In64 t := by
  obtain ⟨h1, h2, h3, h4, h5⟩ := h
  rcases h5 with ⟨_, h0, _⟩ | ⟨_, h0⟩ | ⟨b, off, e, h0, hlt, hc⟩
  · omega
  · omega
  · have hm : xs.getD i 0 ∈ xs := by
      rw [List.getD, List.getElem?_eq_getElem (by omega)]
      exact List.getElem_mem _
    exact ⟨b, off, _, e, hlt, hc i hi, bounds_i64 (h4 _ hm)⟩
theorem ct_few {f : Nat → Bool} {p : Nat} (hp : p < 63) (hf : f p = false) : Pm.ct f 63 < 63 := by
  have h1 := Pm.ct_le f 63
  rcases Nat.lt_or_ge (Pm.ct f 63) 63 with h | h
  · exact h
  · have := Pm.full_ct (f := f) (n := 63) (by omega) p hp
    rw [hf] at this; cases this

set_option maxHeartbeats 4000000 in
set_option maxRecDepth 100000 in
theorem walk_PoolClaims (a : Option Addr) (len cap : Nat) (xs : List Int) (n : Int) (w : World) (hr : Row .i64 w a len cap xs) (hn : -9223372036854775808 ≤ n ∧ n ≤ 9223372036854775807) :
    Calls Try.prog 6 #[.slice a len cap, .int .i64 n] w fun e w' => e = .returned (.bool true) ∧ Below w.heap.size w w' := by
  have hlc : len ≤ cap := hr.2.1
  have hcm : cap ≤ 9223372036854775807 := by have := hr.2.2.1; unfold maxLen at this; exact this
  have HR : Hid (Row .i64 w a len cap xs) := hr
  have HN : Hid (-9223372036854775808 ≤ n ∧ n ≤ 9223372036854775807) := hn
  clear hr hn
  obtain ⟨m, hmin, hm80, hml⟩ : ∃ m : Nat, min (len : Int) 80 = (m : Int) ∧ m ≤ 80 ∧ m ≤ len := ⟨(min (len : Int) 80).toNat, by omega, by omega, by omega⟩
  have hfr : a.map (·.add 0) = a := by
    cases a with
    | none => rfl
    | some x => simp [Addr.add]
  have hmm : (if (80 : Int) < (len : Int) then (80 : Int) else (len : Int)) = (m : Int) := by split <;> omega
  have hmk := @run_makeMap Try.prog
  go_enter Try.func6, Try.ntmps6
  go_wp2_with fail
  refine (pnew_any _).mono ?_
  rintro e w1 ⟨rfl, h1, h2⟩
  have O1 := own_new h1 h2
  clear h1 h2
  obtain ⟨C, hC⟩ : ∃ C, C = w.heap.size := ⟨_, rfl⟩
  rw [← hC] at O1
  rw [← hC]
  have HC : Hid (C = w.heap.size) := hC
  have HO1 := ownm_start (w := w1) O1
  obtain ⟨M, hM⟩ : ∃ M, M = w1.heap.size := ⟨_, rfl⟩
  rw [← hM] at HO1
  obtain ⟨w2, hw2⟩ : ∃ w2, w2 = w1.alloc (.map #[] 0) := ⟨_, rfl⟩
  rw [← hw2] at HO1
  have HO2 : Hid (OwnM C w w2 C M (fun _ => false) 0 (fun _ => false)) := HO1
  clear hC O1 HO1
  go_wp2
  rw [← hw2, ← hM]
  clear hmin hfr hmm hmk hw2 hM
  go_loopw [20] (fun c wr => ∃ (j : Nat) (f : Nat → Bool), j ≤ m ∧ c = .int .i64 j ∧ Hid (OwnM C w wr C M f 0 f)) (fun c _ => m - (intOf c).toNat)
  case atStart => exact ⟨0, _, Nat.zero_le _, rfl, HO2⟩
  case round =>
    obtain ⟨j, f, hjm, rfl, HP⟩ := hrel
    clear HO2
    by_cases hlt : j < m
    · obtain ⟨bb, off, t, rfl, hbb, hc0, hin⟩ := row_at HR.out j (by omega)
      have hc := (HP.out.own.bel.cell (p := ⟨bb, off + j, none⟩) (by rw [HC.out]; exact hbb)).trans hc0
      have hbr : bb < wr.heap.size := by have := HP.out.own.bs; have := HC.out; omega
      have H1 := ownm_claim t HP.out
      clear hc0 hbb HP
      rcases claim_ways f t with ⟨p, hp, rfl, hf, e1, e2⟩ | ⟨e1, e2, hw⟩
      · rw [e1, e2] at H1
        clear e1 e2
        go_wp2_with fail
        refine H1.mono ?_
        rintro e w4 ⟨rfl, hO4⟩
        have hl := hO4.on.look hin
        rw [Pm.has_of f p hp, hf] at hl
        obtain ⟨w5, hst, hO5⟩ := hO4.store hp hf
        have HO5 : Hid (OwnM C w w5 C M (Pm.upd f p true) 0 (Pm.upd f p true)) := hO5
        have b1 : (64 : Int) ≤ 64 + (p : Int) := by omega
        have b2 : 64 + (p : Int) ≤ 126 := by omega
        clear H1 hO4 hO5 hf hin hc
        generalize 64 + (p : Int) = y at hl hst b1 b2 ⊢
        go_wp2
        go_roundw
        case rel => exact ⟨j + 1, _, by omega, by go_num, HO5⟩
        case measure => simp [intOf]; omega
      · rw [e2] at H1
        have e0 : (Pm.clN f t == 0) = false := by rcases e1 with e | e <;> rw [e] <;> decide
        clear e1 e2
        generalize Pm.clN f t = z at H1 e0
        go_wp2_with fail
        refine H1.mono ?_
        rintro e w4 ⟨rfl, hO4⟩
        have hl := hO4.on.look hin
        have HO4 : Hid (OwnM C w w4 C M f 0 f) := hO4
        clear H1 hO4 hc
        by_cases c1 : t < 64
        · clear hw hl
          go_wp2
          go_roundw
          case rel => exact ⟨j + 1, _, by omega, by go_num, HO4⟩
          case measure => simp [intOf]; omega
        · have c2 : 64 ≤ t := by omega
          by_cases c3 : 126 < t
          · clear hw hl c1
            go_wp2
            go_roundw
            case rel => exact ⟨j + 1, _, by omega, by go_num, HO4⟩
            case measure => simp [intOf]; omega
          · have c4 : t ≤ 126 := by omega
            have c5 : Pm.has f t = true := by rcases hw with h | h | h <;> first | omega | exact h
            rw [c5] at hl
            clear hw c1 c3 c5
            go_wp2
            go_roundw
            case rel => exact ⟨j + 1, _, by omega, by go_num, HO4⟩
            case measure => simp [intOf]; omega
    · have hge : ¬ ((j : Int) < (m : Int)) := by omega
      go_upto_region 12 with fail
      clear hlt hjm hge
      go_cut [49, 50] from 47 to 50 (fun s49 s50 wx => ∃ T : Nat, T ≤ 70 ∧ s49 = .int .i64 T ∧ s50 = .int .i64 0 ∧ wr = wx)
      case first =>
        by_cases hneg : n ≤ 0
        · go_wp2_with fail
          go_meet
          exact ⟨0, by omega, rfl, rfl, rfl⟩
        · have hpos : 0 < n := by omega
          have HX : Hid (∃ T : Nat, T ≤ 70 ∧ n % 70 = (T : Int)) := ⟨(n % 70).toNat, by omega, by omega⟩
          have hh := HN.out.2
          go_wp2_with fail
          go_meet
          obtain ⟨T, hT, hTe⟩ := HX.out
          exact ⟨T, hT, by rw [hTe], rfl, rfl⟩
      case rest =>
      obtain ⟨T, hT, rfl, rfl, rfl⟩ := hcut
      go_wp2
      go_loopw [50] (fun c wi => ∃ (t : Nat) (f : Nat → Bool) (nx : Nat), t ≤ T ∧ c = .int .i64 t ∧ Hid (OwnM C w wi C M f nx f)) (fun c _ => T - (intOf c).toNat)
      case atStart => exact ⟨0, f, 0, Nat.zero_le _, rfl, HP⟩
      case round =>
        obtain ⟨t, g, nx, htT, rfl, HPt⟩ := hrel
        clear HP
        by_cases hlt2 : t < T
        · have H1 := ownm_assign HPt.out
          rcases Pm.as_ways g nx HPt.out.own.pl.hi with ⟨hall, e1, e2, e3, e4⟩ | ⟨p, hp, hf, e1, e2, e3, e4⟩
          · rw [e1, e2, e3, e4] at H1
            have hct := Pm.ct_full hall
            clear e1 e2 e3 e4 hall HPt
            go_wp2_with fail
            refine H1.mono ?_
            rintro e w4 ⟨rfl, hO4⟩
            have hl := fun ty => hO4.on.len ty
            rw [hct] at hl
            have HO4 : Hid (OwnM C w w4 C M g nx g) := hO4
            clear H1 hO4 hct
            go_wp2
            go_roundw
            case rel => exact ⟨t + 1, _, _, by omega, by go_num, HO4⟩
            case measure => simp [intOf]; omega
          · rw [e1, e2, e3, e4] at H1
            have hct := ct_few hp hf
            clear e1 e2 e3 e4 HPt
            go_wp2_with fail
            refine H1.mono ?_
            rintro e w4 ⟨rfl, hO4⟩
            have hl := fun ty => hO4.on.len ty
            have hk := hO4.on.look (in_place p hp)
            rw [Pm.has_of g p hp, hf] at hk
            obtain ⟨w5, hst, hO5⟩ := hO4.store hp hf
            have HO5 : Hid (OwnM C w w5 C M (Pm.upd g p true) ((p + 1) % 63) (Pm.upd g p true)) := hO5
            have hne : ((Pm.ct g 63 : Nat) : Int) ≠ 63 := by omega
            clear H1 hO4 hO5 hf
            generalize Pm.ct g 63 = z at hl hne
            generalize 64 + (p : Int) = y at hk hst ⊢
            clear hct
            go_wp2
            go_roundw
            case rel => exact ⟨t + 1, _, _, by omega, by go_num, HO5⟩
            case measure => simp [intOf]; omega
        · go_wp2_with fail
          refine (pwakes_any _).mono ?_
          rintro e w4 ⟨rfl, hb4⟩
          have HO4 : Hid (OwnM C w w4 C M g nx g) := HPt.out.below hb4
          have H1 := plist_any C nx g w4 HO4.out.own.pl
          have hct := Pm.ct_le g 63
          clear HPt hb4
          obtain ⟨z, hz⟩ : ∃ z, z = Pm.ct g 63 := ⟨_, rfl⟩
          have HZ : Hid (z = Pm.ct g 63) := hz
          rw [← hz] at H1
          rw [← hz] at hct
          clear hz
          go_wp2_with fail
          refine H1.mono ?_
          rintro e w5 ⟨la, lc, rfl, hL⟩
          have HO5 : Hid (OwnM C w w5 C M g nx g) := HO4.out.below hL.bel
          have hl := fun ty => HO5.out.on.len ty
          rw [← HZ.out] at hl
          clear H1 hL HO4
          go_wp2
          go_ret
          exact ⟨rfl, by have := HO5.out.own.bel; rw [HC.out] at this; exact this⟩
end Go.Proofs.Ytdojkaliohcckaa
