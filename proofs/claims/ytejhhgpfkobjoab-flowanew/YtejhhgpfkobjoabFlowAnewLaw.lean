/-
  The law FlowAnew's walk: behind a Reset all payloads that are left go out again, in order, from the number 0 on.
-/
import Derived.Test.YtejhhgpfkobjoabFlowLeft
namespace Go.Proofs.Ytejhhgpfkobjoab
open Go.RowKit
set_option linter.unusedVariables false
set_option linter.unusedSimpArgs false

set_option maxHeartbeats 4000000 in
set_option maxRecDepth 100000 in
theorem walk_FlowAnew (k : Int) (a : Option Addr) (len cap : Nat) (ps : List ActF) (w : World) (hk : -9223372036854775808 ≤ k ∧ k ≤ 9223372036854775807) (hr : RowF w a len cap ps) :
    Calls Try.prog 3 #[.int .i64 k, .slice a len cap] w fun e w' => e = .returned (.bool true) ∧ Below w.heap.size w w' := by
  have hlc : len ≤ cap := hr.2.1
  have hcm : cap ≤ 9223372036854775807 := by have := hr.2.2.1; unfold maxLen at this; exact this
  have HR : Hid (RowF w a len cap ps) := hr
  have HOk0 : Hid (Wm.new k 50).Ok := Wm.new_ok k 50 hk.1 hk.2
  have HKk : Hid (-9223372036854775808 ≤ k ∧ k ≤ 9223372036854775807) := hk
  clear hr hk
  obtain ⟨m, hmin, hm100, hml⟩ : ∃ m : Nat, min (len : Int) 100 = (m : Int) ∧ m ≤ 100 ∧ m ≤ len := ⟨(min (len : Int) 100).toNat, by omega, by omega, by omega⟩
  have hfr : a.map (·.add 0) = a := by
    cases a with
    | none => rfl
    | some x => simp [Addr.add]
  have hmm : (if (100 : Int) < (len : Int) then (100 : Int) else (len : Int)) = (m : Int) := by split <;> omega
  go_enter Try.func3, Try.ntmps3
  go_wp2_with fail
  refine (fnew_any k 50 _).mono ?_
  rintro e w1 ⟨C, rfl, hC, hf, hb1⟩
  go_wp2_with fail
  refine (rfnew_any k 50 _).mono ?_
  rintro e w2 ⟨R, D, rfl, hR, hD, hr2, hb2⟩
  have hP2 := prf_new hC hf hb1 hR hD hr2 hb2
  clear hC hf hb1 hR hD hr2 hb2
  obtain ⟨B, hB⟩ : ∃ B, B = w.heap.size := ⟨_, rfl⟩
  rw [← hB] at hP2
  have HC : Hid (B = w.heap.size) := hB
  clear hB
  have HP4 : Hid (PrF B w w2 C R D (Wm.new k 50) (Wm.new k 50)) := hP2
  clear hP2
  go_wp2
  clear hmin hfr hmm
  go_loopw [30] (fun c wr => ∃ (j : Nat) (σ : Wm.St), j ≤ m ∧ c = .int .i64 j ∧ Hid (PrF B w wr C R D σ σ) ∧ Hid σ.Ok ∧ Hid (σ.k = k)) (fun c _ => m - (intOf c).toNat)
  case atStart => exact ⟨0, _, Nat.zero_le _, rfl, HP4, HOk0, rfl⟩
  case round =>
    obtain ⟨j, σ, hjm, rfl, HP, HOk, HK⟩ := hrel
    clear HP4 HOk0
    by_cases hlt : j < m
    · obtain ⟨bb, off, q, rfl, hbb, hqe, hat, hok⟩ := HR.out.at j (by omega)
      have hat' := hat.below HP.out.bel (by rw [HC.out]; exact hbb)
      have hbr : bb < wr.heap.size := by have := HP.out.bs; have := HC.out; omega
      obtain ⟨d0, d1, d2, d3, d4⟩ := hat'
      have HQk : Hid q.Ok := hok
      clear hat hqe hok hbb
      have HA : Hid (Below wr.heap.size wr (wr.alloc (.cells #[.int .i64 q.d, .int .i64 q.n, .bool q.ne, .bool q.on, .string q.s] 28))) := (Below.refl _ _).alloc (Nat.le_refl _) _
      go_wp2_with fail
      refine (act_any B w C R D σ q _ (HP.out.below HA.out) HOk.out HQk.out).mono ?_
      rintro e w5 ⟨rfl, hP5⟩
      have hO5 := Wm.step_ok HOk.out q.d q.n q.ne q.on q.s
      have hK5 : (Wm.step σ q.d q.n q.ne q.on q.s).k = k := (Wm.step_k σ q.d q.n q.ne q.on q.s).1.trans HK.out
      generalize Wm.step σ q.d q.n q.ne q.on q.s = σ' at hP5 hO5 hK5
      have HK5 : Hid (σ'.k = k) := hK5
      have HO5 : Hid σ'.Ok := hO5
      have HP6 : Hid (PrF B w w5 C R D σ' σ') := hP5
      clear d0 d1 d2 d3 d4 HP HOk HA hO5 hbr hP5 hK5 HK
      go_wp2
      go_roundw
      case rel => exact ⟨j + 1, σ', by omega, by go_num, HP6, HO5, HK5⟩
      case measure => simp [intOf]; omega
    · obtain ⟨ax, capx, H, c7, c1, hS, hle, hRl, hDl⟩ := HP.out.refrow
      have hok := HOk.out
      have HSx : Hid (SRow wr ax capx H σ.L) := hS
      have HPx := HP
      obtain ⟨L, hL⟩ : ∃ L, L = σ.L := ⟨_, rfl⟩
      rw [← hL] at c1 HSx hle hS
      have HL : Hid (L = σ.L) := hL
      have hcx := hS.le
      clear HP HR hL hok
      go_upto_region 7 with fail
      go_cut [9] from 39 to 46 (fun s9 wx => ∃ (a2 : Option Addr) (cap2 : Nat), s9 = .slice a2 L.length cap2 ∧ Hid (FlL B w wx C σ a2 cap2 L))
      case first =>
        rcases hS.row with ⟨rfl, rfl, rfl⟩ | ⟨g, off, rfl, rfl, hgl, -, -⟩
        · have h0 : L = [] := List.eq_nil_of_length_eq_zero (by omega)
          subst h0
          have hS0 : SRow wr none 0 none [] := qsrow_nil wr
          have HF : Hid (FlL B w wr C σ none 0 []) := HPx.out.left HOk.out hS0 (Below.refl _ _) (fun B hB => by cases hB)
          clear hS
          go_wp2_with fail
          go_meet
          exact ⟨none, 0, rfl, HF⟩
        · clear hS
          go_wp2_with (at_builtin; refine append_nil rfl _ _ rfl g off capx _ L rfl rfl HSx.out (by omega) ?_)
          intro a' cap' G' w' hS' hb' hG'
          have HF : Hid (FlL B w w' C σ a' cap' L) := HPx.out.left HOk.out hS' hb' hG'
          clear hS' hb' hG' c7 c1 hRl hDl
          go_wp2_with fail
          go_meet
          exact ⟨a', cap', rfl, HF⟩
      case rest =>
      obtain ⟨a2, cap2, rfl, HF⟩ := hcut
      clear c7 c1 hRl hDl hS HSx HPx hcx
      have hcp := HF.out.cp
      go_wp2_with fail
      refine (fll_reset HF.out).mono ?_
      rintro e w5 ⟨rfl, hF5⟩
      rw [anew_reset, ← HL.out] at hF5
      have HK5 : Hid (σ.k = k) := HK
      rw [HK5.out] at hF5
      clear HF
      go_wp2_with fail
      refine (flwakes_any _).mono ?_
      rintro e w6 ⟨rfl, hb6⟩
      have hF6 := hF5.below hb6
      clear hF5 hb6
      go_wp2_with fail
      refine (fll_view hF6).mono ?_
      rintro e w7 ⟨rfl, hF7⟩
      have HF7 : Hid (FlL B w w7 C (anew k σ.mo L 0) a2 cap2 L) := hF7
      have ev : vwV (anew k σ.mo L 0) = .agg #[.int .i64 0, .int .i64 0, .int .i64 0, .bool false, .bool false, .bool false, .int .i64 0, .int .i64 (L.length : Nat)] := rfl
      rw [ev]
      clear hF6 hF7 ev
      go_wp2
      obtain ⟨n, hn⟩ : ∃ n, n = L.length := ⟨_, rfl⟩
      rw [← hn] at hle hcp ⊢
      have HN : Hid (n = L.length) := hn
      clear hn
      go_loopw [61] (fun c wr2 => ∃ (i : Nat), i ≤ n ∧ c = .int .i64 i ∧ Hid (FlL B w wr2 C (anew k σ.mo L i) a2 cap2 L)) (fun c _ => n - (intOf c).toNat)
      case atStart => exact ⟨0, Nat.zero_le _, rfl, HF7⟩
      case round =>
        obtain ⟨i, hin, rfl, HFi⟩ := hrel
        clear HF7
        by_cases hlt2 : i < n
        · obtain ⟨g, off, rfl, hgl, hcell⟩ := HFi.out.nth i (by rw [← HN.out]; exact hlt2)
          obtain ⟨t1, t2, t3, t4⟩ := anew_take (k := k) (mo := σ.mo) (L := L) (i := i) (by rw [← HN.out]; exact hlt2)
          obtain ⟨s1, s2⟩ := anew_ack (k := k) (mo := σ.mo) (L := L) (i := i) (by rw [← HN.out]; exact hlt2) HKk.out.1 HKk.out.2
          have hT := fll_take HFi.out
          rw [t1, t2, t3, t4] at hT
          generalize L.getD i ByteArray.empty = y at hT hcell
          obtain ⟨d, hd⟩ : ∃ d : Int, d = (i : Int) % 128 := ⟨_, rfl⟩
          have hd0 : 0 ≤ d ∧ d ≤ 127 := by omega
          have hrem : (i : Int) % 128 = d := hd.symm
          rw [← hd] at hT s1 s2
          have HA : Hid (∀ W, FlL B w W C { anew k σ.mo L i with vs := Sm.ad d 1, sn := 1 } (some ⟨g, off, none⟩) cap2 L → Calls Try.prog 11 #[.pointer (some ⟨C, 0, none⟩), .int .i64 (d + 1)] W fun e w' => ∃ x, e = .returned (.tuple #[.int .i64 x, .int .i64 0]) ∧ FlL B w w' C (anew k σ.mo L (i + 1)) (some ⟨g, off, none⟩) cap2 L) := by
            intro W hW
            refine (fll_ack (d + 1) hW (by omega) (by omega)).mono fun e w' hx => ?_
            rw [s1, s2] at hx
            exact ⟨_, hx.1, hx.2⟩
          clear t1 t2 t3 t4 s1 s2 HFi hd
          have ty : (y.toList == y.toList) = true := by simp
          have tyn : (y.toList != y.toList) = false := by simp
          go_wp2_with fail
          refine hT.mono ?_
          rintro e w8 ⟨rfl, hF8⟩
          have HC8 := HA.out w8 hF8
          clear hT hF8 hcell hgl
          go_wp2_with fail
          refine HC8.mono ?_
          rintro e w9 ⟨x, rfl, hF9⟩
          have HF9 : Hid (FlL B w w9 C (anew k σ.mo L (i + 1)) (some ⟨g, off, none⟩) cap2 L) := hF9
          clear HC8 hF9
          go_wp2
          go_roundw
          case rel => exact ⟨i + 1, by omega, by go_num, HF9⟩
          case measure => simp [intOf]; omega
        · have hie : i = n := by omega
          subst hie
          have hT := fll_take HFi.out
          have hE : Wm.takeB (anew k σ.mo L i) = false := by rw [HN.out]; exact anew_end
          obtain ⟨t1, t2, t3⟩ := Wm.take_no hE
          rw [hE, t1, t2, t3] at hT
          clear hE t1 t2 t3 HFi
          go_wp2_with fail
          refine hT.mono ?_
          rintro e w8 ⟨rfl, hF8⟩
          have HE : Hid (Below B w w8) := hF8.bel
          clear hT hF8
          go_wp2
          go_ret
          exact ⟨rfl, by have := HE.out; rw [HC.out] at this; exact this⟩
end Go.Proofs.Ytejhhgpfkobjoab
