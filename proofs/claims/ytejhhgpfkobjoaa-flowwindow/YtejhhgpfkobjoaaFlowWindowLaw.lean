/-
  The law FlowWindow's walk: never are more frames unanswered than may be, and as many payloads count as sent as it is from V(A) on to V(S).
-/
import Derived.Test.YtejhhgpfkobjoaaFlowAct
namespace Go.Proofs.Ytejhhgpfkobjoaa
open Go.RowKit
set_option linter.unusedVariables false
set_option linter.unusedSimpArgs false

set_option maxHeartbeats 4000000 in
set_option maxRecDepth 100000 in
theorem walk_FlowWindow (k : Int) (a : Option Addr) (len cap : Nat) (ps : List ActF) (w : World) (hk : -9223372036854775808 ≤ k ∧ k ≤ 9223372036854775807) (hr : RowF w a len cap ps) :
    Calls Try.prog 4 #[.int .i64 k, .slice a len cap] w fun e w' => e = .returned (.bool true) ∧ Below w.heap.size w w' := by
  have hlc : len ≤ cap := hr.2.1
  have hcm : cap ≤ 9223372036854775807 := by have := hr.2.2.1; unfold maxLen at this; exact this
  have HR : Hid (RowF w a len cap ps) := hr
  have HOk0 : Hid (Wm.new k 200).Ok := Wm.new_ok k 200 hk.1 hk.2
  obtain ⟨z, hz⟩ : ∃ z, (if (127 : Int) < k then (127 : Int) else k) = z := ⟨_, rfl⟩
  obtain ⟨v, hv⟩ : ∃ v, (if (1 : Int) < z then z else (1 : Int)) = v := ⟨_, rfl⟩
  have HV : Hid (v = Wm.win k) := by
    show _ = _
    unfold Wm.win
    rw [← hv, ← hz]
    split <;> split <;> omega
  clear hr hk
  obtain ⟨m, hmin, hm150, hml⟩ : ∃ m : Nat, min (len : Int) 150 = (m : Int) ∧ m ≤ 150 ∧ m ≤ len := ⟨(min (len : Int) 150).toNat, by omega, by omega, by omega⟩
  have hfr : a.map (·.add 0) = a := by
    cases a with
    | none => rfl
    | some x => simp [Addr.add]
  have hmm : (if (150 : Int) < (len : Int) then (150 : Int) else (len : Int)) = (m : Int) := by split <;> omega
  go_enter Try.func4, Try.ntmps4
  go_wp2_with fail
  refine (fnew_any k 200 _).mono ?_
  rintro e w1 ⟨C, rfl, hC, hf, hb1⟩
  go_wp2_with fail
  refine (rfnew_any k 200 _).mono ?_
  rintro e w2 ⟨R, D, rfl, hR, hD, hr2, hb2⟩
  have hP2 := prf_new hC hf hb1 hR hD hr2 hb2
  clear hC hf hb1 hR hD hr2 hb2
  obtain ⟨B, hB⟩ : ∃ B, B = w.heap.size := ⟨_, rfl⟩
  rw [← hB] at hP2
  have HC : Hid (B = w.heap.size) := hB
  clear hB
  have HP4 : Hid (PrF B w w2 C R D (Wm.new k 200) (Wm.new k 200)) := hP2
  clear hP2
  go_wp2
  clear hmin hfr hmm
  go_loopw [20] (fun c wr => ∃ (j : Nat) (σ : Wm.St), j ≤ m ∧ c = .int .i64 j ∧ Hid (PrF B w wr C R D σ σ) ∧ Hid σ.Ok ∧ Hid (σ.k = k)) (fun c _ => m - (intOf c).toNat)
  case atStart => exact ⟨0, _, Nat.zero_le _, rfl, HP4, HOk0, rfl⟩
  case round =>
    obtain ⟨j, σ, hjm, rfl, HP, HOk, HK⟩ := hrel
    clear HP4 HOk0
    by_cases hlt : j < m
    · obtain ⟨bb, off, q, rfl, hbb, hqe, hat, hok⟩ := HR.out.at j (by omega)
      have hat' := hat.below HP.out.bel (by rw [HC.out]; exact hbb)
      have hbr : bb < wr.heap.size := by have := HP.out.bs; have := HC.out; omega
      obtain ⟨d0, d1, d2, d3, d4⟩ := hat'
      have HQk : Hid q.Ok := hok
      clear hat hqe hok hbb
      have HA : Hid (Below wr.heap.size wr (wr.alloc (.cells #[.int .i64 q.d, .int .i64 q.n, .bool q.ne, .bool q.on, .string q.s] 30))) := (Below.refl _ _).alloc (Nat.le_refl _) _
      go_wp2_with fail
      refine (act_any B w C R D σ q _ (HP.out.below HA.out) HOk.out HQk.out).mono ?_
      rintro e w5 ⟨rfl, hP5⟩
      have hO5 := Wm.step_ok HOk.out q.d q.n q.ne q.on q.s
      have hK5 : (Wm.step σ q.d q.n q.ne q.on q.s).k = k := (Wm.step_k σ q.d q.n q.ne q.on q.s).1.trans HK.out
      generalize Wm.step σ q.d q.n q.ne q.on q.s = σ' at hP5 hO5 hK5
      have HO5 : Hid σ'.Ok := hO5
      have HK5 : Hid (σ'.k = k) := hK5
      clear d0 d1 d2 d3 d4 HP HOk HA hO5 hbr hK5 HK
      have hv2 : ∃ G, Fl w5 C G σ' := by
        obtain ⟨G, h1, -⟩ := hP5.first
        exact ⟨G, h1⟩
      obtain ⟨G, hv2⟩ := hv2
      go_wp2_with fail
      refine (fview_any C G σ' w5 hv2).mono ?_
      rintro e w6 ⟨rfl, hb6⟩
      have HP6 : Hid (PrF B w w6 C R D σ' σ') := hP5.below hb6
      have x0 := HO5.out.vs0
      have x1 := HO5.out.vs1
      have x2 := HO5.out.va0
      have x3 := HO5.out.va1
      have x4 := HO5.out.vr0
      have x5 := HO5.out.vr1
      have xw : (σ'.sn : Int) ≤ v := by have := HO5.out.sw; rw [HK5.out] at this; rw [HV.out]; exact this
      have xl : (0 : Int) ≤ ((σ'.L.length - σ'.sn : Nat) : Int) := by omega
      have xe : (σ'.vs - σ'.va + 128) % 128 = (σ'.sn : Int) := by have := HO5.out.se; unfold Sm.sb at this; omega
      clear hP5 hb6 hv2
      unfold vwV
      generalize σ'.L.length - σ'.sn = lf at xl ⊢
      go_wp2
      go_roundw
      case rel => exact ⟨j + 1, σ', by omega, by go_num, HP6.out.below ((Below.refl _ _).alloc (Nat.le_refl _) _), HO5, HK5⟩
      case measure => simp [intOf]; omega
    · have HP5 := HP.out
      clear HP
      go_wp2_with fail
      refine (flwakes_any _).mono ?_
      rintro e w5 ⟨rfl, hb5⟩
      have HB : Hid (Below B w w5) := (HP5.below hb5).bel
      clear HP5 hb5
      go_wp2
      go_ret
      exact ⟨rfl, by have := HB.out; rw [HC.out] at this; exact this⟩
end Go.Proofs.Ytejhhgpfkobjoaa
