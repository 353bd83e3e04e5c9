/-
  The law FlowPlays' walk: behind every calls a flow answers, and has, what the document says, step by step.
-/
import Derived.Test.YtejhhgpfkobjoaaFlowAct
import Derived.Test.YtejhhgpfkobjoaaFlowSame
namespace Go.Proofs.Ytejhhgpfkobjoaa
open Go.RowKit
set_option linter.unusedVariables false
set_option linter.unusedSimpArgs false

set_option maxHeartbeats 4000000 in
set_option maxRecDepth 100000 in
theorem walk_FlowPlays (k mo : Int) (a : Option Addr) (len cap : Nat) (ps : List ActF) (w : World) (hk : -9223372036854775808 ≤ k ∧ k ≤ 9223372036854775807) (hmo : -9223372036854775808 ≤ mo ∧ mo ≤ 9223372036854775807) (hr : RowF w a len cap ps) :
    Calls Try.prog 3 #[.int .i64 k, .int .i64 mo, .slice a len cap] w fun e w' => e = .returned (.bool true) ∧ Below w.heap.size w w' := by
  have hlc : len ≤ cap := hr.2.1
  have hcm : cap ≤ 9223372036854775807 := by have := hr.2.2.1; unfold maxLen at this; exact this
  have HR : Hid (RowF w a len cap ps) := hr
  have HOk0 : Hid (Wm.new k mo).Ok := Wm.new_ok k mo hk.1 hk.2
  clear hr hmo hk
  obtain ⟨m, hmin, hm150, hml⟩ : ∃ m : Nat, min (len : Int) 150 = (m : Int) ∧ m ≤ 150 ∧ m ≤ len := ⟨(min (len : Int) 150).toNat, by omega, by omega, by omega⟩
  have hfr : a.map (·.add 0) = a := by
    cases a with
    | none => rfl
    | some x => simp [Addr.add]
  have hmm : (if (150 : Int) < (len : Int) then (150 : Int) else (len : Int)) = (m : Int) := by split <;> omega
  go_enter Try.func3, Try.ntmps3
  go_wp2_with fail
  refine (fnew_any k mo _).mono ?_
  rintro e w1 ⟨C, rfl, hC, hf, hb1⟩
  go_wp2_with fail
  refine (rfnew_any k mo _).mono ?_
  rintro e w2 ⟨R, D, rfl, hR, hD, hr2, hb2⟩
  have hP2 := prf_new hC hf hb1 hR hD hr2 hb2
  clear hC hf hb1 hR hD hr2 hb2
  obtain ⟨B, hB⟩ : ∃ B, B = w.heap.size := ⟨_, rfl⟩
  rw [← hB] at hP2
  have HC : Hid (B = w.heap.size) := hB
  clear hB
  go_wp2_with fail
  refine (flwakes_any _).mono ?_
  rintro e w3 ⟨rfl, hb3⟩
  have hP3 := hP2.below hb3
  clear hP2 hb3
  go_wp2_with fail
  refine (same_any B w C R D _ w3 hP3).mono ?_
  rintro e w4 ⟨rfl, hb4⟩
  have HP4 : Hid (PrF B w w4 C R D (Wm.new k mo) (Wm.new k mo)) := hP3.below hb4
  clear hP3 hb4
  go_wp2
  clear hmin hfr hmm
  go_loopw [31] (fun c wr => ∃ (j : Nat) (σ : Wm.St), j ≤ m ∧ c = .int .i64 j ∧ Hid (PrF B w wr C R D σ σ) ∧ Hid σ.Ok) (fun c _ => m - (intOf c).toNat)
  case atStart => exact ⟨0, _, Nat.zero_le _, rfl, HP4, HOk0⟩
  case round =>
    obtain ⟨j, σ, hjm, rfl, HP, HOk⟩ := hrel
    clear HP4 HOk0
    by_cases hlt : j < m
    · obtain ⟨bb, off, q, rfl, hbb, hqe, hat, hok⟩ := HR.out.at j (by omega)
      have hat' := hat.below HP.out.bel (by rw [HC.out]; exact hbb)
      have hbr : bb < wr.heap.size := by have := HP.out.bs; have := HC.out; omega
      obtain ⟨d0, d1, d2, d3, d4⟩ := hat'
      have HQk : Hid q.Ok := hok
      clear hat hqe hok hbb
      have HA : Hid (Below wr.heap.size wr (wr.alloc (.cells #[.int .i64 q.d, .int .i64 q.n, .bool q.ne, .bool q.on, .string q.s] 30))) := (Below.refl _ _).alloc (Nat.le_refl _) _
      go_wp2_with fail
      refine (act_any B w C R D σ q _ (HP.out.below HA.out) HOk.out HQk.out).mono ?_
      rintro e w5 ⟨rfl, hP5⟩
      have hO5 := Wm.step_ok HOk.out q.d q.n q.ne q.on q.s
      generalize Wm.step σ q.d q.n q.ne q.on q.s = σ' at hP5 hO5
      have HO5 : Hid σ'.Ok := hO5
      clear d0 d1 d2 d3 d4 HP HOk HA hO5 hbr
      go_wp2_with fail
      refine (same_any B w C R D _ w5 hP5).mono ?_
      rintro e w6 ⟨rfl, hb6⟩
      have HP6 : Hid (PrF B w w6 C R D σ' σ') := hP5.below hb6
      clear hP5 hb6
      go_wp2
      go_roundw
      case rel => exact ⟨j + 1, σ', by omega, by go_num, HP6, HO5⟩
      case measure => simp [intOf]; omega
    · have HB : Hid (Below B w wr) := HP.out.bel
      clear HP
      go_wp2
      go_ret
      exact ⟨rfl, by have := HB.out; rw [HC.out] at this; exact this⟩
end Go.Proofs.Ytejhhgpfkobjoaa
