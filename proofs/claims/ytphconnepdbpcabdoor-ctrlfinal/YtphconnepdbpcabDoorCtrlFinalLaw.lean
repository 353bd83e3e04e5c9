/-
  The walk of the law CtrlFinal: it returns true.
-/
import Derived.Test.YtphconnepdbpcabDoorCtrlFinalMath
import Derived.Test.YtphconnepdbpcabDoorCtrlWakes
namespace Go.Proofs.YtphconnepdbpcabDoor
open Go.RowKit
set_option linter.unusedVariables false
set_option linter.unusedSimpArgs false

/-- how often the octets so far have differed -/
def cnt (p i : Nat) : Int := if p < i then 1 else 0

set_option maxHeartbeats 1000000 in
theorem walk_CtrlFinal (k : Int) (pf : Bool) (ns nr : Int) (w : World) (hk : -9223372036854775808 ≤ k ∧ k ≤ 9223372036854775807) (hns : -9223372036854775808 ≤ ns ∧ ns ≤ 9223372036854775807) (hnr : -9223372036854775808 ≤ nr ∧ nr ≤ 9223372036854775807) (hT : First w) (hN : Names w) :
    Calls Tryd.prog 3 #[.agg #[.int .i64 k, .bool pf, .int .i64 ns, .int .i64 nr]] w fun e w' => e = .returned (.bool true) ∧ Below w.heap.size w w' := by
  have hways := Cm.final_ways k pf ns nr
  have hq0 : Below w.heap.size w (w.alloc (.cells #[.int .i64 k, .bool pf, .int .i64 ns, .int .i64 nr] 23)) := (Below.refl w.heap.size w).alloc (Nat.le_refl _) _
  go_enter Tryd.func3, Tryd.ntmps3
  go_wp2_with fail
  refine (made_any k pf ns nr _).mono ?_
  rintro e w1 ⟨rfl, hb1⟩
  have hq1 := hq0.trans (hb1.mono hq0.size)
  have hT1 := hT.later hq1
  have hN1 := hN.later hq1
  clear hb1 hq0 hT hN
  have hqa : Below w1.heap.size w1 ((w1.alloc (.cells #[.int .i64 k, .bool pf, .int .i64 ns, .int .i64 nr] 26)).alloc (.cells #[.int .i64 k, .bool (!pf), .int .i64 ns, .int .i64 nr] 26)) := ((Below.refl _ _).alloc (Nat.le_refl _) _).alloc (by simp) _
  have hC : Ctl ((w1.alloc (.cells #[.int .i64 k, .bool pf, .int .i64 ns, .int .i64 nr] 26)).alloc (.cells #[.int .i64 k, .bool (!pf), .int .i64 ns, .int .i64 nr] 26)) (w1.heap.size + 1) k (!pf) ns nr := by
    have := ctl_new (w1.alloc (.cells #[.int .i64 k, .bool pf, .int .i64 ns, .int .i64 nr] 26)) k (!pf) ns nr 26
    rwa [show (w1.alloc (.cells #[.int .i64 k, .bool pf, .int .i64 ns, .int .i64 nr] 26)).heap.size = w1.heap.size + 1 from by simp] at this
  obtain ⟨pg, hpg⟩ : ∃ pg, pg = (!pf) := ⟨_, rfl⟩
  have hpg' : (!pf) = pg := hpg.symm
  rw [hpg'] at hC hqa hways
  clear hpg
  have hP := cput_any k pf ns nr _ (hT1.later hqa)
  go_wp2_with fail
  refine hP.mono ?_
  rintro e w2 ⟨rfl, hb2⟩
  clear hP
  have hqb := hqa.trans (hb2.mono hqa.size)
  obtain ⟨hlt, c0, c1, c2, c3⟩ := hC.later hb2
  clear hqa hb2 hC
  have hP2 := cput_any k pg ns nr _ (hT1.later hqb)
  rcases hways with ⟨f, hf, e1, e2⟩ | ⟨S, T, p, b, e1, e2, hO⟩
  · rw [e1]
    rw [e2] at hP2
    clear e1 e2
    have tf : (f != 0) = true := by simpa using hf
    have tg : (f != f) = false := by simp
    go_wp2_with fail
    refine hP2.mono ?_
    rintro e w3 ⟨rfl, hb3⟩
    clear hP2 c0 c1 c2 c3 hlt
    have hqc := hqb.trans (hb3.mono hqb.size)
    go_wp2_with fail
    refine (cwakes_any _ (hT1.later hqc) (hN1.later hqc)).mono ?_
    rintro e w4 ⟨rfl, hb4⟩
    have hq4 := hq1.trans ((hqc.trans (hb4.mono hqc.size)).mono hq1.size)
    clear hb4 hqc hb3 hqb hq1 hT1 hN1 hf
    go_wp2
    go_loop [45] (fun c => c = .int .i64 0) (fun c => 0)
    case atStart => rfl
    case round =>
      obtain rfl := hrel
      go_wp2
      go_ret
      exact ⟨by simp, hq4⟩
  · rw [e1]
    rw [e2] at hP2
    clear e1 e2
    go_wp2_with fail
    refine hP2.mono ?_
    rintro e w3 ⟨rfl, hb3⟩
    clear hP2 c0 c1 c2 c3 hlt
    have hqc := hqb.trans (hb3.mono hqb.size)
    obtain ⟨hst, hs2, hp, hb, hx⟩ := hO
    have HX : Hid (∀ i (h : i < S.size) (h' : i < T.size), bits .xor .u8 (S[i].toNat : Int) (T[i].toNat : Int) = if i = p then b else 0) := hx
    clear hx
    have hts : ((S.size : Int) != (T.size : Int)) = false := by rw [hst]; simp
    have hb1 : 1 ≤ b ∧ b ≤ 16 := by omega
    have hband : bits .and .u8 b (b - 1) = 0 := by rcases hb with rfl | rfl <;> decide
    obtain ⟨hb1, hb2⟩ := hb1
    clear hb
    go_wp2_with fail
    refine (cwakes_any _ (hT1.later hqc) (hN1.later hqc)).mono ?_
    rintro e w4 ⟨rfl, hb4⟩
    have hq4 := hq1.trans ((hqc.trans (hb4.mono hqc.size)).mono hq1.size)
    clear hb4 hqc hb3 hqb hq1 hT1 hN1
    go_wp2
    go_loopw [9, 45] (fun n c wr => ∃ i : Nat, i ≤ S.size ∧ c = .int .i64 i ∧ n = .int .i64 (cnt p i) ∧ Below w.heap.size w wr) (fun _ c _ => S.size - (intOf c).toNat)
    case atStart => exact ⟨0, Nat.zero_le _, rfl, rfl, hq4⟩
    case round =>
      obtain ⟨i, his, rfl, rfl, hbel⟩ := hrel
      clear hq4
      by_cases hlt : i < S.size
      · have hltT : i < T.size := by omega
        have hX := HX.out i hlt hltT
        have hi0 : (i : Int) < (S.size : Int) := by omega
        have hi1 : (i : Int) < (T.size : Int) := by omega
        go_wp2
        go_quiet (fail)
        clear hX
        by_cases hip : i = p
        · rw [if_pos hip]
          have hc0 : cnt p i = 0 := by rw [cnt, if_neg (by omega)]
          have hc1 : cnt p (i + 1) = 1 := by rw [cnt, if_pos (by omega)]
          rw [hc0]
          have HC : Hid (cnt p (i + 1) = 1) := hc1
          clear hc0 hc1 hip
          go_wp2
          go_loop [9, 11] (fun n d => (n = .int .i64 0 ∧ d = .int .u8 b) ∨ (n = .int .i64 1 ∧ d = .int .u8 0)) (fun _ d => (intOf d).toNat)
          case atStart => exact Or.inl ⟨rfl, rfl⟩
          case round =>
            rcases hrel with ⟨rfl, rfl⟩ | ⟨rfl, rfl⟩
            · go_wp2
              go_round
              case rel => exact Or.inr ⟨by go_num, rfl⟩
              case measure => simp [intOf]; omega
            · go_wp2
              go_roundw
              case rel => exact ⟨i + 1, by omega, by go_num, by rw [HC.out], below_drewN hbel _⟩
              case measure => simp [intOf]; omega
        · rw [if_neg hip]
          have hc1 : cnt p (i + 1) = cnt p i := by
            unfold cnt
            by_cases h : p < i
            · rw [if_pos h, if_pos (by omega)]
            · rw [if_neg h, if_neg (by omega)]
          have HC : Hid (cnt p (i + 1) = cnt p i) := hc1
          clear hc1 hip
          go_wp2
          go_loop [9, 11] (fun n d => n = .int .i64 (cnt p i) ∧ d = .int .u8 0) (fun _ d => (intOf d).toNat)
          case atStart => exact ⟨rfl, rfl⟩
          case round =>
            obtain ⟨rfl, rfl⟩ := hrel
            go_wp2
            go_roundw
            case rel => exact ⟨i + 1, by omega, by go_num, by rw [HC.out], below_drewN hbel _⟩
            case measure => simp [intOf]; omega
      · have hc : cnt p i = 1 := by rw [cnt, if_pos (by omega)]
        rw [hc]
        go_wp2
        go_ret
        exact ⟨by simp, hbel⟩
end Go.Proofs.YtphconnepdbpcabDoor
