/-
  The walk of the law CtrlBack: it returns true.
-/
import Derived.Test.YtphconnepdbpcaaDoorCtrlBackMath
import Derived.Test.YtphconnepdbpcaaDoorCtrlWakes
import Derived.Test.YtphconnepdbpcaaDoorCtrlGetTwo
namespace Go.Proofs.YtphconnepdbpcaaDoor
open Go.RowKit
set_option linter.unusedVariables false
set_option linter.unusedSimpArgs false

theorem cell_set_other (w : World) (B i j : Nat) (v : Value) (h : i ≠ j) : (w.setCell ⟨B, i, none⟩ v).cell? ⟨B, j, none⟩ = w.cell? ⟨B, j, none⟩ := set_other h

set_option maxHeartbeats 1000000 in
theorem back_bad (k : Int) (pf : Bool) (ns nr : Int) (rest : ByteArray) (w : World) (f : Int) (hf : f ≠ 0) (hput : Cm.putRes k pf ns nr = (ByteArray.empty, f)) (hT : First w) (hN : Names w) :
    Calls Tryd.prog 7 #[.agg #[.int .i64 k, .bool pf, .int .i64 ns, .int .i64 nr], .string rest] w fun e w' => e = .returned (.bool true) ∧ Below w.heap.size w w' := by
  have tf : (f != 0) = true := by simpa using hf
  have hq0 : Below w.heap.size w (w.alloc (.cells #[.int .i64 k, .bool pf, .int .i64 ns, .int .i64 nr] 28)) := (Below.refl w.heap.size w).alloc (Nat.le_refl _) _
  go_enter Tryd.func7, Tryd.ntmps7
  go_wp2_with fail
  refine (made_any k pf ns nr _).mono ?_
  rintro e w1 ⟨rfl, hb1⟩
  have hq1 := hq0.trans (hb1.mono hq0.size)
  have hT1 := hT.later hq1
  have hN1 := hN.later hq1
  clear hb1 hq0 hT hN
  have hC := ctl_new w1 k pf ns nr 33
  have hF := four_new w1 (.int .i64 k) (.bool pf) (.int .i64 ns) (.int .i64 nr) 33
  have hqa : Below w1.heap.size w1 (w1.alloc (.cells #[.int .i64 k, .bool pf, .int .i64 ns, .int .i64 nr] 33)) := (Below.refl _ _).alloc (Nat.le_refl _) _
  have hP := cput_any k pf ns nr _ (hT1.later hqa)
  rw [hput] at hP
  clear hput
  go_wp2_with fail
  refine hP.mono ?_
  rintro e w2 ⟨rfl, hb2⟩
  clear hP
  have hqb := hqa.trans (hb2.mono hqa.size)
  have hC2 := hC.later hb2
  have hF2 := hF.later hb2
  clear hb2 hqa hC hF
  go_wp2_with fail
  refine (cwakes_any _ (hT1.later hqb) (hN1.later hqb)).mono ?_
  rintro e w3 ⟨rfl, hb3⟩
  have hC3 := hC2.later hb3
  have hF3 := hF2.later hb3
  have hq3 := hqb.trans (hb3.mono hqb.size)
  clear hb3 hC2 hF2 hqb
  go_wp2_with fail
  refine (cwakes_any _ (hT1.later hq3) (hN1.later hq3)).mono ?_
  rintro e w4 ⟨rfl, hb4⟩
  go_wp2
  go_ret
  exact ⟨by simp, hq1.trans ((hq3.trans (hb4.mono hq3.size)).mono hq1.size)⟩

set_option maxHeartbeats 1000000 in
theorem back_high (n : Nat) (pf : Bool) (ns nr : Int) (rest : ByteArray) (w : World) (hs : rest.size ≤ 140737488351232) (S : ByteArray) (hn : n < 10) (h4 : 4 ≤ n) (hput : Cm.putRes (n : Int) pf ns nr = (S, 0)) (hsz : S.size = 1) (hget : Cm.getRes (S ++ rest) = (((n : Int), pf, 0, 0), 1, 0)) (hT : First w) (hN : Names w) :
    Calls Tryd.prog 7 #[.agg #[.int .i64 (n : Int), .bool pf, .int .i64 ns, .int .i64 nr], .string rest] w fun e w' => e = .returned (.bool true) ∧ Below w.heap.size w w' := by
  have hq0 : Below w.heap.size w (w.alloc (.cells #[.int .i64 (n : Int), .bool pf, .int .i64 ns, .int .i64 nr] 28)) := (Below.refl w.heap.size w).alloc (Nat.le_refl _) _
  go_enter Tryd.func7, Tryd.ntmps7
  go_wp2_with fail
  refine (made_any (n : Int) pf ns nr _).mono ?_
  rintro e w1 ⟨rfl, hb1⟩
  have hq1 := hq0.trans (hb1.mono hq0.size)
  have hT1 := hT.later hq1
  have hN1 := hN.later hq1
  clear hb1 hq0 hT hN
  have hC := ctl_new w1 (n : Int) pf ns nr 33
  have hF := four_new w1 (.int .i64 (n : Int)) (.bool pf) (.int .i64 ns) (.int .i64 nr) 33
  have hqa : Below w1.heap.size w1 (w1.alloc (.cells #[.int .i64 (n : Int), .bool pf, .int .i64 ns, .int .i64 nr] 33)) := (Below.refl _ _).alloc (Nat.le_refl _) _
  have hP := cput_any (n : Int) pf ns nr _ (hT1.later hqa)
  rw [hput] at hP
  clear hput
  go_wp2_with fail
  refine hP.mono ?_
  rintro e w2 ⟨rfl, hb2⟩
  clear hP
  have hqb := hqa.trans (hb2.mono hqa.size)
  have hC2 := hC.later hb2
  have hF2 := hF.later hb2
  clear hb2 hqa hC hF
  go_wp2_with fail
  refine (cwakes_any _ (hT1.later hqb) (hN1.later hqb)).mono ?_
  rintro e w3 ⟨rfl, hb3⟩
  have hC3 := hC2.later hb3
  have hF3 := hF2.later hb3
  have hq3 := hqb.trans (hb3.mono hqb.size)
  clear hb3 hC2 hF2 hqb
  have HC : Hid (Ctl w3 w1.heap.size (n : Int) pf ns nr) := hC3
  obtain ⟨hlt, c0, c1, c2, c3⟩ := hC3
  have f2 := hF3.f 2 (by decide)
  have f3 := hF3.f 3 (by decide)
  clear hF3 hN1
  have hne : ((n : Int) != 0) = true := by simp; omega
  have hz : (S ++ rest).size ≤ 140737488355328 := by rw [ByteArray.size_append]; omega
  have hzz : S.size ≤ 2 := by omega
  have hW : Below w1.heap.size w1 ((w3.setCell ⟨w1.heap.size, 3, none⟩ (.int .i64 0)).setCell ⟨w1.heap.size, 2, none⟩ (.int .i64 0)) := (hq3.setCell (p := ⟨w1.heap.size, 3, none⟩) (Nat.le_refl _) _).setCell (p := ⟨w1.heap.size, 2, none⟩) (Nat.le_refl _) _
  have hG := cget_any (S ++ rest) _ hz (hT1.later hW)
  rw [hget] at hG
  clear hget hz hT1
  go_wp2_with fail
  refine (numbered_any (n : Int) _).mono ?_
  rintro e w' ⟨rfl, rfl⟩
  rw [numd_high n h4]
  go_wp2_with fail
  refine hG.mono ?_
  rintro e w4 ⟨rfl, hb4⟩
  clear hG
  simp only [getV]
  have hl4 : w1.heap.size < w4.heap.size := by have := hb4.size; first | (simp at this; omega) | omega
  have d0 : w4.cell? ⟨w1.heap.size, 0, none⟩ = some (.int .i64 (n : Int)) := (hb4.cell (p := ⟨w1.heap.size, 0, none⟩) (by first | (simp; omega) | exact HC.out.lt)).trans (by rw [set_other (by decide), set_other (by decide)]; exact HC.out.c0)
  have d1 : w4.cell? ⟨w1.heap.size, 1, none⟩ = some (.bool pf) := (hb4.cell (p := ⟨w1.heap.size, 1, none⟩) (by first | (simp; omega) | exact HC.out.lt)).trans (by rw [set_other (by decide), set_other (by decide)]; exact HC.out.c1)
  have d2 : w4.cell? ⟨w1.heap.size, 2, none⟩ = some (.int .i64 0) := (hb4.cell (p := ⟨w1.heap.size, 2, none⟩) (by first | (simp; omega) | exact HC.out.lt)).trans (by refine set_same ?_; rw [set_other (by decide)]; exact ⟨_, HC.out.c2⟩)
  have d3 : w4.cell? ⟨w1.heap.size, 3, none⟩ = some (.int .i64 0) := (hb4.cell (p := ⟨w1.heap.size, 3, none⟩) (by first | (simp; omega) | exact HC.out.lt)).trans (by rw [set_other (by decide)]; exact set_same ⟨_, HC.out.c3⟩)
  have hW4 := hq1.trans ((hW.trans (hb4.mono hW.size)).mono hq1.size)
  clear hb4 hW hq3 hq1 HC c0 c1 c2 c3 f2 f3 hlt
  have hsz' : ((S.size : Int)) = 1 := by omega
  go_wp2
  go_ret
  exact ⟨by simp, hW4.alloc hW4.size _⟩

set_option maxHeartbeats 1000000 in
theorem back_s (n : Nat) (pf : Bool) (ns nr : Int) (rest : ByteArray) (w : World) (hs : rest.size ≤ 140737488351232) (S : ByteArray) (h0 : 0 < n) (h4 : n < 4) (hput : Cm.putRes (n : Int) pf ns nr = (S, 0)) (hsz : S.size = 2) (hget : Cm.getRes (S ++ rest) = (((n : Int), pf, 0, nr), 2, 0)) (hT : First w) (hN : Names w) :
    Calls Tryd.prog 7 #[.agg #[.int .i64 (n : Int), .bool pf, .int .i64 ns, .int .i64 nr], .string rest] w fun e w' => e = .returned (.bool true) ∧ Below w.heap.size w w' := by
  have hq0 : Below w.heap.size w (w.alloc (.cells #[.int .i64 (n : Int), .bool pf, .int .i64 ns, .int .i64 nr] 28)) := (Below.refl w.heap.size w).alloc (Nat.le_refl _) _
  go_enter Tryd.func7, Tryd.ntmps7
  go_wp2_with fail
  refine (made_any (n : Int) pf ns nr _).mono ?_
  rintro e w1 ⟨rfl, hb1⟩
  have hq1 := hq0.trans (hb1.mono hq0.size)
  have hT1 := hT.later hq1
  have hN1 := hN.later hq1
  clear hb1 hq0 hT hN
  have hC := ctl_new w1 (n : Int) pf ns nr 33
  have hF := four_new w1 (.int .i64 (n : Int)) (.bool pf) (.int .i64 ns) (.int .i64 nr) 33
  have hqa : Below w1.heap.size w1 (w1.alloc (.cells #[.int .i64 (n : Int), .bool pf, .int .i64 ns, .int .i64 nr] 33)) := (Below.refl _ _).alloc (Nat.le_refl _) _
  have hP := cput_any (n : Int) pf ns nr _ (hT1.later hqa)
  rw [hput] at hP
  clear hput
  go_wp2_with fail
  refine hP.mono ?_
  rintro e w2 ⟨rfl, hb2⟩
  clear hP
  have hqb := hqa.trans (hb2.mono hqa.size)
  have hC2 := hC.later hb2
  have hF2 := hF.later hb2
  clear hb2 hqa hC hF
  go_wp2_with fail
  refine (cwakes_any _ (hT1.later hqb) (hN1.later hqb)).mono ?_
  rintro e w3 ⟨rfl, hb3⟩
  have hC3 := hC2.later hb3
  have hF3 := hF2.later hb3
  have hq3 := hqb.trans (hb3.mono hqb.size)
  clear hb3 hC2 hF2 hqb
  have HC : Hid (Ctl w3 w1.heap.size (n : Int) pf ns nr) := hC3
  obtain ⟨hlt, c0, c1, c2, c3⟩ := hC3
  have f2 := hF3.f 2 (by decide)
  have f3 := hF3.f 3 (by decide)
  clear hF3 hN1
  have hne : ((n : Int) != 0) = true := by simp; omega
  have hz : (S ++ rest).size ≤ 140737488355328 := by rw [ByteArray.size_append]; omega
  have hzz : S.size ≤ 2 := by omega
  have hW : Below w1.heap.size w1 (w3.setCell ⟨w1.heap.size, 2, none⟩ (.int .i64 0)) := hq3.setCell (p := ⟨w1.heap.size, 2, none⟩) (Nat.le_refl _) _
  have hG := cget_any (S ++ rest) _ hz (hT1.later hW)
  rw [hget] at hG
  clear hget hz hT1
  go_wp2_with fail
  refine (numbered_any (n : Int) _).mono ?_
  rintro e w' ⟨rfl, rfl⟩
  rw [numd_low n h4]
  go_wp2_with fail
  refine hG.mono ?_
  rintro e w4 ⟨rfl, hb4⟩
  clear hG
  simp only [getV]
  have hl4 : w1.heap.size < w4.heap.size := by have := hb4.size; first | (simp at this; omega) | omega
  have d0 : w4.cell? ⟨w1.heap.size, 0, none⟩ = some (.int .i64 (n : Int)) := (hb4.cell (p := ⟨w1.heap.size, 0, none⟩) (by first | (simp; omega) | exact HC.out.lt)).trans (by rw [set_other (by decide)]; exact HC.out.c0)
  have d1 : w4.cell? ⟨w1.heap.size, 1, none⟩ = some (.bool pf) := (hb4.cell (p := ⟨w1.heap.size, 1, none⟩) (by first | (simp; omega) | exact HC.out.lt)).trans (by rw [set_other (by decide)]; exact HC.out.c1)
  have d2 : w4.cell? ⟨w1.heap.size, 2, none⟩ = some (.int .i64 0) := (hb4.cell (p := ⟨w1.heap.size, 2, none⟩) (by first | (simp; omega) | exact HC.out.lt)).trans (by exact set_same ⟨_, HC.out.c2⟩)
  have d3 : w4.cell? ⟨w1.heap.size, 3, none⟩ = some (.int .i64 nr) := (hb4.cell (p := ⟨w1.heap.size, 3, none⟩) (by first | (simp; omega) | exact HC.out.lt)).trans (by rw [set_other (by decide)]; exact HC.out.c3)
  have hW4 := hq1.trans ((hW.trans (hb4.mono hW.size)).mono hq1.size)
  clear hb4 hW hq3 hq1 HC c0 c1 c2 c3 f2 f3 hlt
  have hsz' : ((S.size : Int)) = 2 := by omega
  go_wp2
  go_ret
  exact ⟨by simp, hW4.alloc hW4.size _⟩

set_option maxHeartbeats 1000000 in
theorem back_i (pf : Bool) (ns nr : Int) (rest : ByteArray) (w : World) (hs : rest.size ≤ 140737488351232) (S : ByteArray)  (hput : Cm.putRes 0 pf ns nr = (S, 0)) (hsz : S.size = 2) (hget : Cm.getRes (S ++ rest) = ((0, pf, ns, nr), 2, 0)) (hT : First w) (hN : Names w) :
    Calls Tryd.prog 7 #[.agg #[.int .i64 0, .bool pf, .int .i64 ns, .int .i64 nr], .string rest] w fun e w' => e = .returned (.bool true) ∧ Below w.heap.size w w' := by
  have hq0 : Below w.heap.size w (w.alloc (.cells #[.int .i64 0, .bool pf, .int .i64 ns, .int .i64 nr] 28)) := (Below.refl w.heap.size w).alloc (Nat.le_refl _) _
  go_enter Tryd.func7, Tryd.ntmps7
  go_wp2_with fail
  refine (made_any 0 pf ns nr _).mono ?_
  rintro e w1 ⟨rfl, hb1⟩
  have hq1 := hq0.trans (hb1.mono hq0.size)
  have hT1 := hT.later hq1
  have hN1 := hN.later hq1
  clear hb1 hq0 hT hN
  have hC := ctl_new w1 0 pf ns nr 33
  have hF := four_new w1 (.int .i64 0) (.bool pf) (.int .i64 ns) (.int .i64 nr) 33
  have hqa : Below w1.heap.size w1 (w1.alloc (.cells #[.int .i64 0, .bool pf, .int .i64 ns, .int .i64 nr] 33)) := (Below.refl _ _).alloc (Nat.le_refl _) _
  have hP := cput_any 0 pf ns nr _ (hT1.later hqa)
  rw [hput] at hP
  clear hput
  go_wp2_with fail
  refine hP.mono ?_
  rintro e w2 ⟨rfl, hb2⟩
  clear hP
  have hqb := hqa.trans (hb2.mono hqa.size)
  have hC2 := hC.later hb2
  have hF2 := hF.later hb2
  clear hb2 hqa hC hF
  go_wp2_with fail
  refine (cwakes_any _ (hT1.later hqb) (hN1.later hqb)).mono ?_
  rintro e w3 ⟨rfl, hb3⟩
  have hC3 := hC2.later hb3
  have hF3 := hF2.later hb3
  have hq3 := hqb.trans (hb3.mono hqb.size)
  clear hb3 hC2 hF2 hqb
  have HC : Hid (Ctl w3 w1.heap.size 0 pf ns nr) := hC3
  obtain ⟨hlt, c0, c1, c2, c3⟩ := hC3
  have f2 := hF3.f 2 (by decide)
  have f3 := hF3.f 3 (by decide)
  clear hF3 hN1
  have hz : (S ++ rest).size ≤ 140737488355328 := by rw [ByteArray.size_append]; omega
  have hzz : S.size ≤ 2 := by omega
  have hW : Below w1.heap.size w1 w3 := hq3
  have hG := cget_any (S ++ rest) _ hz (hT1.later hW)
  rw [hget] at hG
  clear hget hz hT1
  go_wp2_with fail
  refine (numbered_any 0 _).mono ?_
  rintro e w' ⟨rfl, rfl⟩
  rw [show Cm.numd 0 = true from rfl]
  go_wp2_with fail
  refine hG.mono ?_
  rintro e w4 ⟨rfl, hb4⟩
  clear hG
  simp only [getV]
  have hl4 : w1.heap.size < w4.heap.size := by have := hb4.size; first | (simp at this; omega) | omega
  have d0 : w4.cell? ⟨w1.heap.size, 0, none⟩ = some (.int .i64 0) := (hb4.cell (p := ⟨w1.heap.size, 0, none⟩) (by first | (simp; omega) | exact HC.out.lt)).trans (by exact HC.out.c0)
  have d1 : w4.cell? ⟨w1.heap.size, 1, none⟩ = some (.bool pf) := (hb4.cell (p := ⟨w1.heap.size, 1, none⟩) (by first | (simp; omega) | exact HC.out.lt)).trans (by exact HC.out.c1)
  have d2 : w4.cell? ⟨w1.heap.size, 2, none⟩ = some (.int .i64 ns) := (hb4.cell (p := ⟨w1.heap.size, 2, none⟩) (by first | (simp; omega) | exact HC.out.lt)).trans (by exact HC.out.c2)
  have d3 : w4.cell? ⟨w1.heap.size, 3, none⟩ = some (.int .i64 nr) := (hb4.cell (p := ⟨w1.heap.size, 3, none⟩) (by first | (simp; omega) | exact HC.out.lt)).trans (by exact HC.out.c3)
  have hW4 := hq1.trans ((hW.trans (hb4.mono hW.size)).mono hq1.size)
  clear hb4 hW hq3 hq1 HC c0 c1 c2 c3 f2 f3 hlt
  have hsz' : ((S.size : Int)) = 2 := by omega
  go_wp2
  go_ret
  exact ⟨by simp, hW4.alloc hW4.size _⟩

theorem walk_CtrlBack (k : Int) (pf : Bool) (ns nr : Int) (rest : ByteArray) (w : World) (hk : -9223372036854775808 ≤ k ∧ k ≤ 9223372036854775807) (hns : -9223372036854775808 ≤ ns ∧ ns ≤ 9223372036854775807) (hnr : -9223372036854775808 ≤ nr ∧ nr ≤ 9223372036854775807) (hs : rest.size ≤ 140737488351232) (hT : First w) (hN : Names w) :
    Calls Tryd.prog 7 #[.agg #[.int .i64 k, .bool pf, .int .i64 ns, .int .i64 nr], .string rest] w fun e w' => e = .returned (.bool true) ∧ Below w.heap.size w w' := by
  rcases Cm.put_ways k pf ns nr with ⟨f, hp, hf⟩ | ⟨n, rfl, hn, h4⟩ | ⟨rfl, h1, h2⟩ | ⟨n, rfl, h0, h4, h2⟩
  · exact back_bad k pf ns nr rest w f hf hp hT hN
  · exact back_high n pf ns nr rest w hs _ hn h4 (Cm.put_high n pf ns nr hn h4) (by rw [strOfNums_size]; rfl) (Cm.back_high n pf rest hn h4) hT hN
  · exact back_i pf ns nr rest w hs _ (Cm.put_i pf ns nr h1 h2) (by rw [strOfNums_size]; rfl) (Cm.back_i pf ns nr rest h1 h2) hT hN
  · exact back_s n pf ns nr rest w hs _ h0 h4 (Cm.put_s n pf ns nr h0 h4 h2) (by rw [strOfNums_size]; rfl) (Cm.back_s n pf nr rest h0 h4 h2) hT hN
end Go.Proofs.YtphconnepdbpcaaDoor
