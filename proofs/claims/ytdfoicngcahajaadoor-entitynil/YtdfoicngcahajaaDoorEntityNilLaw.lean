/-
  The walk of the law EntityNil: it returns true.
-/
import Derived.Test.YtdfoicngcahajaaDoorEntNils
import Derived.Test.YtdfoicngcahajaaDoorEntWakes
import Derived.Test.YtdfoicngcahajaaDoorActOpen
import Derived.Test.YtdfoicngcahajaaDoorFrameFrames14
namespace Go.Proofs.YtdfoicngcahajaaDoor
open Go.RowKit
set_option linter.unusedVariables false
set_option maxRecDepth 100000
set_option linter.unusedSimpArgs false

/-- the call's data, and a frame -/
structure NilH (w0 : World) (L B : Nat) (timer tei : Int) (sapi ftei : Int) (c : Bool) (k : Int) (pf : Bool) (ns nr : Int) (info : ByteArray) (w : World) : Prop where
  bel : Below w0.heap.size w0 w
  lt : L < w.heap.size
  z2 : w.cell? ⟨L, 2, none⟩ = some (.int .i64 timer)
  z3 : w.cell? ⟨L, 3, none⟩ = some (.int .i64 tei)
  fr : FrC w B sapi ftei c k pf ns nr info
  bs : w0.heap.size ≤ w.heap.size
theorem NilH.later {w0 w w' : World} {L B : Nat} {timer tei sapi ftei : Int} {c : Bool} {k : Int} {pf : Bool} {ns nr : Int} {info : ByteArray} (h : NilH w0 L B timer tei sapi ftei c k pf ns nr info w) (hb : Below w.heap.size w w') : NilH w0 L B timer tei sapi ftei c k pf ns nr info w' :=
  ⟨h.bel.trans (hb.mono h.bs), Nat.lt_of_lt_of_le h.lt hb.size, (hb.cell (p := ⟨L, 2, none⟩) h.lt).trans h.z2, (hb.cell (p := ⟨L, 3, none⟩) h.lt).trans h.z3, h.fr.later hb, Nat.le_trans h.bs hb.size⟩

set_option maxHeartbeats 4000000 in
theorem walk_EntityNil (q : ActE) (w : World) (hW : Ways w) :
    Calls Tryd.prog 3 #[q.v] w fun r w' => r = .returned (.bool true) ∧ Below w.heap.size w w' := by
  have HW : Hid (Ways w) := hW
  clear hW
  obtain ⟨d, ask, timer, tei, data, ⟨sapi, ftei, c, k, pf, ns, nr, info⟩, near, n, m⟩ := q
  unfold ActE.v
  simp only []
  obtain ⟨wa, hwa⟩ : ∃ wa, wa = w.alloc (.cells #[.int .i64 d, .int .i64 ask, .int .i64 timer, .int .i64 tei, .string data, .int .i64 sapi, .int .i64 ftei, .bool c, .int .i64 k, .bool pf, .int .i64 ns, .int .i64 nr, .string info, .bool near, .int .i64 n, .int .i64 m] 25) := ⟨_, rfl⟩
  have hb0 : Below w.heap.size w wa := by rw [hwa]; exact (Below.refl _ _).alloc (Nat.le_refl _) _
  have y1 : wa.cell? ⟨w.heap.size, 1, none⟩ = some (.int .i64 ask) := by rw [hwa]; simp
  have y2 : wa.cell? ⟨w.heap.size, 2, none⟩ = some (.int .i64 timer) := by rw [hwa]; simp
  have y3 : wa.cell? ⟨w.heap.size, 3, none⟩ = some (.int .i64 tei) := by rw [hwa]; simp
  have y4 : wa.cell? ⟨w.heap.size, 4, none⟩ = some (.string data) := by rw [hwa]; simp
  have yl : w.heap.size < wa.heap.size := by rw [hwa]; simp
  have HB0 : Hid (Below w.heap.size w wa) := hb0
  clear hb0
  have HF := frames7_any sapi ftei c k pf ns nr info wa
  go_enter Tryd.func3, Tryd.ntmps3
  go_wp2_with fail
  rw [← hwa]
  clear hwa
  refine HF.mono ?_
  rintro r w1 ⟨rfl, hb⟩
  have z1 := (hb.cell (p := ⟨w.heap.size, 1, none⟩) yl).trans y1
  have z2 := (hb.cell (p := ⟨w.heap.size, 2, none⟩) yl).trans y2
  have z3 := (hb.cell (p := ⟨w.heap.size, 3, none⟩) yl).trans y3
  have z4 := (hb.cell (p := ⟨w.heap.size, 4, none⟩) yl).trans y4
  have zl := Nat.lt_of_lt_of_le yl hb.size
  have HB1 : Hid (Below w.heap.size w w1) := HB0.out.trans (hb.mono (Nat.le_of_lt yl))
  clear hb HB0 HF y1 y2 y3 y4 yl
  unfold frA
  go_wp2_with fail
  obtain ⟨w2, hw2⟩ : ∃ w2, w2 = (w1.alloc (.cells #[.int .i64 sapi, .int .i64 ftei, .bool c, .int .i64 k, .bool pf, .int .i64 ns, .int .i64 nr, .string info] 31)).alloc (.cells #[.int .i64 sapi, .int .i64 ftei, .bool c, .int .i64 k, .bool pf, .int .i64 ns, .int .i64 nr, .string info] 32) := ⟨_, rfl⟩
  have hb2 : Below w1.heap.size w1 w2 := by rw [hw2]; exact ((Below.refl _ _).alloc (Nat.le_refl _) _).alloc (by simp) _
  have HN : Hid (NilH w w.heap.size w1.heap.size timer tei sapi ftei c k pf ns nr info w2) := by
    refine ⟨HB1.out.trans (hb2.mono (Nat.le_of_lt zl)), Nat.lt_of_lt_of_le zl hb2.size, (hb2.cell (p := ⟨w.heap.size, 2, none⟩) zl).trans z2, (hb2.cell (p := ⟨w.heap.size, 3, none⟩) zl).trans z3, ?_, Nat.le_trans (Nat.le_of_lt zl) hb2.size⟩
    rw [hw2]
    exact (frc_new w1 sapi ftei c k pf ns nr info 31).later ((Below.refl _ _).alloc (Nat.le_refl _) _)
  rw [← hw2]
  generalize w1.heap.size = B at HN ⊢
  clear hw2 hb2 z1 z2 z3 z4 zl HB1
  refine (eask_nil ask data w2).mono ?_
  rintro r w3 ⟨rfl, rfl⟩
  have z3 := HN.out.z3
  have zl := HN.out.lt
  go_wp2_with fail
  refine (eassign_nil tei w2).mono ?_
  rintro r w3 ⟨rfl, hb⟩
  have HN3 := (show Hid _ from HN.out.later hb)
  clear hb HN z3 zl
  go_wp2_with fail
  refine (eremove_nil w3).mono ?_
  rintro r w4 ⟨rfl, hb⟩
  have HN4 := (show Hid _ from NilH.later HN3.out hb)
  clear hb HN3
  go_wp2_with fail
  refine (ewakes_any w4 (HW.out.later (NilH.bel HN4.out))).mono ?_
  rintro r w5 ⟨rfl, hb⟩
  have HN5 := (show Hid _ from NilH.later HN4.out hb)
  clear hb HN4
  have b0 := (NilH.fr HN5.out).c0
  have b1 := (NilH.fr HN5.out).c1
  have b2 := (NilH.fr HN5.out).c2
  have b3 := (NilH.fr HN5.out).c3
  have b4 := (NilH.fr HN5.out).c4
  have b5 := (NilH.fr HN5.out).c5
  have b6 := (NilH.fr HN5.out).c6
  have b7 := (NilH.fr HN5.out).c7
  have bl := (NilH.fr HN5.out).lt
  go_wp2_with fail
  refine (eframe_nil ⟨sapi, ftei, c, k, pf, ns, nr, info⟩ w5).mono ?_
  rintro r w6 ⟨rfl, hb⟩
  have HN6 := (show Hid _ from NilH.later HN5.out hb)
  clear hb HN5 b0 b1 b2 b3 b4 b5 b6 b7 bl
  have z2 := NilH.z2 HN6.out
  have zl := NilH.lt HN6.out
  go_wp2_with fail
  refine (etime_nil timer w6).mono ?_
  rintro r w7 ⟨rfl, hb⟩
  have HN7 := (show Hid _ from NilH.later HN6.out hb)
  clear hb HN6 z2 zl
  go_wp2_with fail
  refine (eview_nil w7).mono ?_
  rintro r w8 ⟨rfl, hb⟩
  have HN8 := (show Hid _ from NilH.later HN7.out hb)
  clear hb HN7
  unfold ev0
  go_wp2
  go_ret
  exact ⟨rfl, NilH.bel HN8.out⟩
end Go.Proofs.YtdfoicngcahajaaDoor
