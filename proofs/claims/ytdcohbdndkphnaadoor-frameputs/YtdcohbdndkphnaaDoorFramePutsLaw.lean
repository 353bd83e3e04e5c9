/-
  The walk of the law FramePuts: it returns true.
-/
import Derived.Test.YtdcohbdndkphnaaDoorFrameWakes
import Derived.Test.YtdcohbdndkphnaaDoorRefFramePut
namespace Go.Proofs.YtdcohbdndkphnaaDoor
open Go.RowKit
set_option linter.unusedVariables false
set_option linter.unusedSimpArgs false

set_option maxHeartbeats 2000000 in
set_option maxRecDepth 100000 in
theorem walk_FramePuts (sapi tei : Int) (c : Bool) (k : Int) (pf : Bool) (ns nr : Int) (info : ByteArray) (net : Bool) (w : World) (hi : info.size ≤ 140737488351232) (hL : Laws6 w) :
    Calls Tryd.prog 4 #[.agg #[.int .i64 sapi, .int .i64 tei, .bool c, .int .i64 k, .bool pf, .int .i64 ns, .int .i64 nr, .string info], .bool net] w fun e w' => e = .returned (.bool true) ∧ Below w.heap.size w w' := by
  have hq0 : Below w.heap.size w (w.alloc (.cells #[.int .i64 sapi, .int .i64 tei, .bool c, .int .i64 k, .bool pf, .int .i64 ns, .int .i64 nr, .string info] 29)) := (Below.refl w.heap.size w).alloc (Nat.le_refl _) _
  go_enter Tryd.func4, Tryd.ntmps4
  go_wp2_with fail
  refine (frames_any sapi tei c k pf ns nr info _).mono ?_
  rintro e w1 ⟨rfl, hb1⟩
  have hq1 := hq0.trans (hb1.mono hq0.size)
  clear hb1 hq0
  simp only [frV]
  have hqa : Below w1.heap.size w1 ((w1.alloc (.cells #[.int .i64 sapi, .int .i64 tei, .bool c, .int .i64 k, .bool pf, .int .i64 ns, .int .i64 nr, .string info] 33)).alloc (.cells #[.int .i64 sapi, .int .i64 tei, .bool c, .int .i64 k, .bool pf, .int .i64 ns, .int .i64 nr, .string info] 34)) := ((Below.refl _ _).alloc (Nat.le_refl _) _).alloc (by simp) _
  have hqb := hq1.trans (hqa.mono hq1.size)
  have hD0 : FrC ((w1.alloc (.cells #[.int .i64 sapi, .int .i64 tei, .bool c, .int .i64 k, .bool pf, .int .i64 ns, .int .i64 nr, .string info] 33)).alloc (.cells #[.int .i64 sapi, .int .i64 tei, .bool c, .int .i64 k, .bool pf, .int .i64 ns, .int .i64 nr, .string info] 34)) (w1.heap.size + 1) sapi tei c k pf ns nr info := by
    have := frc_new (w1.alloc (.cells #[.int .i64 sapi, .int .i64 tei, .bool c, .int .i64 k, .bool pf, .int .i64 ns, .int .i64 nr, .string info] 33)) sapi tei c k pf ns nr info 34
    rw [show (w1.alloc (.cells #[.int .i64 sapi, .int .i64 tei, .bool c, .int .i64 k, .bool pf, .int .i64 ns, .int .i64 nr, .string info] 33)).heap.size = w1.heap.size + 1 from by simp] at this
    exact this
  have hP := fput_any sapi tei c k pf ns nr info net ((w1.alloc (.cells #[.int .i64 sapi, .int .i64 tei, .bool c, .int .i64 k, .bool pf, .int .i64 ns, .int .i64 nr, .string info] 33)).alloc (.cells #[.int .i64 sapi, .int .i64 tei, .bool c, .int .i64 k, .bool pf, .int .i64 ns, .int .i64 nr, .string info] 34)) hi (hL.later hqb)
  generalize hR : Xm.putRes ⟨sapi, tei, c, k, pf, ns, nr, info⟩ net = R at hP
  obtain ⟨T, e0⟩ := R
  simp only at hP
  have HR : Hid (Xm.putRes ⟨sapi, tei, c, k, pf, ns, nr, info⟩ net = (T, e0)) := hR
  clear hR
  go_wp2_with fail
  refine hP.mono ?_
  rintro e w2 ⟨rfl, hb2⟩
  clear hP
  have hq2 := hqb.trans (hb2.mono hqb.size)
  obtain ⟨hlt, c0, c1, c2, c3, c4, c5, c6, c7⟩ := hD0.later hb2
  clear hb2 hD0 hqb
  have hP2 := ref_fput_any sapi tei c k pf ns nr info net w2 hi
  rw [HR.out] at hP2
  go_wp2_with fail
  refine hP2.mono ?_
  rintro e w3 ⟨rfl, hb3⟩
  clear hP2
  have hq3 := hq2.trans (hb3.mono hq2.size)
  clear hb3 hq2
  have tT : (T.toList == T.toList) = true := str_eq rfl
  have te : (e0 == e0) = true := by simp
  go_wp2_with fail
  refine (fwakes_any _ (hL.later hq3)).mono ?_
  rintro e w4 ⟨rfl, hb4⟩
  go_wp2
  go_ret
  exact ⟨by simp, hq3.trans (hb4.mono hq3.size)⟩
end Go.Proofs.YtdcohbdndkphnaaDoor
