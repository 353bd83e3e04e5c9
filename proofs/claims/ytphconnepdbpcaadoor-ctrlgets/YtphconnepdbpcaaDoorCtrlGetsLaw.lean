/-
  The walk of the law CtrlGets: it returns true.
-/
import Derived.Test.YtphconnepdbpcaaDoorCtrlRefGet
import Derived.Test.YtphconnepdbpcaaDoorCtrlPutWalks
namespace Go.Proofs.YtphconnepdbpcaaDoor
open Go.RowKit
set_option linter.unusedVariables false
set_option linter.unusedSimpArgs false

theorem cget_one_fixed : Cm.getRes ⟨#[6, 5]⟩ = ((0, true, 3, 2), 2, 0) := by decide

set_option maxHeartbeats 400000 in
theorem walk_CtrlGets (s : ByteArray) (w : World) (hs : s.size ≤ 140737488351232) (hT : First w) :
    Calls Tryd.prog 5 #[.string s] w fun e w' => e = .returned (.bool true) ∧ Below w.heap.size w w' := by
  go_enter Tryd.func5, Tryd.ntmps5
  go_wp2_with fail
  refine (cget_any s _ (by omega) hT).mono ?_
  rintro e w1 ⟨rfl, hb1⟩
  have hT1 := hT.later hb1
  clear hT
  generalize hR : Cm.getRes s = R
  obtain ⟨⟨a, b, c, d⟩, m, f⟩ := R
  have HR : Hid (Cm.getRes s = ((a, b, c, d), m, f)) := hR
  clear hR
  simp only [getV]
  have hC1 := ctl_new w1 a b c d 33
  have hq1 : Below w1.heap.size w1 (w1.alloc (.cells #[.int .i64 a, .bool b, .int .i64 c, .int .i64 d] 33)) := (Below.refl _ _).alloc (Nat.le_refl _) _
  go_wp2_with fail
  refine (ref_cget_any s _ (by omega)).mono ?_
  rintro e w2 ⟨rfl, hb2⟩
  rw [HR.out]
  simp only [getV]
  have hq2 : Below w1.heap.size w1 w2 := hq1.trans (hb2.mono hq1.size)
  have hC2 := hC1.later hb2
  have hT2 := hT1.later hq2
  have hQ2 : Below w.heap.size w w2 := hb1.trans (hq2.mono hb1.size)
  clear hC1 hq1 hb2 hT1 hb1 HR
  have hD := ctl_new w2 a b c d 37
  have hq3 : Below w2.heap.size w2 (w2.alloc (.cells #[.int .i64 a, .bool b, .int .i64 c, .int .i64 d] 37)) := (Below.refl _ _).alloc (Nat.le_refl _) _
  have hG := cget_any ⟨#[6, 5]⟩ _ (by decide) (hT2.later hq3)
  rw [cget_one_fixed] at hG
  go_wp2_with fail
  refine hG.mono ?_
  rintro e w3 ⟨rfl, hb3⟩
  clear hG
  simp only [getV]
  have hQ3 : Below w.heap.size w w3 := hQ2.trans ((hq3.trans (hb3.mono hq3.size)).mono hQ2.size)
  obtain ⟨z, i0, i1, i2, i3⟩ := hC2.later (hq3.trans (hb3.mono hq3.size))
  obtain ⟨z', j0, j1, j2, j3⟩ := hD.later hb3
  clear hC2 hD hb3 hq3 hq2 hT2
  have e1 : (m == m) = true := by simp
  have e2 : (f == f) = true := by simp
  have e3 : (a == a) = true := by simp
  have e4 : (b == b) = true := by simp
  have e5 : (c == c) = true := by simp
  have e6 : (d == d) = true := by simp
  go_wp2
  go_ret
  exact ⟨by simp, hQ3.alloc hQ3.size _⟩
end Go.Proofs.YtphconnepdbpcaaDoor
