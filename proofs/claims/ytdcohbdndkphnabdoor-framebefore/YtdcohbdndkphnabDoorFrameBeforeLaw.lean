/-
  The walk of the law FrameBefore: it returns true.
-/
import Derived.Test.YtdcohbdndkphnabDoorFrameWakes
namespace Go.Proofs.YtdcohbdndkphnabDoor
open Go.RowKit
set_option linter.unusedVariables false
set_option linter.unusedSimpArgs false

theorem fget_all (s : ByteArray) (net : Bool) (w : World) (hs : s.size ≤ 140737488351232) (hL : Laws6 w) :
    Calls Tryd.prog 9 #[.string s, .bool net] w fun e w' => (∃ v, e = .returned v) ∧ Below w.heap.size w w' :=
  (fget_any s net w hs hL).mono (fun e w' h => ⟨⟨_, h.1⟩, h.2⟩)

set_option maxHeartbeats 1000000 in
set_option maxRecDepth 100000 in
theorem walk_FrameBefore (s t : ByteArray) (net : Bool) (w : World) (hs : s.size ≤ 140737488351232) (ht : t.size ≤ 140737488351232) (hL : Laws6 w) :
    Calls Tryd.prog 4 #[.string s, .string t, .bool net] w fun e w' => e = .returned (.bool true) ∧ Below w.heap.size w w' := by
  have HL : Hid (Laws6 w) := hL
  clear hL
  go_enter Tryd.func4, Tryd.ntmps4
  go_wp2_with fail
  go_region
  go_wp2_with fail
  obtain ⟨a, hA, ha⟩ : ∃ a : ByteArray, a = s.extract 0 (min (s.size : Int) 400).toNat ∧ a.size ≤ 400 := ⟨_, rfl, by simp; omega⟩
  obtain ⟨b, hB, hb⟩ : ∃ b : ByteArray, b = t.extract 0 (min (t.size : Int) 400).toNat ∧ b.size ≤ 400 := ⟨_, rfl, by simp; omega⟩
  rw [← hA, ← hB]
  clear hA hB
  have hq0 : Below w.heap.size w w.drew := (Below.refl _ _).drew
  refine (fget_any b net _ (by omega) (HL.out.later hq0)).mono ?_
  rintro e w1 ⟨rfl, hb1⟩
  have hq1 := hq0.trans (hb1.mono hq0.size)
  clear hb1 hq0
  generalize hR : Xm.getRes b net = R
  obtain ⟨⟨sapi, tei, c, k, pf, ns, nr, info⟩, e0⟩ := R
  have HR : Hid (Xm.getRes b net = (⟨sapi, tei, c, k, pf, ns, nr, info⟩, e0)) := hR
  clear hR
  simp only [fgetV, frV]
  have hqa : Below w1.heap.size w1 (w1.alloc (.cells #[.int .i64 sapi, .int .i64 tei, .bool c, .int .i64 k, .bool pf, .int .i64 ns, .int .i64 nr, .string info] 28)) := (Below.refl _ _).alloc (Nat.le_refl _) _
  have hC1 := frc_new w1 sapi tei c k pf ns nr info 28
  have hq2 := hq1.trans (hqa.mono hq1.size)
  clear hqa hq1
  go_wp2_with fail
  refine (fget_all a net _ (by omega) (HL.out.later hq2)).mono ?_
  rintro e w2 ⟨⟨v, rfl⟩, hb2⟩
  have hq3 := hq2.trans (hb2.mono hq2.size)
  have hC2 := hC1.later hb2
  clear hb2 hq2 hC1
  go_wp2_with fail
  refine (fget_all a (!net) _ (by omega) (HL.out.later hq3)).mono ?_
  rintro e w3 ⟨⟨v', rfl⟩, hb3⟩
  have hq4 := hq3.trans (hb3.mono hq3.size)
  have hC3 := hC2.later hb3
  clear hb3 hq3 hC2
  have hG := fget_any b net w3 (by omega) (HL.out.later hq4)
  rw [HR.out] at hG
  simp only [fgetV, frV] at hG
  go_wp2_with fail
  refine hG.mono ?_
  rintro e w4 ⟨rfl, hb4⟩
  clear hG
  have hq5 := hq4.trans (hb4.mono hq4.size)
  have hC4 := hC3.later hb4
  clear hb4 hq4 hC3
  have hqc : Below w4.heap.size w4 (w4.alloc (.cells #[.int .i64 sapi, .int .i64 tei, .bool c, .int .i64 k, .bool pf, .int .i64 ns, .int .i64 nr, .string info] 28)) := (Below.refl _ _).alloc (Nat.le_refl _) _
  have hD4 := frc_new w4 sapi tei c k pf ns nr info 28
  have hC5 := hC4.later hqc
  have hq6 := hq5.trans (hqc.mono hq5.size)
  clear hqc hq5 hC4
  go_wp2_with fail
  refine (fwakes_any _ (HL.out.later hq6)).mono ?_
  rintro e w5 ⟨rfl, hb5⟩
  have hq7 := hq6.trans (hb5.mono hq6.size)
  obtain ⟨la, a0, a1, a2, a3, a4, a5, a6, a7⟩ := hC5.later hb5
  obtain ⟨lb, b0, b1, b2, b3, b4, b5, b6, b7⟩ := hD4.later hb5
  clear hb5 hC5 hD4 hq6
  have te : (e0 == e0) = true := by simp
  go_wp2
  go_ret
  exact ⟨by simp, hq7⟩
end Go.Proofs.YtdcohbdndkphnabDoor
