/-
  The walk of the law FrameGets: it returns true.
-/
import Derived.Test.YtdcohbdndkphnaaDoorFrameWakes
import Derived.Test.YtdcohbdndkphnaaDoorRefFrameGet
namespace Go.Proofs.YtdcohbdndkphnaaDoor
open Go.RowKit
set_option linter.unusedVariables false
set_option linter.unusedSimpArgs false

set_option maxHeartbeats 1000000 in
set_option maxRecDepth 100000 in
theorem sameFrame_any (f : Xm.Fr) (w : World) :
    Calls Tryd.prog 20 #[frV f, frV f] w fun e w' => e = .returned (.bool true) ∧ Below w.heap.size w w' := by
  obtain ⟨sapi, tei, c, k, pf, ns, nr, info⟩ := f
  have e1 : (sapi == sapi) = true := by simp
  have e2 : (tei == tei) = true := by simp
  have e3 : (c == c) = true := by simp
  have e4 : (k == k) = true := by simp
  have e5 : (pf == pf) = true := by simp
  have e6 : (ns == ns) = true := by simp
  have e7 : (nr == nr) = true := by simp
  have e8 : (info.toList == info.toList) = true := str_eq rfl
  simp only [frV]
  go_enter Tryd.func20, Tryd.ntmps20
  go_wp2
  go_ret
  exact ⟨by simp, ((Below.refl _ _).alloc (Nat.le_refl _) _).alloc (by simp) _⟩

set_option maxHeartbeats 1000000 in
set_option maxRecDepth 100000 in
theorem walk_FrameGets (s : ByteArray) (net sl : Bool) (w : World) (hs : s.size ≤ 140737488351232) (hL : Laws6 w) :
    Calls Tryd.prog 5 #[.string s, .bool net, .bool sl] w fun e w' => e = .returned (.bool true) ∧ Below w.heap.size w w' := by
  have HM : Hid (∀ t : ByteArray, t.size ≤ 1000000 → ∀ u, Laws6 u → Calls Tryd.prog 18 #[.string t, .bool net] u fun e w' => e = .returned (fgetV (Xm.getRes t net)) ∧ Below u.heap.size u w') := fun t ht u hu => fget_any t net u (by omega) hu
  cases sl
  · go_enter Tryd.func5, Tryd.ntmps5
    go_wp2_with fail
    obtain ⟨t, hT⟩ : ∃ t, t = s.extract 0 (min (s.size : Int) 400).toNat := ⟨_, rfl⟩
    have hts : t.size ≤ 400 := by rw [hT]; simp; omega
    rw [← hT]
    clear hT
    have hq0 : Below w.heap.size w w := Below.refl _ _
    refine (HM.out t (by omega) _ (hL.later hq0)).mono ?_
    rintro e w1 ⟨rfl, hb1⟩
    have hq1 := hq0.trans (hb1.mono hq0.size)
    clear hb1
    generalize hR : Xm.getRes t net = R
    obtain ⟨⟨sapi, tei, c, k, pf, ns, nr, info⟩, e0⟩ := R
    have HR : Hid (Xm.getRes t net = (⟨sapi, tei, c, k, pf, ns, nr, info⟩, e0)) := hR
    clear hR
    simp only [fgetV, frV]
    have hqa : Below w1.heap.size w1 (w1.alloc (.cells #[.int .i64 sapi, .int .i64 tei, .bool c, .int .i64 k, .bool pf, .int .i64 ns, .int .i64 nr, .string info] 33)) := (Below.refl _ _).alloc (Nat.le_refl _) _
    have hC1 := frc_new w1 sapi tei c k pf ns nr info 33
    have hG := ref_fget_any t net (w1.alloc (.cells #[.int .i64 sapi, .int .i64 tei, .bool c, .int .i64 k, .bool pf, .int .i64 ns, .int .i64 nr, .string info] 33)) (by omega)
    rw [HR.out] at hG
    simp only [fgetV, frV] at hG
    go_wp2_with fail
    refine hG.mono ?_
    rintro e w2 ⟨rfl, hb2⟩
    clear hG
    have hqb := hqa.trans (hb2.mono hqa.size)
    have hC2 := hC1.later hb2
    have hq2 := hq1.trans (hqb.mono hq1.size)
    clear hb2 hqa hqb hC1 hq1
    have hqc : Below w2.heap.size w2 (w2.alloc (.cells #[.int .i64 sapi, .int .i64 tei, .bool c, .int .i64 k, .bool pf, .int .i64 ns, .int .i64 nr, .string info] 34)) := (Below.refl _ _).alloc (Nat.le_refl _) _
    have hC3 := hC2.later hqc
    have hD3 := frc_new w2 sapi tei c k pf ns nr info 34
    have hq3 := hq2.trans (hqc.mono hq2.size)
    clear hqc hC2 hq2
    go_wp2_with fail
    refine (fwakes_any _ (hL.later hq3)).mono ?_
    rintro e w3 ⟨rfl, hb3⟩
    have hq4 := hq3.trans (hb3.mono hq3.size)
    obtain ⟨la, a0, a1, a2, a3, a4, a5, a6, a7⟩ := hC3.later hb3
    obtain ⟨lb, b0, b1, b2, b3, b4, b5, b6, b7⟩ := hD3.later hb3
    clear hb3 hC3 hD3 hq3
    have te : (e0 == e0) = true := by simp
    have hS := sameFrame_any ⟨sapi, tei, c, k, pf, ns, nr, info⟩ w3
    simp only [frV] at hS
    go_wp2_with fail
    refine hS.mono ?_
    rintro e w4 ⟨rfl, hb4⟩
    clear hS
    go_wp2
    go_ret
    exact ⟨by simp, hq4.trans (hb4.mono hq4.size)⟩
  · go_enter Tryd.func5, Tryd.ntmps5
    go_wp2_with fail
    obtain ⟨v, hT⟩ : ∃ t, t = s.extract 0 (min (s.size : Int) 400).toNat := ⟨_, rfl⟩
    have hvs : v.size ≤ 400 := by rw [hT]; simp; omega
    rw [← hT]
    clear hT
    refine (seal_any v _ (by omega)).mono ?_
    rintro e w0 ⟨rfl, hq0⟩
    obtain ⟨t, hT⟩ : ∃ t, t = Fm.sealB v := ⟨_, rfl⟩
    have hts : t.size ≤ 402 := by rw [hT, Fm.sealB_size]; omega
    rw [← hT]
    clear hT
    go_wp2_with fail
    refine (HM.out t (by omega) _ (hL.later hq0)).mono ?_
    rintro e w1 ⟨rfl, hb1⟩
    have hq1 := hq0.trans (hb1.mono hq0.size)
    clear hb1
    generalize hR : Xm.getRes t net = R
    obtain ⟨⟨sapi, tei, c, k, pf, ns, nr, info⟩, e0⟩ := R
    have HR : Hid (Xm.getRes t net = (⟨sapi, tei, c, k, pf, ns, nr, info⟩, e0)) := hR
    clear hR
    simp only [fgetV, frV]
    have hqa : Below w1.heap.size w1 (w1.alloc (.cells #[.int .i64 sapi, .int .i64 tei, .bool c, .int .i64 k, .bool pf, .int .i64 ns, .int .i64 nr, .string info] 33)) := (Below.refl _ _).alloc (Nat.le_refl _) _
    have hC1 := frc_new w1 sapi tei c k pf ns nr info 33
    have hG := ref_fget_any t net (w1.alloc (.cells #[.int .i64 sapi, .int .i64 tei, .bool c, .int .i64 k, .bool pf, .int .i64 ns, .int .i64 nr, .string info] 33)) (by omega)
    rw [HR.out] at hG
    simp only [fgetV, frV] at hG
    go_wp2_with fail
    refine hG.mono ?_
    rintro e w2 ⟨rfl, hb2⟩
    clear hG
    have hqb := hqa.trans (hb2.mono hqa.size)
    have hC2 := hC1.later hb2
    have hq2 := hq1.trans (hqb.mono hq1.size)
    clear hb2 hqa hqb hC1 hq1
    have hqc : Below w2.heap.size w2 (w2.alloc (.cells #[.int .i64 sapi, .int .i64 tei, .bool c, .int .i64 k, .bool pf, .int .i64 ns, .int .i64 nr, .string info] 34)) := (Below.refl _ _).alloc (Nat.le_refl _) _
    have hC3 := hC2.later hqc
    have hD3 := frc_new w2 sapi tei c k pf ns nr info 34
    have hq3 := hq2.trans (hqc.mono hq2.size)
    clear hqc hC2 hq2
    go_wp2_with fail
    refine (fwakes_any _ (hL.later hq3)).mono ?_
    rintro e w3 ⟨rfl, hb3⟩
    have hq4 := hq3.trans (hb3.mono hq3.size)
    obtain ⟨la, a0, a1, a2, a3, a4, a5, a6, a7⟩ := hC3.later hb3
    obtain ⟨lb, b0, b1, b2, b3, b4, b5, b6, b7⟩ := hD3.later hb3
    clear hb3 hC3 hD3 hq3
    have te : (e0 == e0) = true := by simp
    have hS := sameFrame_any ⟨sapi, tei, c, k, pf, ns, nr, info⟩ w3
    simp only [frV] at hS
    go_wp2_with fail
    refine hS.mono ?_
    rintro e w4 ⟨rfl, hb4⟩
    clear hS
    go_wp2
    go_ret
    exact ⟨by simp, hq4.trans (hb4.mono hq4.size)⟩
end Go.Proofs.YtdcohbdndkphnaaDoor
