/-
  The walks of the document's Frame of layer 7, and of sameFrame: two frames that are the same. Nothing that was there is turned.
-/
import Derived.Test.YtfpdkdaoomakgaaRefTeimsg
import Derived.Test.YtfpdkdaoomakgaaTeimsgWakes
namespace Go.Proofs.Ytfpdkdaoomakgaa
open Go.RowKit
set_option linter.unusedVariables false
set_option linter.unusedSimpArgs false

set_option maxHeartbeats 1000000 in
set_option maxRecDepth 100000 in
theorem ref_tframe_any (t ri ai : Int) (w : World) :
    Calls Try.prog 12 #[.agg #[.int .i64 t, .int .i64 ri, .int .i64 ai]] w fun e w' => e = .returned (tfrV t ri ai) ∧ Below w.heap.size w w' := by
  have hP := ref_tput_any t ri ai ((w.alloc (.cells #[.int .i64 t, .int .i64 ri, .int .i64 ai] 33)).alloc (.cells #[.int .i64 0, .int .i64 0, .bool false, .int .i64 0, .bool false, .int .i64 0, .int .i64 0, .string ByteArray.empty] 42))
  have hI := @tfr_in t ri ai
  have hO := @tfr_out t ri ai
  have hE0 := eight_new (w.alloc (.cells #[.int .i64 t, .int .i64 ri, .int .i64 ai] 33)) (.int .i64 0) (.int .i64 0) (.bool false) (.int .i64 0) (.bool false) (.int .i64 0) (.int .i64 0) (.string ByteArray.empty) 42
  rw [show (w.alloc (.cells #[.int .i64 t, .int .i64 ri, .int .i64 ai] 33)).heap.size = w.heap.size + 1 from by simp] at hE0
  have hq0 : Below w.heap.size w ((w.alloc (.cells #[.int .i64 t, .int .i64 ri, .int .i64 ai] 33)).alloc (.cells #[.int .i64 0, .int .i64 0, .bool false, .int .i64 0, .bool false, .int .i64 0, .int .i64 0, .string ByteArray.empty] 42)) := ((Below.refl _ _).alloc (Nat.le_refl _) _).alloc (by simp) _
  obtain ⟨⟨S, e0⟩, hR⟩ : ∃ P, P = Tm.putRes t ri ai := ⟨_, rfl⟩
  rw [← hR] at hP hI hO
  have HI : Hid (e0 = 0 → tfrV t ri ai = .tuple #[frA 63 127 true 6 false 0 0 S, .int .i64 0]) := hI
  have HO : Hid (e0 ≠ 0 → tfrV t ri ai = .tuple #[frA 0 0 false 0 false 0 0 ByteArray.empty, .int .i64 e0]) := hO
  clear hR hI hO
  go_enter Try.func12, Try.ntmps12
  go_wp2_with fail
  refine hP.mono ?_
  rintro e w1 ⟨rfl, hb1⟩
  have hq1 := hq0.trans (hb1.mono hq0.size)
  have hE1 := hE0.later hb1
  clear hP hE0 hq0 hb1
  by_cases h0 : e0 = 0
  · subst h0
    have HI2 : Hid _ := HI.out rfl
    clear HI HO
    have HE : Hid (Eight w1 (w.heap.size + 1)) := hE1
    have hlt := hE1.lt
    obtain ⟨v0, v1, v2, v3, v4, v5, v6, v7, c0, c1, c2, c3, c4, c5, c6, c7, f0, f1, f2, f3, f4, f5, f6, f7⟩ := hE1.parts
    clear hE1
    go_wp2
    obtain ⟨z0, z1, z2, z3, z4, z5, z6, z7⟩ := set8_is HE.out (.int .i64 63) (.int .i64 127) (.bool true) (.int .i64 6) (.bool false) (.int .i64 0) (.int .i64 0) (.string S)
    unfold set8 at z0 z1 z2 z3 z4 z5 z6 z7
    exact bodyPost_ret (v := .tuple #[frA 63 127 true 6 false 0 0 S, .int .i64 0]) (by simp [results, Try.results12, go_sem, frA, z0, z1, z2, z3, z4, z5, z6, z7]) rfl ⟨by rw [HI2.out], set8_below' hq1 (Nat.le_succ _) _ _ _ _ _ _ _ _⟩
  · have HO2 : Hid _ := HO.out h0
    have tb : (e0 != 0) = true := by simpa using h0
    clear HI HO h0
    have HE : Hid (Eight w1 (w.heap.size + 1)) := hE1
    have hlt := hE1.lt
    obtain ⟨v0, v1, v2, v3, v4, v5, v6, v7, c0, c1, c2, c3, c4, c5, c6, c7, f0, f1, f2, f3, f4, f5, f6, f7⟩ := hE1.parts
    clear hE1
    go_wp2
    obtain ⟨z0, z1, z2, z3, z4, z5, z6, z7⟩ := set8_is HE.out (.int .i64 0) (.int .i64 0) (.bool false) (.int .i64 0) (.bool false) (.int .i64 0) (.int .i64 0) (.string ⟨#[]⟩)
    unfold set8 at z0 z1 z2 z3 z4 z5 z6 z7
    have he : ByteArray.empty = ⟨#[]⟩ := rfl
    exact bodyPost_ret (v := .tuple #[frA 0 0 false 0 false 0 0 ByteArray.empty, .int .i64 e0]) (by simp [results, Try.results12, go_sem, frA, he, z0, z1, z2, z3, z4, z5, z6, z7]) rfl ⟨by rw [HO2.out], set8_below' hq1 (Nat.le_succ _) _ _ _ _ _ _ _ _⟩

set_option maxHeartbeats 1000000 in
set_option maxRecDepth 100000 in
theorem samef_any (sapi tei : Int) (c : Bool) (k : Int) (pf : Bool) (ns nr : Int) (info : ByteArray) (w : World) :
    Calls Try.prog 14 #[.agg #[.int .i64 sapi, .int .i64 tei, .bool c, .int .i64 k, .bool pf, .int .i64 ns, .int .i64 nr, .string info], .agg #[.int .i64 sapi, .int .i64 tei, .bool c, .int .i64 k, .bool pf, .int .i64 ns, .int .i64 nr, .string info]] w fun e w' => e = .returned (.bool true) ∧ Below w.heap.size w w' := by
  have e1 : (sapi == sapi) = true := by simp
  have e2 : (tei == tei) = true := by simp
  have e3 : (k == k) = true := by simp
  have e4 : (ns == ns) = true := by simp
  have e5 : (nr == nr) = true := by simp
  have e6 : (c == c) = true := by simp
  have e7 : (pf == pf) = true := by simp
  have e8 : (info.toList == info.toList) = true := by simp
  go_enter Try.func14, Try.ntmps14
  go_wp2
  go_ret
  exact ⟨by simp, ((Below.refl _ _).alloc (Nat.le_refl _) _).alloc (by simp) _⟩
end Go.Proofs.Ytfpdkdaoomakgaa
